import Derived.Test.YtofpegbpgkkgkaaGreatDoorS00
import Derived.Lib.Strings
import Derived.Lib.IndexBytes
import Derived.Test.YtofpegbpgkkgkaaGreatDoorChecked
import Derived.Conc.LoneCalls
import Derived.KernelRfl
import Derived.WalkKit
import Derived.Test.YtofpegbpgkkgkaaGreatDoorProg
import Derived.WalkSpells
import Derived.WalkLawsBesides
import Derived.Lib.IndexMore
import Derived.Lib.IndexLaws
import Derived.Lib.IndexAny
import Derived.Lib.Split
import Derived.Lib.SplitLaws
import Derived.Lib.Case
import Derived.Laws.BitsLemmas
import Derived.Deep.AppendLies
import Derived.Defers
import Derived.Laws.IdiomStrings
import Derived.Laws.MakeOwn
import Derived.Lib.ConvBytes
import Derived.Lib.UnsafeStr
import Derived.Shelf.Strings.Builder1
import Derived.Shelf.Strings.Builder2
import Derived.Shelf.Strings.OnBuilder
import Derived.Shelf.Small.Utf8
import Derived.Shelf.Small.Bits
import Derived.Shelf.Small.Strs
import Derived.Shelf.Small.Wraps
import Derived.Shelf.Strings.BuilderF
import Derived.Shelf.Strings.BuilderK
import Derived.Shelf.Strconv.Atoi
import Derived.Shelf.Strconv.Itoa0
import Derived.Shelf.Strconv.Itoa1
import Derived.Shelf.LaysM
import Derived.Shelf.Strconv.Itoa2
import Derived.Shelf.Strconv.Itoa3
import Derived.Shelf.Strconv.Clone
import Derived.Shelf.Strings.Search1
import Derived.Shelf.Strings.Search2
import Derived.Shelf.Strings.Search3
import Derived.Shelf.Strings.Cut
import Derived.Shelf.Strings.Count
import Derived.Shelf.Strings.Shaped
import Derived.Shelf.Strings.Prefix
import Derived.Shelf.Strings.Split
import Derived.Shelf.Strings.Fold
import Derived.Shelf.Strings.SplitShaped
import Derived.Shelf.Unicode.Latin
import Derived.Shelf.Unicode.DecodeSlow
import Derived.Shelf.Unicode.DecodeAny
import Derived.Shelf.Unicode.CaseLookup
import Derived.Shelf.Unicode.CaseConvert
import Derived.Shelf.Unicode.CaseTo
import Derived.Shelf.Unicode.CaseLaid
import Derived.Shelf.Bytes.Small
import Derived.Laws.BitsAllLaws
import Derived.Deep.QuietTactic
import Derived.BigQuiet
import Derived.Deep.RegionWith
import Derived.Deep.RegionHeld3
import Derived.Maps.AppendAt
import Derived.OwnWalk
import Derived.Deep.RegionLaw
import Derived.BigRegion
import Derived.Deep.Onto
namespace Go.Proofs.YtofpegbpgkkgkaaGreatDoor
set_option maxHeartbeats 8000000
set_option maxRecDepth 1000000
def Im:Nat:=3988292384
def mP (c:Nat):Nat:=(c / 2) ^^^ (if c % 2=1 then Im else 0)
def Dz (c b:Nat):Nat:=if b % 2=c % 2 then c / 2 else (c / 2) ^^^ Im
theorem IX (a b:Nat):(a ^^^ b) / 2=a / 2 ^^^ b / 2:=by
 have:=Nat.shiftRight_xor_distrib (a:=a) (b:=b) (i:=1);simpa [Nat.shiftRight_eq_div_pow] using this
theorem I7 (c b:Nat):mP (c ^^^ b)=Dz c b ^^^ (b / 2):=by
 unfold mP Dz;rw [IX]
 have h:(c ^^^ b) % 2=1 ↔ ¬b % 2=c % 2:=by
  rw [Nat.xor_mod_two_eq_one];omega
 by_cases e:b % 2=c % 2
 ·rw [if_neg (by rw [h];exact fun k=>k e),if_pos e,Nat.xor_zero]
 ·rw [if_pos (h.2 e),if_neg e];rw [Nat.xor_assoc,Nat.xor_assoc,Nat.xor_comm Im]
def jq:Nat→Nat→Nat
 | 0,c=>c
 | n+1,c=>jq n (mP c)
def qv:Nat→Nat→Nat→Nat
 | 0,c,_=>c
 | n+1,c,b=>qv n (Dz c b) (b / 2)
theorem Ap:∀(n c b:Nat),jq n (c ^^^ b)=qv n c b ^^^ (b / 2 ^ n)
 | 0,c,b=>by simp [jq,qv]
 | n+1,c,b=>by
  rw [jq,qv,I7,Ap n,Nat.div_div_eq_div_mul,←Nat.pow_succ']
theorem pG:∀(n c:Nat),jq (n+1) c=mP (jq n c)
 | 0,c=>rfl
 | n+1,c=>by rw [jq,pG n,jq]
theorem EK {c:Nat} (h:c < 2 ^ 32):mP c < 2 ^ 32:=by
 unfold mP;refine Nat.xor_lt_two_pow (by omega) ?_
 split <;> decide
theorem tZ:∀(n:Nat) {c:Nat},c < 2 ^ 32→jq n c < 2 ^ 32
 | 0,_,h=>h
 | n+1,_,h=>tZ n (EK h)
def yP (c:Nat) (b:UInt8):Nat:=qv 8 c b.toNat
theorem Cx (c:Nat) (b:UInt8):jq 8 (c ^^^ b.toNat)=yP c b:=by
 rw [Ap];have:b.toNat / 2 ^ 8=0:=Nat.div_eq_of_lt b.toNat_lt;rw [this,Nat.xor_zero];rfl
def Ao (c:Nat) (l:List UInt8):Nat:=l.foldl yP c
def sV (l:List UInt8):Nat:=4294967295 - Ao 4294967295 l
theorem Cy (c:Nat) (l:List UInt8) (k:Nat) (h:k < l.length):Ao c (l.take (k+1))=yP (Ao c (l.take k)) l[k]:=by
 unfold Ao;rw [List.take_succ_eq_append_getElem h,List.foldl_append];rfl
def bs (l:List UInt8):ByteArray:=⟨l.toArray⟩
theorem aI (l:List UInt8):(bs l).data.toList=l:=rfl
theorem aG (l:List UInt8):(bs l).size=l.length:=by simp [bs,ByteArray.size]
theorem Eb (s:ByteArray):bs s.data.toList=s:=rfl
theorem fW (l:List UInt8) (a b:Nat):(bs l).extract a b=bs ((l.take b).drop a):=by
 have h:((bs l).extract a b).data.toList=(l.take b).drop a:=by
  rw [Lib.extract_data];simp [aI,List.drop_take]
 rw [←h,Eb]
theorem cE (a b:List UInt8):bs a++bs b=bs (a++b):=by
 have h:(bs a++bs b).data.toList=a++b:=by simp [bs]
 rw [←h,Eb]
theorem Gt (l:List UInt8) (k:Nat) (h:k < (bs l).size):(bs l)[k]=l[k]'(by rw [←aG];exact h):=by
 simp [bs,ByteArray.getElem_eq_getElem_data]
def be (l:List UInt8):Nat:=l.foldl (fun n b=>256 * n+b.toNat) 0
theorem sR (l:List UInt8) (b:UInt8):be (l++[b])=256 * be l+b.toNat:=by
 unfold be;rw [List.foldl_append];rfl
theorem I4 (l:List UInt8) (k:Nat) (h:k < l.length):be (l.take (k+1))=256 * be (l.take k)+l[k].toNat:=by
 rw [List.take_succ_eq_append_getElem h,sR]
theorem BK {P:List UInt8→Prop} (a:P []) (c:∀l b,P l→P (l++[b])) (l:List UInt8):P l:=by
 have h:∀r:List UInt8,P r.reverse:=fun r=>by
  induction r with
  | nil=>exact a
  | cons b r ih=>rw [List.reverse_cons];exact c _ _ ih
 have:=h l.reverse
 rwa [List.reverse_reverse] at this
theorem Ad (l:List UInt8):be l < 256 ^ l.length:=by
 refine BK (P:=fun l=>be l < 256 ^ l.length) (by decide) (fun l b a=>?_) l
 ·rw [sR,List.length_append,List.length_singleton,Nat.pow_succ];have:=b.toNat_lt;omega
def az:Nat→Nat→List UInt8
 | 0,_=>[]
 | k+1,n=>az k (n / 256)++[UInt8.ofNat n]
theorem bf:∀(k n:Nat),(az k n).length=k
 | 0,_=>rfl
 | k+1,n=>by rw [az,List.length_append,bf k];rfl
theorem lI:∀(k n:Nat),be (az k n)=n % 256 ^ k
 | 0,n=>by simp [az,be,Nat.mod_one]
 | k+1,n=>by
  rw [az,sR,lI k,UInt8.toNat_ofNat',Nat.pow_succ' (n:=k)];rw [Nat.mod_mul (x:=n) (a:=256) (b:=256 ^ k)];omega
theorem tP:∀(l:List UInt8),az l.length (be l)=l:=by
 intro l;refine BK (P:=fun l=>az l.length (be l)=l) rfl (fun l b a=>?_) l
 ·rw [List.length_append,List.length_singleton,az,sR];have h:=b.toNat_lt;have e:(256 * be l+b.toNat) / 256=be l:=by omega
  rw [e,a]
  congr 2
  apply UInt8.toNat_inj.1;rw [UInt8.toNat_ofNat'];omega
open Go.Conc Go.RowKit
theorem IG (sb d s r:Nat) (g:Bool) (a:Array Value) (l:List UInt8) (w:World) (m:w.cell? ⟨sb,3,none⟩=some (.chan (some d))) (h:w.heap[d]? =some (.chan 3 a false s r g)) (b:a.size < 3) (o:l.length≤1048576):
  Calls Tryz.prog 62 #[.pointer (some ⟨sb,0,none⟩),.string (bs l)] w fun e j=>e= .returned (.tuple #[])∧w.setChan d 3 (a.push (.string (bs (l++[13,10])))) false (s+1) r g=j:=by
 have p:=aG l;have i:¬9223372036854775807 < l.length+2:=by omega
 refine calls_of_loneTo fun k=>?_
 have e:Frame.enter Tryz.prog 62 #[.pointer (some ⟨sb,0,none⟩),.string (bs l)] .normal=(base 62).at ⟨#[.pointer (some ⟨sb,0,none⟩),.string (bs l),undef,undef,undef,undef,undef,undef,undef,undef],[]⟩ [.code (Tryz.f62.body.getD .skip)]:=by
  simp [Frame.enter,Frame.at,Tryz.func62,base,Tryz.f62]
 rw [e];refine LoneTo.goes (n:=7) ?_;simp only [Tryz.f62,Option.getD_some]
 s_reg
 s_op
 s_op
 s_op
 s_op
 s_op
 s_op
 s_stop
 have f:(bs l++(⟨#[13,10]⟩:ByteArray))=bs (l++[13,10]):=(cE l [13,10]).symm;refine LoneTo.step (step_lone_send_room (c:=d) (cap:=3) (buf:=a) (s:=s) (r:=r) (tm:=g) (v:= .string (bs (l++[13,10]))) (stepG_comm (cases:=#[scase d (.string (bs (l++[13,10]))) (.tuple #[])]) (blocking:=true) (shape:= .send) (w':=w) rfl rfl (by decide) (by simp [execOp,scase,Act.eval,f])) h b) ?_;rw [Frame.finish_at]
 walk_nrm
 refine LoneTo.goes (n:=2) ?_
 s_c stepG_region_end
 s_c stepG_end
 s_stop
 refine LoneTo.done ⟨.returned (.tuple #[]),_,rfl,⟨rfl,rfl⟩,rfl,rfl,rfl,rfl,_,Tryz.func62,by simp [results,Tryz.f62,Frame.at]⟩
open Go.RowKit
def dU (w w':World):Prop:=w'.os=w.os∧w'.tape=w.tape∧w'.output=w.output
theorem dU.refl (w:World):dU w w:=⟨rfl,rfl,rfl⟩
theorem dU.trans {a b c:World} (h:dU a b) (d:dU b c):dU a c:=⟨d.1.trans h.1,d.2.1.trans h.2.1,d.2.2.trans h.2.2⟩
theorem dU.of_below {B:Nat} {w a:World} (h:Below B w a):dU w a:=⟨h.os,h.tape,h.output⟩
theorem kV:∀(n:Nat) (w:World),dU w (w.drewN n)
 | 0,w=>dU.refl w
 | n+1,w=>(show dU w w.drew from ⟨rfl,rfl,rfl⟩).trans (kV n w.drew)
structure aL (b:Nat) (w w':World):Prop where
 size:w'.heap.size=w.heap.size
 block:∀c:Nat,c≠b→w'.heap[c]? =w.heap[c]?
 still:dU w w'
theorem aL.refl (b:Nat) (w:World):aL b w w:=⟨rfl,fun _ _=>rfl,dU.refl w⟩
theorem aL.trans {b:Nat} {w f a:World} (h:aL b w f) (d:aL b f a):aL b w a:=⟨d.1.trans h.1,fun c e=>(d.2 c e).trans (h.2 c e),h.3.trans d.3⟩
theorem aL.drewN {b:Nat} {w a:World} (h:aL b w a) (n:Nat):aL b w (a.drewN n):=⟨by simpa using h.1,fun c d=>by simpa using h.2 c d,h.3.trans (kV n a)⟩
theorem aL.setCell {b i:Nat} {w a:World} (h:aL b w a) (v:Value):aL b w (a.setCell ⟨b,i,none⟩ v):=
 ⟨by simpa using h.1,fun c d=>(heap_setCell_other a ⟨b,i,none⟩ c v d).trans (h.2 c d),h.3.trans ⟨rfl,rfl,rfl⟩⟩
theorem aL.below {b B:Nat} {w a:World} (h:aL b w a) (c:B≤b):Below B w a:=⟨h.3.1,h.3.2.1,h.3.2.2,by rw [h.1];exact Nat.le_refl _,fun k d=>h.2 k (by omega)⟩
theorem IV (n:Int) (h: -9223372036854775808≤n∧n≤9223372036854775807):wrap64 n=n:=by unfold wrap64;omega
theorem sP (l:List UInt8):be (l.take 1) < 256:=by
 cases l with
 | nil=>decide
 | cons b l=>
  have:=b.toNat_lt;show 256 * 0+b.toNat < 256;omega
theorem sQ {l:List UInt8} (h:l.length≤4):be l < 4294967296:=by
 have a:=Ad l;have b:256 ^ l.length≤256 ^ 4:=Nat.pow_le_pow_right (by decide) h;have c:256 ^ 4=4294967296:=by decide
 omega
theorem aA {w j:World} {a i n:Nat} {e:TypeId} {v:Value} {k:List Value} (h:w.ownsRow a e i v n k) (p:∀g b,w.heap[g]? =some (.cells b e (0,0))→a≤g→j.heap[g]? =some (.cells b e (0,0))):j.ownsRow a e i v n k:=by
 obtain ⟨o,d⟩:=h;refine ⟨o,?_⟩
 rcases d with d | ⟨g,c,b,l,f,m,r⟩
 ·exact .inl d
 ·exact .inr ⟨g,c,b,l,f,p g b m f,r⟩
theorem ah {w:World} {k:Nat} {o:Obj} (h:w.heap[k]? =some o):k < w.heap.size:=(Array.getElem?_eq_some_iff.1 h).1
theorem ae {w a:World} (b:Below w.heap.size w a) {k:Nat} {o:Obj} (h:w.heap[k]? =some o):a.heap[k]? =some o:=(b.block k (ah h)).trans h
theorem aP {p:Nat} {w b:World} (c:aL p w b) {k:Nat} {o:Obj} (h:w.heap[k]? =some o) (a:k≠p):b.heap[k]? =some o:=(c.2 k a).trans h
structure aH (A:Nat→Prop) (w w':World):Prop where
 size:w.heap.size≤w'.heap.size
 block:∀k,k < w.heap.size→¬A k→w'.heap[k]? =w.heap[k]?
 still:dU w w'
theorem aH.refl (A:Nat→Prop) (w:World):aH A w w:=⟨Nat.le_refl _,fun _ _ _=>rfl,dU.refl w⟩
theorem aH.trans {A A1:Nat→Prop} {a b c:World} (h:aH A a b) (d:aH A1 b c) (i:∀k,k < a.heap.size→A1 k→A k):aH A a c:=
 ⟨Nat.le_trans h.size d.size,fun k f g=>(d.block k (Nat.lt_of_lt_of_le f h.size) (fun e=>g (i k f e))).trans (h.block k f g),h.still.trans d.still⟩
theorem aH.mono {A B:Nat→Prop} {a b:World} (h:aH A a b) (f:∀k,k < a.heap.size→A k→B k):aH B a b:=⟨h.size,fun k c d=>h.block k c (fun e=>d (f k c e)),h.still⟩
theorem aH.below {A:Nat→Prop} {a b:World} (h:Below a.heap.size a b):aH A a b:=⟨h.size,fun k c _=>h.block k c,dU.of_below h⟩
theorem aH.same {p:Nat} {a b:World} (h:aL p a b):aH (fun k=>k=p) a b:=⟨by rw [h.1];exact Nat.le_refl _,fun k _ c=>h.2 k c,h.3⟩
theorem aH.grown {a b:World} {c:Option Nat} (h:a.grownBy b c):aH (fun k=>c=some k) a b:=⟨h.size,fun k d f=>h.block k d (fun e=>f e.symm),⟨h.os,h.tape,h.output⟩⟩
theorem aH.some_ {A:Nat→Prop} {a b:World} (h:aH A a b) {k:Nat} {o:Obj} (e:a.heap[k]? =some o) (c:¬A k):b.heap[k]? =some o:=(h.block k (ah e) c).trans e
theorem Iv (sb:Nat) (a:Value) (u:FrameMode) (w:World) (h:w.cell? ⟨sb,7,none⟩=some a) (f:w.frozen? ⟨sb,7,none⟩=false):
  CallsD Tryz.prog 199 #[.pointer (some ⟨sb,0,none⟩)] u w fun e u' b=>u'=u∧(e= .returned (.tuple #[])∧b=w.setCell ⟨sb,7,none⟩ (.bool true)):=by
 go_enter_d Tryz.func199,Tryz.ntmps199
 go_wp2_with fail
 go_end0
 exact ⟨rfl,rfl⟩
theorem oa (sb:Nat) (a:Value) (u:FrameMode) (w:World) (h:w.cell? ⟨sb,8,none⟩=some a) (f:w.frozen? ⟨sb,8,none⟩=false):
  CallsD Tryz.prog 194 #[.pointer (some ⟨sb,0,none⟩)] u w fun e u' b=>u'=u∧(e= .returned (.tuple #[])∧b=w.setCell ⟨sb,8,none⟩ (.pointer none)):=by
 go_enter_d Tryz.func194,Tryz.ntmps194
 go_wp2_with fail
 go_end0
 exact ⟨rfl,rfl⟩
structure bT (w:World) (sb ch:Nat) (C:Array Value) (ls:List (List UInt8)):Prop where
 blk:w.heap[sb]? =some (.cells C 130 (0,0))
 size:C.size=9
 told:C[3]? =some (.chan (some ch))
 chan:∃s r,w.heap[ch]? =some (.chan 3 (ls.map fun l=>Value.string (bs l)).toArray false s r false)
theorem bT.cell {w:World} {sb a:Nat} {C:Array Value} {b:List (List UInt8)} (h:bT w sb a C b) (j:Nat):w.cell? ⟨sb,j,none⟩=C[j]? :=by rw [Lib.cell_of_heap h.blk]
theorem bT.frozen {w:World} {sb a:Nat} {C:Array Value} {b:List (List UInt8)} (h:bT w sb a C b) (j:Nat):w.frozen? ⟨sb,j,none⟩=false:=Lib.frozen_of_heap h.blk j
theorem bT.ne {w:World} {sb a:Nat} {C:Array Value} {c:List (List UInt8)} (h:bT w sb a C c):sb≠a:=fun e=>by
 obtain ⟨s,r,b⟩:=h.chan;have:=h.blk;rw [e,b] at this;simp at this
theorem bT.set {w:World} {sb a:Nat} {C:Array Value} {b:List (List UInt8)} (h:bT w sb a C b) (j:Nat) (e:j≠3) (v:Value):bT (w.setCell ⟨sb,j,none⟩ v) sb a (C.setIfInBounds j v) b:=by
 obtain ⟨s,r,d⟩:=h.chan;have c:aL sb w (w.setCell ⟨sb,j,none⟩ v):=(aL.refl _ _).setCell _;exact ⟨heap_setCell_same w sb j _ _ v h.blk,by simp [h.size],by rw [Array.getElem?_setIfInBounds_ne e];exact h.told,s,r,(c.2 a (Ne.symm h.ne)).trans d⟩
theorem bT.tell {w:World} {sb a:Nat} {C:Array Value} {b:List (List UInt8)} (h:bT w sb a C b) (j:b.length < 3) (l:List UInt8) (m:l.length≤1048576):
  Calls Tryz.prog 62 #[.pointer (some ⟨sb,0,none⟩),.string (bs l)] w fun e d=>e= .returned (.tuple #[])∧bT d sb a C (b++[l++[13,10]])∧aL a w d:=by
 obtain ⟨s,r,g⟩:=h.chan;refine (IG sb a s r false _ l w ((h.cell 3).trans h.told) g (by simpa using j) m).mono ?_;rintro e d ⟨rfl,rfl⟩;have c:a < w.heap.size:=(Array.getElem?_eq_some_iff.1 g).1;have f:aL a w (w.setChan a 3 ((b.map fun l=>Value.string (bs l)).toArray.push (.string (bs (l++[13,10])))) false (s+1) r false):=⟨by simp [World.setChan],fun k i=>by simp [World.setChan,Array.getElem?_setIfInBounds_ne (Ne.symm i)],⟨rfl,rfl,rfl⟩⟩
 exact ⟨rfl,⟨(f.2 sb h.ne).trans h.blk,h.size,h.told,s+1,r,by rw [Conc.heap_setChan w a 3 _ false (s+1) r false c];simp⟩,f⟩
theorem Iq (sb a:Nat) (C:Array Value) (w:World) (h:bT w sb a C []):
  Calls Tryz.prog 142 #[.pointer (some ⟨sb,0,none⟩)] w fun e g=>e= .returned (.tuple #[])∧bT g sb a (C.setIfInBounds 7 (.bool true)) [[50,50,49,32,98,121,101,13,10]]∧aH (fun k=>k=sb∨k=a) w g:=by
 have i:=Lib.hid (h.tell (by simp) [50,50,49,32,98,121,101] (by decide));have m:=h.size;clear h;go_enter_defers Tryz.func142,Tryz.ntmps142
 go_wp2_with fail
 refine i.out.mono ?_;rintro e n ⟨rfl,b,c⟩;obtain ⟨d,j⟩:∃d,C[7]? =some d:=⟨_,Array.getElem?_eq_getElem (by omega)⟩;go_wp2_with fail
 refine leaves_cons (f:=199) (args:=#[.pointer (some ⟨sb,0,none⟩)]) (by simp) (by simp [go_sem]) ?_;refine (Iv sb d .returning _ ((b.cell 7).trans j) (b.frozen 7)).mono ?_;rintro e u' l ⟨rfl,rfl,rfl⟩;exact ⟨_,results_none rfl _ _ _,rfl,b.set 7 (by decide) _,((aH.same c).mono (fun _ _ e=> .inr e)).trans (aH.same ((aL.refl _ _).setCell _)) (fun _ _ e=> .inl e)⟩
theorem aL.cell {b:Nat} {w d:World} (h:aL b w d) {a:Addr} (c:a.block≠b):d.cell? a=w.cell? a:=World.cell?_of_block (h.2 a.block c)
theorem FM (sb i:Nat) (C:Array Value) (w:World) (h:bT w sb i C []):
  Calls Tryz.prog 143 #[.pointer (some ⟨sb,0,none⟩)] w fun e d=>e= .returned (.tuple #[])∧bT d sb i (C.setIfInBounds 8 (.pointer none)) [[50,53,48,32,111,107,13,10]]∧(∀k,k≠sb→k≠i→d.heap[k]? =w.heap[k]?)∧dU w d∧d.heap.size=w.heap.size:=by
 have n:=Lib.hid (h.tell (by simp) [50,53,48,32,111,107] (by decide));have q:=h.size;clear h;go_enter_defers Tryz.func143,Tryz.ntmps143
 go_wp2_with fail
 refine n.out.mono ?_;rintro e m ⟨rfl,j,c⟩;obtain ⟨l,o⟩:∃l,C[8]? =some l:=⟨_,Array.getElem?_eq_getElem (by omega)⟩;have g:aL sb m (m.setCell ⟨sb,8,none⟩ (.pointer none)):=(aL.refl _ _).setCell _;go_wp2_with fail
 refine leaves_cons (f:=194) (args:=#[.pointer (some ⟨sb,0,none⟩)]) (by simp) (by simp [go_sem]) ?_;refine (oa sb l .returning _ ((j.cell 8).trans o) (j.frozen 8)).mono ?_;rintro e u' p ⟨rfl,rfl,rfl⟩;exact ⟨_,results_none rfl _ _ _,rfl,j.set 8 (by decide) _,fun k a b=>(g.2 k a).trans (c.2 k b),c.3.trans g.3,g.1.trans c.1⟩
theorem E0 (sb o l:Nat) (C:Array Value) (c:List UInt8) (w:World) (h:bT w sb o C []) (x:C[0]? =some (.pointer (some ⟨l,0,none⟩))) (y:w.cell? ⟨l,0,none⟩=some (.string (bs c))) (q:l≠sb) (H:c.length≤255):
  Calls Tryz.prog 144 #[.pointer (some ⟨sb,0,none⟩)] w fun e m=>e= .returned (.tuple #[])∧bT m sb o ((C.setIfInBounds 5 (.bool true)).setIfInBounds 8 (.pointer none)) [[50,53,48,32]++c++[13,10]]∧(∀k,k≠sb→k≠o→m.heap[k]? =w.heap[k]?)∧dU w m∧m.heap.size=w.heap.size:=by
 have I:=h.size;obtain ⟨J,r⟩:∃i,C[5]? =some i:=⟨_,Array.getElem?_eq_getElem (by omega)⟩;have F:=(h.cell 5).trans r;have G:=h.frozen 5;have E:=(h.cell 0).trans x;have j:aL sb w (w.setCell ⟨sb,5,none⟩ (.bool true)):=(aL.refl _ _).setCell _;have z:(w.setCell ⟨sb,5,none⟩ (.bool true)).cell? ⟨l,0,none⟩=some (.string (bs c)):=(j.cell q).trans y;have s:=h.set 5 (by decide) (.bool true);have v:=Lib.hid (s.tell (by simp) ([50,53,48,32]++c) (by rw [List.length_append];simp;omega));have d:(⟨#[50,53,48,32]⟩:ByteArray)++bs c=bs ([50,53,48,32]++c):=cE [50,53,48,32] c;have u:=Lib.hid d;have A:=aG c;clear h s d;go_enter_defers Tryz.func144,Tryz.ntmps144
 go_wp2_with fail
 rw [u.out];refine v.out.mono ?_;rintro e t ⟨rfl,p,g⟩;obtain ⟨i,B⟩:∃i,(C.setIfInBounds 5 (.bool true))[8]? =some i:=⟨_,Array.getElem?_eq_getElem (by simp;omega)⟩;have n:aL sb t (t.setCell ⟨sb,8,none⟩ (.pointer none)):=(aL.refl _ _).setCell _;go_wp2_with fail
 refine leaves_cons (f:=194) (args:=#[.pointer (some ⟨sb,0,none⟩)]) (by simp) (by simp [go_sem]) ?_;refine (oa sb i .returning _ ((p.cell 8).trans B) (p.frozen 8)).mono ?_;rintro e u' D ⟨rfl,rfl,rfl⟩;exact ⟨_,results_none rfl _ _ _,rfl,p.set 8 (by decide) _,fun k a b=>(n.2 k a).trans ((g.2 k b).trans (j.2 k a)),(j.3.trans g.3).trans n.3,n.1.trans (g.1.trans j.1)⟩
theorem oV (w:World):Calls Tryz.prog 198 #[.pointer none] w fun e a=>e= .returned (.bool false)∧w=a:=by
 go_enter Tryz.func198,Tryz.ntmps198;go_wp2_with fail
 go_ret;exact ⟨rfl,rfl⟩
theorem pO (b n c:Nat) (a:Option Addr) (w:World) (h:w.cell? ⟨b,1,none⟩=some (.slice a n c)):Calls Tryz.prog 198 #[.pointer (some ⟨b,0,none⟩)] w fun e d=>e= .returned (.bool (decide (0 < n)))∧w=d:=by
 go_enter Tryz.func198,Tryz.ntmps198;go_wp2_with fail
 go_ret;exact ⟨rfl,rfl⟩
theorem yY (w:World):Calls Tryz.prog 100 #[.pointer none] w fun e a=>e= .returned (.bool false)∧w=a:=by
 go_enter Tryz.func100,Tryz.ntmps100;go_wp2_with fail
 go_ret;exact ⟨rfl,rfl⟩
theorem CL (a:Nat) (w:World) (h:w.cell? ⟨a,2,none⟩=some (.pointer none)):Calls Tryz.prog 100 #[.pointer (some ⟨a,0,none⟩)] w fun e b=>e= .returned (.bool false)∧w=b:=by
 go_enter Tryz.func100,Tryz.ntmps100;go_wp2_with fail
 go_ret;exact ⟨rfl,rfl⟩
theorem AL (a b:Nat) (w:World) (h:w.cell? ⟨a,2,none⟩=some (.pointer (some ⟨b,0,none⟩))):Calls Tryz.prog 100 #[.pointer (some ⟨a,0,none⟩)] w fun e c=>e= .returned (.bool true)∧w=c:=by
 go_enter Tryz.func100,Tryz.ntmps100;go_wp2_with fail
 go_ret;exact ⟨rfl,rfl⟩
theorem Dc {P:Program} {t e:TypeId} {z:Value} {d a:Nat} (k:P.underlying t=some (.slice e)) (b:(P.info? e).map (fun i=>(i.zero,i.size,i.bytes))=some (some z,d,a)) (n:Nat) (g:a * n≤281474976710656) (m:n≤140737488351232) (w:World):
  (Instr.makeSlice t (.int .i64 (n:Int)) (.int .i64 (n:Int))).run P w= .ok (.slice (some ⟨w.heap.size,0,none⟩) n n) (w.alloc (.cells (madeCells z.cells (n * d)) e)):=by
 obtain ⟨i,h,l,j,c⟩:=info_parts b
 have:=run_make (P:=P) w t e i z k h l .i64 .i64 (n:Int) (n:Int) (by omega) (Int.le_refl _) (by
   have f:((a:Int) * (n:Int))=((a * n:Nat):Int):=by rw [Int.natCast_mul]
   rw [c,f]
   generalize a * n=q at g
   omega) (by omega)
 rw [show ((n:Int)).toNat=n by omega,j] at this
 exact this
theorem pA:∀(j n:Nat),az (j+1) n=UInt8.ofNat (n / 256 ^ j)::az j n
 | 0,n=>by simp [az]
 | j+1,n=>by
  rw [az,pA j,az,Nat.div_div_eq_div_mul,←Nat.pow_succ'];rfl
def sO (w:World) (b m j n:Nat):Prop:=∃A:Array Value,w.heap[b]? =some (.cells A 5 (0,0))∧A.toList=List.replicate (m - j) (.int .u8 0)++Lib.byteCells (az j n)
theorem sO.size {m j n:Nat} {A:Array Value} (a:j≤m) (h:A.toList=List.replicate (m - j) (.int .u8 0)++Lib.byteCells (az j n)):A.size=m:=by
 have:=congrArg List.length h;rw [List.length_append,List.length_replicate,Lib.byteCells_length,bf,Array.length_toList] at this;omega
theorem sO.set {w:World} {b m j n N I:Nat} (h:sO w b m j n) (k:j < m) (c:I=m - (j+1)) (d:N=n / 256 ^ j):sO (w.setCell ⟨b,I,none⟩ (.int .u8 ((N:Int) % 256))) b m (j+1) n:=by
 have a:((N:Int) % 256)=(n:Int) / 256 ^ j % 256:=by rw [d];simp
 rw [a,c];clear a d c;obtain ⟨A,f,g⟩:=h;refine ⟨A.setIfInBounds (m - (j+1)) (.int .u8 ((n:Int) / 256 ^ j % 256)),heap_setCell_same w b _ A _ _ f,?_⟩
 have i:((n:Int) / 256 ^ j % 256)=((UInt8.ofNat (n / 256 ^ j)).toNat:Int):=by
  rw [UInt8.toNat_ofNat',show ((n:Int) / 256 ^ j)=((n / 256 ^ j:Nat):Int) by simp]
  omega
 rw [Array.toList_setIfInBounds,g,i,pA]
 have e:List.replicate (m - j) (Value.int .u8 0)=List.replicate (m - (j+1)) (.int .u8 0)++[.int .u8 0]:=by
  rw [show m - j=(m - (j+1))+1 by omega,List.replicate_succ']
 rw [e,List.append_assoc,List.set_append_right _ _ (by simp)];simp [Lib.byteCells]
def jC (l:List UInt8):List UInt8:=az 1 l.length++l
def bJ (l:List UInt8):List UInt8:=az 4 l.length++(az 4 (sV l)++l)
def fB (l:List Nat):List UInt8:=l.flatMap (az 1)
theorem zr (l:List Nat) (k:Nat) (h:k < l.length):fB (l.take (k+1))=fB (l.take k)++az 1 l[k]:=by
 unfold fB;rw [List.take_succ_eq_append_getElem h,List.flatMap_append];simp
theorem jd (l:List Nat):(fB l).length=l.length:=by
 induction l with
 | nil=>rfl
 | cons a l ih=>show (az 1 a++fB l).length=_;rw [List.length_append,bf,ih,List.length_cons];omega
def aM (id:Nat) (l:List Nat):List UInt8:=az 4 id++(az 1 l.length++fB l)
def aZ (l:List Nat):List Value:=l.map fun (n:Nat)=>Value.int .i64 (n:Int)
def JK:Obj→Option TypeId
 | .cells _ t _=>some t
 | _=>none
structure cJ (ts:List TypeId) (w w':World):Prop where
 size:w.heap.size≤w'.heap.size
 block:∀(b:Nat) (o:Obj),w.heap[b]? =some o→(∀t∈ts,JK o≠some t)→w'.heap[b]? =some o
 still:dU w w'
theorem cJ.refl (ts:List TypeId) (w:World):cJ ts w w:=⟨Nat.le_refl _,fun _ _ h _=>h,dU.refl w⟩
theorem cJ.trans {ts:List TypeId} {a b c:World} (h:cJ ts a b) (d:cJ ts b c):cJ ts a c:=⟨Nat.le_trans h.1 d.1,fun k o e n=>d.2 k o (h.2 k o e n) n,h.3.trans d.3⟩
theorem cJ.mono {ts us:List TypeId} {a b:World} (h:cJ ts a b) (c:∀t∈ts,t∈us):cJ us a b:=⟨h.1,fun k o e n=>h.2 k o e (fun t d=>n t (c t d)),h.3⟩
theorem cJ.below {ts:List TypeId} {a b:World} (h:Below a.heap.size a b):cJ ts a b:=⟨h.size,fun k o e _=>(h.block k (by
 rcases Nat.lt_or_ge k a.heap.size with c | c
 ·exact c
 ·rw [Array.getElem?_eq_none c] at e;cases e)).trans e,dU.of_below h⟩
theorem cJ.drewN {c:List TypeId} {a b:World} (h:cJ c a b) (n:Nat):cJ c a (b.drewN n):=⟨by simpa using h.1,fun k o e m=>by simpa using h.2 k o e m,h.3.trans (kV n b)⟩
theorem cJ.alloc {ts:List TypeId} {a b:World} (h:cJ ts a b) (o:Obj):cJ ts a (b.alloc o):=h.trans (cJ.below ((Below.refl _ _).alloc (Nat.le_refl _) o))
theorem cJ.same {g:List TypeId} {a b c:World} {k:Nat} {A:Array Value} {t:TypeId} {z:Nat×Nat} (h:cJ g a b) (i:b.heap[k]? =some (.cells A t z)) (l:t∈g) (f:aL k b c):cJ g a c:=by
 refine h.trans ⟨by rw [f.1];exact Nat.le_refl _,fun j o e n=>?_,f.3⟩
 rcases Nat.decEq j k with d | rfl
 ·rw [f.2 j d];exact e
 ·rw [i] at e;injection e with e;subst e;exact absurd rfl (n t l)
theorem cJ.grown {i:List TypeId} {a b c:World} {d:Option Nat} (h:cJ i a b) (f:b.grownBy c d) (r:∀k,d=some k→∃A t z,b.heap[k]? =some (.cells A t z)∧t∈i):cJ i a c:=by
 refine h.trans ⟨f.size,fun j o e n=>?_,f.os,f.tape,f.output⟩
 have p:j < b.heap.size:=by
  rcases Nat.lt_or_ge j b.heap.size with g | g
  ·exact g
  ·rw [Array.getElem?_eq_none g] at e;cases e
 by_cases l:d=some j
 ·obtain ⟨A,t,z,m,q⟩:=r j l;rw [m] at e;injection e with e;subst e;exact absurd rfl (n t q)
 ·rw [f.block j p (fun k=>l k.symm)];exact e
theorem cJ.cells {c:List TypeId} {a b:World} (h:cJ c a b) {k:Nat} {A:Array Value} {t:TypeId} {z:Nat×Nat} (d:a.heap[k]? =some (.cells A t z)) (f:t ∉ c):b.heap[k]? =some (.cells A t z):=
 h.2 k _ d (fun u g e=>by simp only [JK,Option.some.injEq] at e;exact f (e ▸ g))
theorem E7:(Tryz.prog.info? 3).map (fun i=>(i.zero,i.size,i.bytes))=some (some (.int .i64 0),1,8):=by kernel_rfl
def lg (n:Nat) (l:List UInt8):List Nat:=(List.range n).map fun i=>be ((l.drop i).take 1)
theorem Dn (n:Nat) (l:List UInt8):(lg n l).length=n:=by simp [lg]
def gu (w:World) (q id t:Nat) (f:List UInt8) (v:Value) (b:List UInt8):Prop:=w.heap[q]? =some (.cells #[.int .i64 id,.int .i64 t,.string (bs f),v,.string (bs b)] 45 (0,0))
theorem gu.same {w d:World} {q c t s:Nat} {f b:List UInt8} {v:Value} (h:gu w q c t f v b) (e:aL s w d) (a:q≠s):gu d q c t f v b:=by
 unfold gu at h ⊢;rw [e.2 q a];exact h
theorem gu.cell {w:World} {q a t:Nat} {f b:List UInt8} {v:Value} (h:gu w q a t f v b) (j:Nat):w.cell? ⟨q,j,none⟩=(#[.int .i64 a,.int .i64 t,.string (bs f),v,.string (bs b)]:Array Value)[j]? ∧w.frozen? ⟨q,j,none⟩=false:=
 ⟨Lib.cell_of_heap h j,Lib.frozen_of_heap h j⟩
theorem nR:(Tryz.prog.info? 9).map (fun i=>(i.zero,i.size,i.bytes))=some (some (.string ⟨#[]⟩),1,16):=by kernel_rfl
theorem dJ {w i:World} {a f n b:Nat} {e:TypeId} {v:Value} {j:List Value} (h:w.ownsRow a e f v n j) (p:aL b w i) (q:b < a):i.ownsRow a e f v n j:=by
 refine ⟨h.1,?_⟩
 rcases h.2 with h | ⟨g,c,d,k,l,m,o⟩
 ·exact .inl h
 ·exact .inr ⟨g,c,d,k,l,(p.2 g (by omega)).trans m,o⟩
end Go.Proofs.YtofpegbpgkkgkaaGreatDoor
