import Derived.Test.YtofpegbpgkkgkaaGreatDoorS00
import Derived.Lib.Strings
import Derived.Lib.IndexBytes
import Derived.Test.YtofpegbpgkkgkaaGreatDoorProg
import Derived.WalkKit
import Derived.WalkSpells
import Derived.WalkLawsBesides
import Derived.Lib.IndexMore
import Derived.Lib.IndexLaws
import Derived.Lib.IndexAny
import Derived.Lib.Split
import Derived.Lib.SplitLaws
import Derived.Lib.Case
import Derived.Laws.BitsLemmas
import Derived.Deep.AppendLies
import Derived.Laws.IdiomStrings
import Derived.Laws.MakeOwn
import Derived.Lib.ConvBytes
import Derived.Lib.UnsafeStr
import Derived.Shelf.Strings.Builder1
import Derived.Shelf.Strings.Builder2
import Derived.Shelf.Strings.OnBuilder
import Derived.Shelf.Small.Utf8
import Derived.Shelf.Small.Bits
import Derived.Shelf.Small.Strs
import Derived.Shelf.Small.Wraps
import Derived.Shelf.Strings.BuilderF
import Derived.Shelf.Strings.BuilderK
import Derived.Shelf.Strconv.Atoi
import Derived.Shelf.Strconv.Itoa0
import Derived.Shelf.Strconv.Itoa1
import Derived.Shelf.LaysM
import Derived.Shelf.Strconv.Itoa2
import Derived.Shelf.Strconv.Itoa3
import Derived.Shelf.Strconv.Clone
import Derived.Shelf.Strings.Search1
import Derived.Shelf.Strings.Search2
import Derived.Shelf.Strings.Search3
import Derived.Shelf.Strings.Cut
import Derived.Shelf.Strings.Count
import Derived.Shelf.Strings.Shaped
import Derived.Shelf.Strings.Prefix
import Derived.Shelf.Strings.Split
import Derived.Shelf.Strings.Fold
import Derived.Shelf.Strings.SplitShaped
import Derived.Shelf.Unicode.Latin
import Derived.Shelf.Unicode.DecodeSlow
import Derived.Shelf.Unicode.DecodeAny
import Derived.Shelf.Unicode.CaseLookup
import Derived.Shelf.Unicode.CaseConvert
import Derived.Shelf.Unicode.CaseTo
import Derived.Shelf.Unicode.CaseLaid
import Derived.Shelf.Bytes.Small
import Derived.Laws.BitsAllLaws
import Derived.Deep.QuietTactic
import Derived.BigQuiet
import Derived.Deep.RegionWith
import Derived.Deep.RegionHeld3
import Derived.Maps.AppendAt
import Derived.OwnWalk
import Derived.Deep.RegionLaw
import Derived.BigRegion
import Derived.Deep.Onto
import Derived.Maps.OwnSet
import Derived.WalkArith
import Derived.Test.YtofpegbpgkkgkaaGreatDoorChecked
import Derived.Conc.LoneCalls
import Derived.KernelRfl
import Derived.Conc.LoneSelect
namespace Go.Proofs.YtofpegbpgkkgkaaGreatDoor
set_option maxHeartbeats 8000000
set_option maxRecDepth 1000000
def Im:Nat:=3988292384
def mP (c:Nat):Nat:=(c / 2) ^^^ (if c % 2=1 then Im else 0)
def Dz (c b:Nat):Nat:=if b % 2=c % 2 then c / 2 else (c / 2) ^^^ Im
theorem IX (a b:Nat):(a ^^^ b) / 2=a / 2 ^^^ b / 2:=by
 have:=Nat.shiftRight_xor_distrib (a:=a) (b:=b) (i:=1);simpa [Nat.shiftRight_eq_div_pow] using this
theorem I7 (c b:Nat):mP (c ^^^ b)=Dz c b ^^^ (b / 2):=by
 unfold mP Dz;rw [IX]
 have h:(c ^^^ b) % 2=1 ↔ ¬b % 2=c % 2:=by
  rw [Nat.xor_mod_two_eq_one];omega
 by_cases e:b % 2=c % 2
 ·rw [if_neg (by rw [h];exact fun k=>k e),if_pos e,Nat.xor_zero]
 ·rw [if_pos (h.2 e),if_neg e];rw [Nat.xor_assoc,Nat.xor_assoc,Nat.xor_comm Im]
def jq:Nat→Nat→Nat
 | 0,c=>c
 | n+1,c=>jq n (mP c)
def qv:Nat→Nat→Nat→Nat
 | 0,c,_=>c
 | n+1,c,b=>qv n (Dz c b) (b / 2)
theorem Ap:∀(n c b:Nat),jq n (c ^^^ b)=qv n c b ^^^ (b / 2 ^ n)
 | 0,c,b=>by simp [jq,qv]
 | n+1,c,b=>by
  rw [jq,qv,I7,Ap n,Nat.div_div_eq_div_mul,←Nat.pow_succ']
theorem pG:∀(n c:Nat),jq (n+1) c=mP (jq n c)
 | 0,c=>rfl
 | n+1,c=>by rw [jq,pG n,jq]
theorem EK {c:Nat} (h:c < 2 ^ 32):mP c < 2 ^ 32:=by
 unfold mP;refine Nat.xor_lt_two_pow (by omega) ?_
 split <;> decide
theorem tZ:∀(n:Nat) {c:Nat},c < 2 ^ 32→jq n c < 2 ^ 32
 | 0,_,h=>h
 | n+1,_,h=>tZ n (EK h)
def yP (c:Nat) (b:UInt8):Nat:=qv 8 c b.toNat
theorem Cx (c:Nat) (b:UInt8):jq 8 (c ^^^ b.toNat)=yP c b:=by
 rw [Ap];have:b.toNat / 2 ^ 8=0:=Nat.div_eq_of_lt b.toNat_lt;rw [this,Nat.xor_zero];rfl
def Ao (c:Nat) (l:List UInt8):Nat:=l.foldl yP c
def sV (l:List UInt8):Nat:=4294967295 - Ao 4294967295 l
theorem Cy (c:Nat) (l:List UInt8) (k:Nat) (h:k < l.length):Ao c (l.take (k+1))=yP (Ao c (l.take k)) l[k]:=by
 unfold Ao;rw [List.take_succ_eq_append_getElem h,List.foldl_append];rfl
def bs (l:List UInt8):ByteArray:=⟨l.toArray⟩
theorem aI (l:List UInt8):(bs l).data.toList=l:=rfl
theorem aG (l:List UInt8):(bs l).size=l.length:=by simp [bs,ByteArray.size]
theorem Eb (s:ByteArray):bs s.data.toList=s:=rfl
theorem fW (l:List UInt8) (a b:Nat):(bs l).extract a b=bs ((l.take b).drop a):=by
 have h:((bs l).extract a b).data.toList=(l.take b).drop a:=by
  rw [Lib.extract_data];simp [aI,List.drop_take]
 rw [←h,Eb]
theorem cE (a b:List UInt8):bs a++bs b=bs (a++b):=by
 have h:(bs a++bs b).data.toList=a++b:=by simp [bs]
 rw [←h,Eb]
theorem Gt (l:List UInt8) (k:Nat) (h:k < (bs l).size):(bs l)[k]=l[k]'(by rw [←aG];exact h):=by
 simp [bs,ByteArray.getElem_eq_getElem_data]
def be (l:List UInt8):Nat:=l.foldl (fun n b=>256 * n+b.toNat) 0
theorem sR (l:List UInt8) (b:UInt8):be (l++[b])=256 * be l+b.toNat:=by
 unfold be;rw [List.foldl_append];rfl
theorem I4 (l:List UInt8) (k:Nat) (h:k < l.length):be (l.take (k+1))=256 * be (l.take k)+l[k].toNat:=by
 rw [List.take_succ_eq_append_getElem h,sR]
theorem BK {P:List UInt8→Prop} (a:P []) (c:∀l b,P l→P (l++[b])) (l:List UInt8):P l:=by
 have h:∀r:List UInt8,P r.reverse:=fun r=>by
  induction r with
  | nil=>exact a
  | cons b r ih=>rw [List.reverse_cons];exact c _ _ ih
 have:=h l.reverse
 rwa [List.reverse_reverse] at this
theorem Ad (l:List UInt8):be l < 256 ^ l.length:=by
 refine BK (P:=fun l=>be l < 256 ^ l.length) (by decide) (fun l b a=>?_) l
 ·rw [sR,List.length_append,List.length_singleton,Nat.pow_succ];have:=b.toNat_lt;omega
def az:Nat→Nat→List UInt8
 | 0,_=>[]
 | k+1,n=>az k (n / 256)++[UInt8.ofNat n]
theorem bf:∀(k n:Nat),(az k n).length=k
 | 0,_=>rfl
 | k+1,n=>by rw [az,List.length_append,bf k];rfl
theorem lI:∀(k n:Nat),be (az k n)=n % 256 ^ k
 | 0,n=>by simp [az,be,Nat.mod_one]
 | k+1,n=>by
  rw [az,sR,lI k,UInt8.toNat_ofNat',Nat.pow_succ' (n:=k)];rw [Nat.mod_mul (x:=n) (a:=256) (b:=256 ^ k)];omega
theorem tP:∀(l:List UInt8),az l.length (be l)=l:=by
 intro l;refine BK (P:=fun l=>az l.length (be l)=l) rfl (fun l b a=>?_) l
 ·rw [List.length_append,List.length_singleton,az,sR];have h:=b.toNat_lt;have e:(256 * be l+b.toNat) / 256=be l:=by omega
  rw [e,a]
  congr 2
  apply UInt8.toNat_inj.1;rw [UInt8.toNat_ofNat'];omega
open Go.RowKit
def dU (w w':World):Prop:=w'.os=w.os∧w'.tape=w.tape∧w'.output=w.output
theorem dU.refl (w:World):dU w w:=⟨rfl,rfl,rfl⟩
theorem dU.trans {a b c:World} (h:dU a b) (d:dU b c):dU a c:=⟨d.1.trans h.1,d.2.1.trans h.2.1,d.2.2.trans h.2.2⟩
theorem dU.of_below {B:Nat} {w a:World} (h:Below B w a):dU w a:=⟨h.os,h.tape,h.output⟩
theorem kV:∀(n:Nat) (w:World),dU w (w.drewN n)
 | 0,w=>dU.refl w
 | n+1,w=>(show dU w w.drew from ⟨rfl,rfl,rfl⟩).trans (kV n w.drew)
structure aL (b:Nat) (w w':World):Prop where
 size:w'.heap.size=w.heap.size
 block:∀c:Nat,c≠b→w'.heap[c]? =w.heap[c]?
 still:dU w w'
theorem aL.refl (b:Nat) (w:World):aL b w w:=⟨rfl,fun _ _=>rfl,dU.refl w⟩
theorem aL.trans {b:Nat} {w f a:World} (h:aL b w f) (d:aL b f a):aL b w a:=⟨d.1.trans h.1,fun c e=>(d.2 c e).trans (h.2 c e),h.3.trans d.3⟩
theorem aL.drewN {b:Nat} {w a:World} (h:aL b w a) (n:Nat):aL b w (a.drewN n):=⟨by simpa using h.1,fun c d=>by simpa using h.2 c d,h.3.trans (kV n a)⟩
theorem aL.setCell {b i:Nat} {w a:World} (h:aL b w a) (v:Value):aL b w (a.setCell ⟨b,i,none⟩ v):=
 ⟨by simpa using h.1,fun c d=>(heap_setCell_other a ⟨b,i,none⟩ c v d).trans (h.2 c d),h.3.trans ⟨rfl,rfl,rfl⟩⟩
theorem aL.below {b B:Nat} {w a:World} (h:aL b w a) (c:B≤b):Below B w a:=⟨h.3.1,h.3.2.1,h.3.2.2,by rw [h.1];exact Nat.le_refl _,fun k d=>h.2 k (by omega)⟩
theorem IV (n:Int) (h: -9223372036854775808≤n∧n≤9223372036854775807):wrap64 n=n:=by unfold wrap64;omega
theorem sP (l:List UInt8):be (l.take 1) < 256:=by
 cases l with
 | nil=>decide
 | cons b l=>
  have:=b.toNat_lt;show 256 * 0+b.toNat < 256;omega
theorem sQ {l:List UInt8} (h:l.length≤4):be l < 4294967296:=by
 have a:=Ad l;have b:256 ^ l.length≤256 ^ 4:=Nat.pow_le_pow_right (by decide) h;have c:256 ^ 4=4294967296:=by decide
 omega
theorem ep {w w':World} {a i n:Nat} {e:TypeId} {v:Value} {j:List Value} (h:w.ownsRow a e i v n j) (o:∀g b,w.heap[g]? =some (.cells b e (0,0))→a≤g→w'.heap[g]? =some (.cells b e (0,0))):w'.ownsRow a e i v n j:=by
 obtain ⟨m,d⟩:=h;refine ⟨m,?_⟩
 rcases d with d | ⟨g,c,b,k,f,l,r⟩
 ·exact .inl d
 ·exact .inr ⟨g,c,b,k,f,o g b l f,r⟩
theorem ah {w:World} {k:Nat} {o:Obj} (h:w.heap[k]? =some o):k < w.heap.size:=(Array.getElem?_eq_some_iff.1 h).1
theorem ae {w w':World} (a:Below w.heap.size w w') {k:Nat} {o:Obj} (h:w.heap[k]? =some o):w'.heap[k]? =some o:=(a.block k (ah h)).trans h
theorem aP {p:Nat} {w b:World} (c:aL p w b) {k:Nat} {o:Obj} (h:w.heap[k]? =some o) (a:k≠p):b.heap[k]? =some o:=(c.2 k a).trans h
structure aH (A:Nat→Prop) (w w':World):Prop where
 size:w.heap.size≤w'.heap.size
 block:∀k,k < w.heap.size→¬A k→w'.heap[k]? =w.heap[k]?
 still:dU w w'
theorem aH.refl (A:Nat→Prop) (w:World):aH A w w:=⟨Nat.le_refl _,fun _ _ _=>rfl,dU.refl w⟩
theorem aH.trans {A A1:Nat→Prop} {a b c:World} (h:aH A a b) (d:aH A1 b c) (i:∀k,k < a.heap.size→A1 k→A k):aH A a c:=
 ⟨Nat.le_trans h.size d.size,fun k f g=>(d.block k (Nat.lt_of_lt_of_le f h.size) (fun e=>g (i k f e))).trans (h.block k f g),h.still.trans d.still⟩
theorem aH.mono {A B:Nat→Prop} {a b:World} (h:aH A a b) (f:∀k,k < a.heap.size→A k→B k):aH B a b:=⟨h.size,fun k c d=>h.block k c (fun e=>d (f k c e)),h.still⟩
theorem aH.below {A:Nat→Prop} {a b:World} (h:Below a.heap.size a b):aH A a b:=⟨h.size,fun k c _=>h.block k c,dU.of_below h⟩
theorem aH.same {p:Nat} {a b:World} (h:aL p a b):aH (fun k=>k=p) a b:=⟨by rw [h.1];exact Nat.le_refl _,fun k _ c=>h.2 k c,h.3⟩
theorem aH.grown {a b:World} {c:Option Nat} (h:a.grownBy b c):aH (fun k=>c=some k) a b:=⟨h.size,fun k d f=>h.block k d (fun e=>f e.symm),⟨h.os,h.tape,h.output⟩⟩
theorem aH.some_ {A:Nat→Prop} {a b:World} (h:aH A a b) {k:Nat} {o:Obj} (e:a.heap[k]? =some o) (c:¬A k):b.heap[k]? =some o:=(h.block k (ah e) c).trans e
def jC (l:List UInt8):List UInt8:=az 1 l.length++l
def bJ (l:List UInt8):List UInt8:=az 4 l.length++(az 4 (sV l)++l)
def fB (l:List Nat):List UInt8:=l.flatMap (az 1)
theorem zr (l:List Nat) (k:Nat) (h:k < l.length):fB (l.take (k+1))=fB (l.take k)++az 1 l[k]:=by
 unfold fB;rw [List.take_succ_eq_append_getElem h,List.flatMap_append];simp
theorem jd (l:List Nat):(fB l).length=l.length:=by
 induction l with
 | nil=>rfl
 | cons a l ih=>show (az 1 a++fB l).length=_;rw [List.length_append,bf,ih,List.length_cons];omega
def aM (id:Nat) (l:List Nat):List UInt8:=az 4 id++(az 1 l.length++fB l)
def aZ (l:List Nat):List Value:=l.map fun (n:Nat)=>Value.int .i64 (n:Int)
structure aX where
 id:Nat
 time:Nat
 frm:List UInt8
 tos:List (List UInt8)
 body:List UInt8
def eE (l:List (List UInt8)):List UInt8:=l.flatMap jC
theorem BT (l:List (List UInt8)) (k:Nat) (h:k < l.length):eE (l.take (k+1))=eE (l.take k)++jC l[k]:=by
 unfold eE;rw [List.take_succ_eq_append_getElem h,List.flatMap_append];simp
theorem yi (l:List UInt8):(jC l).length=1+l.length:=by rw [jC,List.length_append,bf]
def k9 (m:aX):List UInt8:=77::(az 4 m.id++(az 4 m.time++(jC m.frm++(az 1 m.tos.length++(eE m.tos++(az 2 m.body.length++m.body))))))
def aY (m:aX) (v:Value):Array Value:=#[.int .i64 m.id,.int .i64 m.time,.string (bs m.frm),v,.string (bs m.body)]
def dQ (m:aX):Prop:=m.id≤4294967295∧m.time≤4294967295∧m.frm.length≤255∧m.tos.length≤255∧(∀t∈m.tos,t.length≤255)∧m.body.length≤1048576
def cm (l:List (List UInt8)):List Value:=l.map fun t=>Value.string (bs t)
def JK:Obj→Option TypeId
 | .cells _ t _=>some t
 | _=>none
structure cJ (ts:List TypeId) (w w':World):Prop where
 size:w.heap.size≤w'.heap.size
 block:∀(b:Nat) (o:Obj),w.heap[b]? =some o→(∀t∈ts,JK o≠some t)→w'.heap[b]? =some o
 still:dU w w'
theorem cJ.refl (ts:List TypeId) (w:World):cJ ts w w:=⟨Nat.le_refl _,fun _ _ h _=>h,dU.refl w⟩
theorem cJ.trans {ts:List TypeId} {a b c:World} (h:cJ ts a b) (d:cJ ts b c):cJ ts a c:=⟨Nat.le_trans h.1 d.1,fun k o e n=>d.2 k o (h.2 k o e n) n,h.3.trans d.3⟩
theorem cJ.mono {ts us:List TypeId} {a b:World} (h:cJ ts a b) (c:∀t∈ts,t∈us):cJ us a b:=⟨h.1,fun k o e n=>h.2 k o e (fun t d=>n t (c t d)),h.3⟩
theorem cJ.below {ts:List TypeId} {a b:World} (h:Below a.heap.size a b):cJ ts a b:=⟨h.size,fun k o e _=>(h.block k (by
 rcases Nat.lt_or_ge k a.heap.size with c | c
 ·exact c
 ·rw [Array.getElem?_eq_none c] at e;cases e)).trans e,dU.of_below h⟩
theorem cJ.drewN {c:List TypeId} {a b:World} (h:cJ c a b) (n:Nat):cJ c a (b.drewN n):=⟨by simpa using h.1,fun k o e m=>by simpa using h.2 k o e m,h.3.trans (kV n b)⟩
theorem cJ.alloc {ts:List TypeId} {a b:World} (h:cJ ts a b) (o:Obj):cJ ts a (b.alloc o):=h.trans (cJ.below ((Below.refl _ _).alloc (Nat.le_refl _) o))
theorem cJ.same {g:List TypeId} {a b c:World} {k:Nat} {A:Array Value} {t:TypeId} {z:Nat×Nat} (h:cJ g a b) (i:b.heap[k]? =some (.cells A t z)) (l:t∈g) (f:aL k b c):cJ g a c:=by
 refine h.trans ⟨by rw [f.1];exact Nat.le_refl _,fun j o e n=>?_,f.3⟩
 rcases Nat.decEq j k with d | rfl
 ·rw [f.2 j d];exact e
 ·rw [i] at e;injection e with e;subst e;exact absurd rfl (n t l)
theorem cJ.grown {i:List TypeId} {a b c:World} {d:Option Nat} (h:cJ i a b) (f:b.grownBy c d) (r:∀k,d=some k→∃A t z,b.heap[k]? =some (.cells A t z)∧t∈i):cJ i a c:=by
 refine h.trans ⟨f.size,fun j o e n=>?_,f.os,f.tape,f.output⟩
 have p:j < b.heap.size:=by
  rcases Nat.lt_or_ge j b.heap.size with g | g
  ·exact g
  ·rw [Array.getElem?_eq_none g] at e;cases e
 by_cases l:d=some j
 ·obtain ⟨A,t,z,m,q⟩:=r j l;rw [m] at e;injection e with e;subst e;exact absurd rfl (n t q)
 ·rw [f.block j p (fun k=>l k.symm)];exact e
theorem cJ.cells {c:List TypeId} {a b:World} (h:cJ c a b) {k:Nat} {A:Array Value} {t:TypeId} {z:Nat×Nat} (d:a.heap[k]? =some (.cells A t z)) (f:t ∉ c):b.heap[k]? =some (.cells A t z):=
 h.2 k _ d (fun u g e=>by simp only [JK,Option.some.injEq] at e;exact f (e ▸ g))
theorem E7:(Tryz.prog.info? 3).map (fun i=>(i.zero,i.size,i.bytes))=some (some (.int .i64 0),1,8):=by kernel_rfl
def lg (n:Nat) (l:List UInt8):List Nat:=(List.range n).map fun i=>be ((l.drop i).take 1)
theorem Dn (n:Nat) (l:List UInt8):(lg n l).length=n:=by simp [lg]
structure fH where
 m:aX
 out:List Bool
structure bp where
 items:List fH
 time:Nat
def EE (l:List Bool):List Value:=l.map Value.bool
def Cd (base:Nat) (w:World) (x:fH×Value×Nat):Prop:=
 w.ownsRow base 9 1 x.2.1 x.1.m.tos.length (cm x.1.m.tos)∧base≤x.2.2∧w.heap[x.2.2]? =some (.cells (EE x.1.out).toArray 4 (0,0))∧x.1.out.length=x.1.m.tos.length∧1≤x.1.m.tos.length∧dQ x.1.m
theorem dG {ts:List TypeId} {w f:World} {a d n:Nat} {e:TypeId} {v:Value} {i:List Value} (p:cJ ts w f) (o:e ∉ ts) (h:w.ownsRow a e d v n i):f.ownsRow a e d v n i:=by
 refine ⟨h.1,?_⟩
 rcases h.2 with h | ⟨g,b,c,j,k,l,m⟩
 ·exact .inl h
 ·exact .inr ⟨g,b,c,j,k,p.cells l o,m⟩
theorem Cd.touch {b:List TypeId} {w d:World} {a:Nat} {x:fH×Value×Nat} (c:cJ b w d) (e:9 ∉ b) (f:4 ∉ b) (h:Cd a w x):Cd a d x:=
 ⟨dG c e h.1,h.2.1,c.cells h.2.2.1 f,h.2.2.2⟩
theorem sZ {w:World} {b:Nat} {o:Obj} (h:w.heap[b]? =some o):b < w.heap.size:=by
 rcases Nat.lt_or_ge b w.heap.size with a | a
 ·exact a
 ·rw [Array.getElem?_eq_none a] at h;cases h
theorem aL.drew {b:Nat} {w a:World} (h:aL b w a):aL b w a.drew:=⟨h.1,h.2,h.3.trans ⟨rfl,rfl,rfl⟩⟩
theorem cJ.drew {a:List TypeId} {w b:World} (h:cJ a w b):cJ a w b.drew:=⟨h.1,h.2,h.3.trans ⟨rfl,rfl,rfl⟩⟩
theorem DQ {w:World} {a b:Nat} {A B:Array Value} {t u:TypeId} {y z:Nat×Nat} (d:w.heap[a]? =some (.cells A t y)) (c:w.heap[b]? =some (.cells B u z)) (h:t≠u):a≠b:=by
 intro e;subst e;rw [d] at c;injection c with c;injection c with _ c _;exact h c
def jV (o:List Bool) (l:List Nat):List Bool:=l.foldl (fun o x=>o.set x true) o
theorem uS (o:List Bool) (l:List Nat):(jV o l).length=o.length:=by
 induction l generalizing o with
 | nil=>rfl
 | cons x l ih=>show (jV (o.set x true) l).length=_;rw [ih,List.length_set]
def bp.outs (S:bp) (K:Nat) (ps:List Nat):bp:=⟨S.items.modify K (fun x=>⟨x.m,jV x.out ps⟩),S.time⟩
def zL (l:List UInt8):List UInt8×List UInt8:=((l.drop 1).take (be (l.take 1)),(l.drop 1).drop (be (l.take 1)))
def sK:Nat→List UInt8→List (List UInt8)×List UInt8
 | 0,l=>([],l)
 | n+1,l=>((zL l).1::(sK n (zL l).2).1,(sK n (zL l).2).2)
theorem we:∀(n:Nat) (l:List UInt8),(sK n l).1.length=n
 | 0,_=>rfl
 | n+1,l=>by rw [sK,List.length_cons,we n]
theorem IP (l:List UInt8):(zL l).1.length < 256:=by
 have h:=sP l;unfold zL;rw [List.length_take];omega
theorem Eu:∀(n:Nat) (l:List UInt8),∀t∈(sK n l).1,t.length < 256
 | 0,_,t,h=>by cases h
 | n+1,l,t,h=>by
  rw [sK] at h
  rcases List.mem_cons.1 h with rfl | h
  ·exact IP l
  ·exact Eu n _ t h
def iL (l:List UInt8):aX:=
 ⟨be (l.take 4),be ((l.drop 4).take 4),(zL (l.drop 8)).1,(sK (be ((zL (l.drop 8)).2.take 1)) ((zL (l.drop 8)).2.drop 1)).1,
  ((sK (be ((zL (l.drop 8)).2.take 1)) ((zL (l.drop 8)).2.drop 1)).2.drop 2).take (be ((sK (be ((zL (l.drop 8)).2.take 1)) ((zL (l.drop 8)).2.drop 1)).2.take 2))⟩
def fZ (k:Nat) (l:List UInt8):Option (Nat×List UInt8):=if k≤l.length then some (be (l.take k),l.drop k) else none
def bm (k:Nat) (l:List UInt8):Option (List UInt8×List UInt8):=if k≤l.length then some (l.take k,l.drop k) else none
def wm (k:Nat) (l:List UInt8):Option (List UInt8×List UInt8):=(fZ k l).bind fun a=>bm a.1 a.2
def xp:Nat→List UInt8→Option (List (List UInt8)×List UInt8)
 | 0,l=>some ([],l)
 | n+1,l=>(wm 1 l).bind fun a=>(xp n a.2).bind fun r=>some (a.1::r.1,r.2)
def oB:Nat→List UInt8→Option (List Nat×List UInt8)
 | 0,l=>some ([],l)
 | n+1,l=>(fZ 1 l).bind fun a=>(oB n a.2).bind fun r=>some (a.1::r.1,r.2)
def nk (l:List UInt8):Option aX:=
 (fZ 4 l).bind fun a=>(fZ 4 a.2).bind fun b=>(wm 1 b.2).bind fun f=>(fZ 1 f.2).bind fun n=>(xp n.1 n.2).bind fun t=>(wm 2 t.2).bind fun d=>if d.2=[] then some ⟨a.1,b.1,f.1,t.1,d.1⟩ else none
def rI (l:List UInt8):Option (Nat×List Nat):=
 (fZ 4 l).bind fun a=>(fZ 1 a.2).bind fun n=>(oB n.1 n.2).bind fun t=>if t.2=[] then some (a.1,t.1) else none
theorem sb {α β:Type} (a:α) (f:α→Option β):(some a).bind f=f a:=rfl
theorem jx {k n:Nat} (r:List UInt8) (h:n < 256 ^ k):fZ k (az k n++r)=some (n,r):=by
 have a:=bf k n;unfold fZ;rw [if_pos (by rw [List.length_append];omega),List.take_append_of_le_length (by omega),List.drop_append_of_le_length (by omega),List.take_of_length_le (by omega),List.drop_eq_nil_of_le (by omega),lI,Nat.mod_eq_of_lt h];rfl
theorem Cn (a r:List UInt8):bm a.length (a++r)=some (a,r):=by
 unfold bm;rw [if_pos (by simp)];simp
theorem zE {k:Nat} (a r:List UInt8) (h:a.length < 256 ^ k):wm k (az k a.length++(a++r))=some (a,r):=by
 unfold wm;rw [jx _ h];exact Cn a r
theorem BX:∀(a:List (List UInt8)) (r:List UInt8),(∀t∈a,t.length < 256)→xp a.length (eE a++r)=some (a,r)
 | [],r,_=>rfl
 | t::a,r,h=>by
  have b:t.length < 256 ^ 1:=h t (by simp);show xp (a.length+1) ((jC t++eE a)++r)=_;rw [xp,jC,List.append_assoc,List.append_assoc,zE t _ b];show (xp a.length (eE a++r)).bind _=_;rw [BX a r (fun x c=>h x (by simp [c]))];rfl
theorem xY:∀(a:List Nat) (r:List UInt8),(∀x∈a,x < 256)→oB a.length (fB a++r)=some (a,r)
 | [],r,_=>rfl
 | x::a,r,h=>by
  have b:x < 256 ^ 1:=h x (by simp);show oB (a.length+1) ((az 1 x++fB a)++r)=_;rw [oB,List.append_assoc,jx _ b];show (oB a.length (fB a++r)).bind _=_;rw [xY a r (fun y c=>h y (by simp [c]))];rfl
def tu (m:aX):Prop:=m.id < 256 ^ 4∧m.time < 256 ^ 4∧m.frm.length < 256∧m.tos.length < 256∧(∀t∈m.tos,t.length < 256)∧m.body.length < 256 ^ 2
theorem xV {m:aX} (h:tu m) {l:List UInt8} (a:k9 m=77::l):nk l=some m:=by
 obtain ⟨b,c,d,e,f,g⟩:=h;unfold k9 at a;injection a with _ a;subst a;unfold nk;rw [jx _ b];simp only [sb];rw [jx _ c];simp only [sb];rw [jC,List.append_assoc,zE m.frm _ d];simp only [sb];rw [jx _ (show m.tos.length < 256 ^ 1 from e)];simp only [sb];rw [BX m.tos _ f];simp only [sb];have:=zE (k:=2) m.body [] g;rw [List.append_nil] at this;rw [this];rfl
theorem xS {b:Nat} {a:List Nat} (c:b < 256 ^ 4) (d:a.length < 256) (e:∀x∈a,x < 256):rI (aM b a)=some (b,a):=by
 unfold rI aM;rw [jx _ c];simp only [sb];rw [jx _ (show a.length < 256 ^ 1 from d)];simp only [sb];have:=xY a [] e;rw [List.append_nil] at this;rw [this];rfl
theorem kC {k n:Nat} {l r:List UInt8} (h:fZ k l=some (n,r)):l=az k n++r∧n=be (l.take k)∧r=l.drop k∧n < 256 ^ k:=by
 unfold fZ at h
 split at h
 ·rename_i c
  injection h with h;injection h with h1 h2;have a:(l.take k).length=k:=by rw [List.length_take];omega
  have e:=tP (l.take k);have b:=Ad (l.take k);rw [a] at e b;subst h1 h2;exact ⟨by rw [e,List.take_append_drop],rfl,rfl,b⟩
 ·cases h
theorem jH {k:Nat} {l a r:List UInt8} (h:bm k l=some (a,r)):l=a++r∧a=l.take k∧r=l.drop k∧a.length=k:=by
 unfold bm at h
 split at h
 ·rename_i b
  injection h with h;injection h with h1 h2;subst h1 h2;exact ⟨by rw [List.take_append_drop],rfl,rfl,by rw [List.length_take];omega⟩
 ·cases h
theorem gm {α β:Type} {o:Option α} {f:α→Option β} {b:β} (h:o.bind f=some b):∃a,o=some a∧f a=some b:=by
 cases o with
 | none=>cases h
 | some a=>exact ⟨a,rfl,h⟩
theorem ti {k:Nat} {l a r:List UInt8} (h:wm k l=some (a,r)):l=az k a.length++(a++r)∧a=(l.drop k).take (be (l.take k))∧r=(l.drop k).drop (be (l.take k))∧a.length < 256 ^ k:=by
 obtain ⟨⟨n,p⟩,m,o⟩:=gm h;obtain ⟨i,c,d,j⟩:=kC m;obtain ⟨e,f,g,b⟩:=jH o;simp only at e f g b;refine ⟨by rw [b,←e];exact i,?_,?_,by rw [b];exact j⟩
 ·rw [←d,←c];exact f
 ·rw [←d,←c];exact g
theorem BV:∀{n:Nat} {l:List UInt8} {b:List (List UInt8)} {r:List UInt8},xp n l=some (b,r)→l=eE b++r∧sK n l=(b,r)
 | 0,l,b,r,h=>by
  injection h with h;injection h with c d;subst c d;exact ⟨rfl,rfl⟩
 | n+1,l,b,r,h=>by
  obtain ⟨⟨a,q⟩,c,d⟩:=gm h;obtain ⟨⟨f,s⟩,o,e⟩:=gm d;injection e with e;injection e with h5 h6;subst h5 h6;obtain ⟨j,k,m,_⟩:=ti c;obtain ⟨g,i⟩:=BV o;simp only at g i;have p:zL l=(a,q):=by unfold zL;rw [←k,←m]
  refine ⟨?_,by rw [sK,p,i]⟩
  show l=(jC a++eE f)++s;rw [jC,List.append_assoc,List.append_assoc,←g];exact j
theorem Fo {l:List UInt8} {m:aX} (h:nk l=some m):k9 m=77::l∧iL l=m:=by
 obtain ⟨⟨M,N⟩,B,h⟩:=gm h;obtain ⟨⟨z,y⟩,C,h⟩:=gm h;obtain ⟨⟨d,K⟩,D,h⟩:=gm h;obtain ⟨⟨n,L⟩,E,h⟩:=gm h;obtain ⟨⟨f,O⟩,F,h⟩:=gm h;obtain ⟨⟨p,P⟩,G,h⟩:=gm h;obtain ⟨g,i,a,_⟩:=kC B;obtain ⟨j,k,o,_⟩:=kC C;obtain ⟨q,r,s,_⟩:=ti D;obtain ⟨t,u,v,_⟩:=kC E;obtain ⟨w,b⟩:=BV F;obtain ⟨c,x,A,_⟩:=ti G;simp only at g i a j k o q r s t u v w b c x A h
 split at h
 ·rename_i e
  injection h with h;subst h e;have H:n=f.length:=by have:=we n L;rw [b] at this;exact this.symm
  rw [List.append_nil] at c;have I:l.drop 8=y:=by rw [o,a,List.drop_drop]
  have J:zL y=(d,K):=by unfold zL;rw [←r,←s]
  refine ⟨?_,?_⟩
  ·unfold k9;simp only;rw [g,j,q,t,w,c,←H];simp only [jC,List.append_assoc]
  ·unfold iL;rw [I,J];simp only;rw [←u,←v,b];simp only;rw [←i,←a,←k,←x]
 ·cases h
theorem xX:∀{n:Nat} {l:List UInt8} {b:List Nat} {r:List UInt8},oB n l=some (b,r)→l=fB b++r∧b=lg n l∧b.length=n
 | 0,l,b,r,h=>by
  injection h with h;injection h with c d;subst c d;exact ⟨rfl,rfl,rfl⟩
 | n+1,l,b,r,h=>by
  obtain ⟨⟨a,t⟩,c,d⟩:=gm h;obtain ⟨⟨f,s⟩,q,e⟩:=gm d;injection e with e;injection e with h5 h6;subst h5 h6;obtain ⟨g,j,k,_⟩:=kC c;obtain ⟨m,o,p⟩:=xX q;simp only at g j k m o p;refine ⟨?_,?_,by rw [List.length_cons,p]⟩
  ·show l=(az 1 a++fB f)++s;rw [List.append_assoc,←m];exact g
  ·rw [o,j,k];simp only [lg,List.range_succ_eq_map,List.map_cons,List.map_map,List.drop_zero]
   congr 1
   apply List.map_congr_left;intro i _;simp
theorem Fm {l:List UInt8} {i:Nat} {c:List Nat} (h:rI l=some (i,c)):l=aM i c∧i=be (l.take 4)∧c=lg (be ((l.drop 4).take 1)) (l.drop 5)∧c.length=be ((l.drop 4).take 1):=by
 obtain ⟨⟨a,w⟩,q,h⟩:=gm h;obtain ⟨⟨n,v⟩,r,h⟩:=gm h;obtain ⟨⟨t,x⟩,s,h⟩:=gm h;obtain ⟨j,k,b,_⟩:=kC q;obtain ⟨m,d,o,_⟩:=kC r;obtain ⟨e,p,f⟩:=xX s;simp only at j k b m d o e p f h
 split at h
 ·rename_i g
  injection h with h;injection h with h4 h5;subst h4 h5 g;rw [List.append_nil] at e;have u:l.drop 5=v:=by rw [o,b,List.drop_drop]
  refine ⟨?_,k,?_,?_⟩
  ·unfold aM;rw [f,←e,←m];exact j
  ·rw [←b,←d,u];exact p
  ·rw [←b,←d];exact f
 ·cases h
theorem Da (l:List UInt8):tu (iL l):=by
 have a:∀x:List UInt8,be (x.take 4) < 256 ^ 4:=fun x=>by
  have:=sQ (l:=x.take 4) (by rw [List.length_take];omega);have d:256 ^ 4=4294967296:=by decide
  omega
 refine ⟨a _,a _,IP _,?_,Eu _ _,?_⟩
 ·unfold iL;simp only;rw [we];exact sP _
 ·unfold iL;simp only;rw [List.length_take]
  generalize (sK (be ((zL (l.drop 8)).2.take 1)) ((zL (l.drop 8)).2.drop 1)).2=x
  have b:=Ad (x.take 2);have c:256 ^ (x.take 2).length≤256 ^ 2:=Nat.pow_le_pow_right (by decide) (by rw [List.length_take];omega);omega
theorem Fp (l:List UInt8):nk l=if k9 (iL l)=77::l then some (iL l) else none:=by
 by_cases h:k9 (iL l)=77::l
 ·rw [if_pos h];exact xV (Da l) h
 ·rw [if_neg h]
  cases e:nk l with
  | none=>rfl
  | some m=>
   obtain ⟨a,b⟩:=Fo e;subst b;exact absurd a h
theorem Fy (n:Nat) (l:List UInt8):∀x∈lg n l,x < 256:=by
 intro x a;obtain ⟨i,_,rfl⟩:=List.mem_map.1 a;exact sP _
theorem xT (l:List UInt8):rI l=if aM (be (l.take 4)) (lg (be ((l.drop 4).take 1)) (l.drop 5))=l then some (be (l.take 4),lg (be ((l.drop 4).take 1)) (l.drop 5)) else none:=by
 by_cases h:aM (be (l.take 4)) (lg (be ((l.drop 4).take 1)) (l.drop 5))=l
 ·rw [if_pos h]
  have d:be (l.take 4) < 256 ^ 4:=by
   have:=sQ (l:=l.take 4) (by rw [List.length_take];omega);have a:256 ^ 4=4294967296:=by decide
   omega
  have:=xS d (by rw [Dn];exact sP _) (Fy (be ((l.drop 4).take 1)) (l.drop 5));rw [h] at this;exact this
 ·rw [if_neg h]
  cases e:rI l with
  | none=>rfl
  | some x=>
   obtain ⟨f,g⟩:=x;obtain ⟨b,c,a,_⟩:=Fm e;rw [←c,←a] at h;exact absurd b.symm h
theorem cJ.toBelow {a b:World} {B:Nat} (h:cJ [] a b) (d:B≤a.heap.size):Below B a b:=
 ⟨h.still.1,h.still.2.1,h.still.2.2,h.size,fun k f=>by
  have c:k < a.heap.size:=by omega
  have e:=Array.getElem?_eq_getElem c;rw [e]
  exact h.block k _ e (by simp)⟩
theorem wV (l:List Nat) (n:Nat):aZ (l++[n])=aZ l++[.int .i64 (n:Int)]:=by simp [aZ]
def nM (q:Nat→Nat) (i:Nat):MapEntry:=⟨.int .i64 ((i:Int)+1),.pointer (some ⟨q i,0,none⟩),i⟩
def cO (q:Nat→Nat) (l:List Nat):Array MapEntry:=(l.map (nM q)).toArray
def gh (w:World) (b:Nat) (q:Nat→Nat) (l:List Nat) (c:Nat):Prop:=w.heap[b]? =some (.map (cO q l) c)
theorem Ef (q:Nat→Nat) {i j:Nat} (h:(nM q i).key= .int .i64 ((j:Int)+1)):i=j:=by
 unfold nM at h;simp only [Value.int.injEq,true_and] at h;omega
theorem cT (q:Nat→Nat) (l:List Nat):(cO q l).toList=l.map (nM q):=by simp [cO]
theorem CC {q a:Nat→Nat} {l:List Nat} (h:∀i∈l,q i=a i):cO q l=cO a l:=by
 unfold cO
 congr 1
 exact List.map_congr_left fun i d=>by unfold nM;rw [h i d]
section
variable {P:Program} {k e t:TypeId} {w:World} {b c:Nat} {q:Nat→Nat} {l:List Nat}
theorem xC (f:P.underlying k=some (.int .i64)) (q:Nat→Nat) (l:List Nat) (g:∀i∈l,i < 4294967296):∀x∈l.map (nM q),∃y,keyOf P k x.key=some y:=by
 intro x h;obtain ⟨i,d,rfl⟩:=List.mem_map.1 h;exact ⟨_,Maps.keyOf_int_mk f (a:=(i:Int)+1) (WalkArith.wf_i64 (by have:=g i d;omega))⟩
theorem sY (g:P.underlying k=some (.int .i64)) (p:∀i∈l,i < 4294967296) (j:Nat) (u:j < 4294967296):
  (j ∉ l→(Instr.findKey k (.int .i64 ((j:Int)+1)) (l.map (nM q))).run P w= .ok none w)∧
  (j∈l→∃n,(Instr.findKey k (.int .i64 ((j:Int)+1)) (l.map (nM q))).run P w= .ok (some (n,.pointer (some ⟨q j,0,none⟩))) w∧l[n]? =some j):=by
 have a:keyOf P k (.int .i64 ((j:Int)+1))=some (.int .i64 ((j:Int)+1)):=Maps.keyOf_int_mk g (WalkArith.wf_i64 (by omega))
 rcases (Maps.int_keyed g).find w a (l.map (nM q)) (xC g q l p) with ⟨f,d⟩ | ⟨n,x,f,d,o⟩
 ·exact ⟨fun _=>f,fun r=>absurd rfl (d (nM q j) (List.mem_map.2 ⟨j,r,rfl⟩))⟩
 ·rw [List.getElem?_map,Option.map_eq_some_iff] at d;obtain ⟨i,h,rfl⟩:=d;have m:=Ef q o;subst m;exact ⟨fun s=>absurd (List.mem_of_getElem? h) s,fun _=>⟨n,f,h⟩⟩
theorem pC (d:P.underlying k=some (.int .i64)) (j:Nat) (f:j < 4294967296) (a:Bool):(Instr.checkKey a 10000 k (.int .i64 ((j:Int)+1))).run P w= .ok () w:=
 (Maps.int_keyed d).check w a (Maps.keyOf_int_mk d (WalkArith.wf_i64 (by omega)))
theorem ig (d:P.underlying k=some (.int .i64)) (p:P.underlying t=some (.map k e)) (h:gh w b q l c) (m:∀i∈l,i < 4294967296) (j:Nat) (a:j < 4294967296) (o:j∈l) (f:Bool):
  (Instr.lookup t (.map (some b)) (.int .i64 ((j:Int)+1)) f).run P w= .ok (if f then .tuple #[.pointer (some ⟨q j,0,none⟩),.bool true] else .pointer (some ⟨q j,0,none⟩)) w:=by
 obtain ⟨n,g,_⟩:=(sY (w:=w) (q:=q) d m j a).2 o;simp [Instr.lookup,run_underlying p,MapKept.run_getObj_map h,pC d j a,cT,g,Result.andThen]
theorem rM (d:P.underlying k=some (.int .i64)) (o:P.underlying t=some (.map k e)) (p:(zeroValue e).run P w= .ok (.pointer none) w) (h:gh w b q l c) (m:∀i∈l,i < 4294967296) (j:Nat) (a:j < 4294967296) (n:j ∉ l) (f:Bool):
  (Instr.lookup t (.map (some b)) (.int .i64 ((j:Int)+1)) f).run P w= .ok (if f then .tuple #[.pointer none,.bool false] else .pointer none) w:=by
 have g:=(sY (w:=w) (q:=q) d m j a).1 n;simp [Instr.lookup,run_underlying o,MapKept.run_getObj_map h,pC d j a,cT,g,p,Result.andThen]
theorem wT (f:P.underlying k=some (.int .i64)) (p:P.underlying t=some (.map k e)) (r:(zeroValue e).run P w= .ok (.pointer none) w) (h:gh w b q l c) (o:∀i∈l,i < 4294967296) (m:Bool):
  (Instr.lookup t (.map (some b)) (.int .i64 0) m).run P w= .ok (if m then .tuple #[.pointer none,.bool false] else .pointer none) w:=by
 have a:keyOf P k (.int .i64 0)=some (.int .i64 0):=Maps.keyOf_int_mk f (WalkArith.wf_i64 (by omega))
 have d:(Instr.findKey k (.int .i64 0) (l.map (nM q))).run P w= .ok none w:=by
  rcases (Maps.int_keyed f).find w a (l.map (nM q)) (xC f q l o) with ⟨d,g⟩ | ⟨n,x,d,g,j⟩
  ·exact d
  ·rw [List.getElem?_map,Option.map_eq_some_iff] at g;obtain ⟨i,s,rfl⟩:=g;unfold nM at j;simp only [Value.int.injEq,true_and] at j;omega
 simp [Instr.lookup,run_underlying p,MapKept.run_getObj_map h,(Maps.int_keyed f).check w _ a,cT,d,r,Result.andThen]
theorem Jl (f:P.underlying k=some (.int .i64)) (s:P.underlying t=some (.map k e)) (h:gh w b q l c) (g:∀i∈l,i < c) (u:c < 4294967295) (p:Nat) (a:Nat→Nat) (r:∀i∈l,a i=q i) (o:a c=p):
  (Instr.mapUpdate t (.map (some b)) (.int .i64 ((c:Int)+1)) (.pointer (some ⟨p,0,none⟩))).run P w= .ok () (ChangeMaps.setBlock w b (.map (cO a (l++[c])) (c+1))):=by
 have m:=(sY (w:=w) (q:=q) f (fun i d=>by have:=g i d;omega) c (by omega)).1 (fun n=>by have:=g c n;omega)
 have j:(cO q l).push ⟨.int .i64 ((c:Int)+1),.pointer (some ⟨p,0,none⟩),c⟩=cO a (l++[c]):=by
  rw [CC (fun i d=>(r i d).symm)];unfold cO;rw [List.map_append,List.push_toArray];simp [nM,o]
 simp [Instr.mapUpdate,run_underlying s,MapKept.run_getObj_map h,pC f c (by omega),cT,m,MapKept.run_setObj_map _ h,Result.andThen,ChangeMaps.setBlock,j]
theorem CF {l:List Nat} (a:l.Nodup) {n j:Nat} (h:l[n]? =some j):l.eraseIdx n=l.filter fun i=>decide (i≠j):=by
 induction l generalizing n with
 | nil=>simp at h
 | cons x l ih=>
  rw [List.nodup_cons] at a
  cases n with
  | zero=>
   simp only [List.getElem?_cons_zero,Option.some.injEq] at h;subst h;rw [List.eraseIdx_cons_zero,List.filter_cons];simp only [ne_eq,not_true_eq_false,decide_false,Bool.false_eq_true,if_false];refine (List.filter_eq_self.2 fun i d=>?_).symm;have:i≠x:=fun e=>a.1 (e ▸ d);simpa using this
  | succ n=>
   simp only [List.getElem?_cons_succ] at h;have f:x≠j:=fun e=>a.1 (e ▸ List.mem_of_getElem? h);rw [List.eraseIdx_cons_succ,List.filter_cons,if_pos (by simpa using f),ih a.2 h]
theorem Bg {x:TypeId} (g:P.underlying k=some (.int .i64)) (v:P.underlying t=some (.map k e)) (h:gh w b q l c) (p:∀i∈l,i < 4294967296) (s:l.Nodup) (j:Nat) (f:j < 4294967296) (r:j∈l):
  (Builtin.delete_ #[t,k] x #[.map (some b),.int .i64 ((j:Int)+1)]).run P w= .ok (.tuple #[]) (ChangeMaps.setBlock w b (.map (cO q (l.filter fun i=>decide (i≠j))) c)):=by
 obtain ⟨n,o,d⟩:=(sY (w:=w) (q:=q) g p j f).2 r;have a:n < l.length:=(List.getElem?_eq_some_iff.1 d).1
 have m:(cO q l).eraseIdxIfInBounds n=cO q (l.filter fun i=>decide (i≠j)):=by
  rw [←CF s d];have u:n < (cO q l).size:=by simpa [cO] using a
  apply Array.toList_inj.1;unfold Array.eraseIdxIfInBounds;rw [dif_pos u,Array.toList_eraseIdx,cT,cT,←ChangeMaps.map_eraseIdx]
 simp [Builtin.delete_,run_underlying v,MapKept.run_getObj_map h,pC g j f,cT,o,MapKept.run_setObj_map _ h,Result.andThen,ChangeMaps.setBlock,m]
end
open Go.Conc Go.RowKit
theorem yJ {P:Program} {Q:Goroutine→World→Prop} {f:FuncId} {b:Array Value} {w:World} {R:Ending→World→Prop} {c:Frame} {g:List Frame} (h:Calls P f b w R) (n:∀a d,¬R (.panicked a) d) (m:∀d,¬R .outgrown d)
  (k:∀v d,R (.returned v) d→LoneTo P Q (G (c.finish v) g) d):LoneTo P Q (G (Frame.enter P f b .normal) (c::g)) w:=by
 obtain ⟨e,d,r,i,j,_,l⟩:=h (c::g)
 cases e with
 | returned v=>
  obtain ⟨g2,q,p,o⟩:=k v d i;exact ⟨g2,q,Steps.trans j (Steps.head (step_leave_returned l) p),o⟩
 | panicked a=>exact absurd i (n _ _)
 | outgrown=>exact absurd i (m _)
def oX:Option Code→Code
 | some (.block _ (.loop c))=>c
 | _=> .skip
def gE (f:Func):Code:=oX f.body
theorem F7 (q:List UInt8→World→Prop) (sb i:Nat) (u:Bool) (V:Value) (W:List Frame) (R:World→Prop)
  (X:∀a l w,q a w→l.length≤1048576→a.length+l.length≤140737488355328→Calls Tryz.prog 96 #[V,.string (bs l)] w fun e j=>(∃v,e= .returned v)∧q (a++l) j∧∀o,w.heap[i]? =some o→j.heap[i]? =some o)
  (d:∀a w,q a w→w.cell? ⟨sb,3,none⟩=some (.chan (some i)))
  (p:∀a w M y s r,q a w→w.heap[i]? =some (.chan 3 M false s r u)→q a (w.setChan i 3 y false s (r+1) u)):
  ∀(g:List (List UInt8)) (a:List UInt8) (w:World) (s r:Nat) (u2 u3 u4 u5 u6 u7 u8 u9 u10 u11 u12 u13 u14 u15:Value),q a w→w.heap[i]? =some (.chan 3 (g.map fun l=>Value.string (bs l)).toArray false s r u)→(∀l∈g,l.length≤1048576)→a.length+g.flatten.length≤140737488355328→
   (∀j U T,q (a++g.flatten) j→j.heap[i]? =some (.chan 3 #[] false U T u)→R j)→
   LoneTo Tryz.prog (fun g' j=>∃e N,g'=G N W∧(e= .returned (.tuple #[])∧R j)∧N.fn=63∧N.leaving Tryz.prog j e)
    (G ((base 63).at ⟨#[.pointer (some ⟨sb,0,none⟩),V,u2,u3,u4,u5,u6,u7,u8,u9,u10,u11,u12,u13,u14,u15],[]⟩ [.code (gE Tryz.f63),.inLoop (gE Tryz.f63),.inBlock 0]) W) w:=by
 intro g
 induction g with
 | nil=>
  intro a w s r u2 u3 u4 u5 u6 u7 u8 u9 u10 u11 u12 u13 u14 u15 t b _ _ K;have Y:=d a w t;have F:=K w s r (by simpa using t) (by simpa using b);simp only [List.map_nil] at b;clear X d p K;refine LoneTo.goes (n:=30) ?_;simp only [gE,oX,Tryz.f63]
  s_c stepG_block
  s_c stepG_seq
  s_reg
  s_op
  s_op
  s_op
  s_op
  s_c stepG_region_end
  s_c stepG_seq
  s_reg
  s_stop
  refine LoneTo.step (step_lone_select_default (c:=i) (z:= .string ⟨#[]⟩) (stepG_comm (cases:=#[rcase i (.string ⟨#[]⟩)]) (blocking:=false) (shape:= .select) (w':=w) rfl rfl (by decide) (by simp [go_sem,rcase,Act.eval,execOp])) b) ?_;rw [Frame.finish_at]
  walk_nrm
  refine LoneTo.goes (n:=20) ?_
  s_op
  s_op
  s_c stepG_region_end
  s_c stepG_block
  s_cond false
  s_c stepG_ret'
  s_stop
  exact LoneTo.done ⟨.returned (.tuple #[]),_,rfl,⟨rfl,F⟩,rfl,rfl,rfl,rfl,_,Tryz.func63,by simp [results,Tryz.f63,Frame.at]⟩
 | cons l g ih=>
  intro a w s r u2 u3 u4 u5 u6 u7 u8 u9 u10 u11 u12 u13 u14 u15 t b Z B K;have Y:=d a w t;have S:=Z l (List.mem_cons_self ..);have C:a.length+l.length≤140737488355328:=by rw [List.flatten_cons,List.length_append] at B;omega
  have D:(a++l).length+g.flatten.length≤140737488355328:=by rw [List.flatten_cons,List.length_append] at B;rw [List.length_append];omega
  have A:=p a w _ (g.map fun l=>Value.string (bs l)).toArray s r t b;have H:((((l::g).map fun l=>Value.string (bs l)).toArray).extract 1 (((l::g).map fun l=>Value.string (bs l)).toArray).size)=(g.map fun l=>Value.string (bs l)).toArray:=by simp [List.take_of_length_le]
  have I:((((l::g).map fun l=>Value.string (bs l)).toArray).getD 0 undef)= .string (bs l):=by simp
  have m:i < w.heap.size:=(Array.getElem?_eq_some_iff.1 b).1;refine LoneTo.goes (n:=30) ?_;simp only [gE,oX,Tryz.f63]
  s_c stepG_block
  s_c stepG_seq
  s_reg
  s_op
  s_op
  s_op
  s_op
  s_c stepG_region_end
  s_c stepG_seq
  s_reg
  s_stop
  refine LoneTo.step (step_lone_select_recv_buf (c:=i) (z:= .string ⟨#[]⟩) (stepG_comm (cases:=#[rcase i (.string ⟨#[]⟩)]) (blocking:=false) (shape:= .select) (w':=w) rfl rfl (by decide) (by simp [go_sem,rcase,Act.eval,execOp])) b (by simp)) ?_;rw [H,I];rw [Frame.finish_at]
  walk_nrm
  have k:=heap_setChan w i 3 (g.map fun l=>Value.string (bs l)).toArray false s (r+1) u m;obtain ⟨L,J⟩:∃L,w.setChan i 3 (g.map fun l=>Value.string (bs l)).toArray false s (r+1) u=L:=⟨_,rfl⟩;rw [J] at A k ⊢;clear J Y b t H I m;refine LoneTo.goes (n:=30) ?_
  s_op
  s_op
  s_c stepG_region_end
  s_c stepG_block
  s_cond true
  s_c stepG_seq
  s_reg
  s_op
  s_op
  s_c stepG_region_end
  s_reg
  s_op
  s_op
  s_stop
  refine LoneTo.step (step_solo_go rfl (stepG_enter (f:=96) (args:=#[V,.string (bs l)]) (w':=L) rfl rfl (by decide) (by simp [go_sem,Act.eval,execOp]))) ?_;refine yJ (X a l L A S C) (fun _ _ h=>by obtain ⟨⟨_,h⟩,_⟩:=h;cases h) (fun _ h=>by obtain ⟨⟨_,h⟩,_⟩:=h;cases h) fun v w2 O=>?_;obtain ⟨_,P,Q⟩:=O;have E:=Q _ k;rw [Frame.finish_at]
  walk_nrm
  refine LoneTo.goes (n:=30) ?_
  s_c stepG_region_end
  s_c stepG_inBlock
  s_c stepG_inBlock
  s_c stepG_inLoop
  s_stop
  exact ih (a++l) w2 s (r+1) _ _ _ _ _ _ _ _ _ _ _ _ _ _ P E (fun x hx=>Z x (List.mem_cons_of_mem _ hx)) D (fun j U T h1 O=>K j U T (by rw [List.flatten_cons,←List.append_assoc];exact h1) O)
theorem zB (b:List UInt8→World→Prop) (sb c s r:Nat) (j:Bool) (k:Value) (i:List (List UInt8)) (a:List UInt8) (w:World)
  (B:∀a l w,b a w→l.length≤1048576→a.length+l.length≤140737488355328→Calls Tryz.prog 96 #[k,.string (bs l)] w fun e f=>(∃v,e= .returned v)∧b (a++l) f∧∀o,w.heap[c]? =some o→f.heap[c]? =some o)
  (d:∀a w,b a w→w.cell? ⟨sb,3,none⟩=some (.chan (some c)))
  (h:∀a w m g s r,b a w→w.heap[c]? =some (.chan 3 m false s r j)→b a (w.setChan c 3 g false s (r+1) j))
  (A:b a w) (q:w.heap[c]? =some (.chan 3 (i.map fun l=>Value.string (bs l)).toArray false s r j)) (C:∀l∈i,l.length≤1048576) (p:a.length+i.flatten.length≤140737488355328):
  Calls Tryz.prog 63 #[.pointer (some ⟨sb,0,none⟩),k] w fun e f=>e= .returned (.tuple #[])∧∃u t,b (a++i.flatten) f∧f.heap[c]? =some (.chan 3 #[] false u t j):=by
 refine calls_of_loneTo fun x=>?_
 have e:Frame.enter Tryz.prog 63 #[.pointer (some ⟨sb,0,none⟩),k] .normal=(base 63).at ⟨#[.pointer (some ⟨sb,0,none⟩),k,undef,undef,undef,undef,undef,undef,undef,undef,undef,undef,undef,undef,undef,undef],[]⟩ [.code (.block 0 (.loop (gE Tryz.f63)))]:=by
  simp [Frame.enter,Frame.at,Tryz.func63,base,Tryz.f63,gE,oX]
 rw [e];refine LoneTo.goes (n:=2) ?_
 s_c stepG_block
 s_c stepG_loop
 s_stop
 exact F7 b sb c j k x _ B d h i a w s r _ _ _ _ _ _ _ _ _ _ _ _ _ _ A q C p (fun f u t y z=>⟨u,t,y,z⟩)
end Go.Proofs.YtofpegbpgkkgkaaGreatDoor
