import Derived.Test.YtponhohdpophlaaGreatDoorS05
import Derived.Test.YtponhohdpophlaaGreatDoorRows
import Derived.JoinedOf
namespace Go.Proofs.YtponhohdpophlaaGreatDoor
set_option maxHeartbeats 8000000
set_option maxRecDepth 1000000
open Go.IntKind renaming i64->J,wrap_i64->QY
open Go.Value renaming int->I,slice->L,string->T
open Go.Proofs.Tryz
open Go.RowKit
def gd(addr:Int)(x:Int×Int):Bool:=decide (addr / 2 ^ (32 - x.2).toNat=x.1 / 2 ^ (32 - x.2).toNat)
theorem EZ(c:bF)(V W X Y:QJ)(a:Int)(w:QI)(h:dD w c V W X Y)(hn:c.xe.length<=5)(P:∀x∈c.xe,0<=x.2/\x.2<=32):Calls prog 56 #[.agg #[T c.host,V,W,X,I J c.most,I J c.size,Y,I J c.xm,I J c.room],I J a] w λe A=>e= .returned (.bool (c.xe.any (gd a)))/\Below w.heap.size w A:=by
 obtain ⟨aD,cD,eD⟩:=az h.1;obtain ⟨aU,cU,eU⟩:=az h.2.2.1;obtain ⟨aW,cW,eW⟩:=az h.2.2.2;obtain ⟨aN,cN,eN,O⟩:=h.2.1.shape;subst eD eN eU eW;obtain ⟨W0,m⟩:=QE (w.alloc (.cells #[T c.host,L aD c.xf.length cD,L aN c.xe.length cN,L aU c.x9.length cU,I J c.most,I J c.size,L aW c.waits.length cW,I J c.xm,I J c.room] 35));have B:=QG m;have E:=K O;have Z:=K P;have s:=K B;have v:=K m;clear h O P B m;go_enter func56,ntmps56;go_wp2_with fail
 rw [v.out];go_loopw [6,7,11] (λ_ _ i A=>∃k:Nat,k<=c.xe.length/\i=I J k/\Hid ((c.xe.take k).any (gd a)=false)/\Hid (Below w.heap.size w A)) (λ_ _ i _=>c.xe.length - (intOf i).toNat)
 case atStart=>exact ⟨0,Nat.zero_le _,rfl,K rfl,s⟩
 case round=>
  obtain ⟨k,hk,rfl,t,o⟩:=hrel
  by_cases g:k < c.xe.length
  .have Q:(k:Int) < (c.xe.length:Int):=by omega
   obtain ⟨b,r,rfl,p,f⟩:=E.out k 0 g (by omega);obtain ⟨b',U,y,_,d⟩:=E.out k 1 g (by omega);injection y with y;injection y with e1 e2 _;subst e1 e2;rw [Nat.add_zero,qy c.xe k g] at f;rw [nF c.xe k g] at d;have q:=Z.out c.xe[k] (List.getElem_mem g);have HT:Hid ((c.xe.take (k+1)).any (gd a)=gd a c.xe[k]):=K (by rw [List.take_succ_eq_append_getElem g,List.any_append,t.out];simp);have D:Hid (gd a c.xe[k]=true->c.xe.any (gd a)=true):=K (λe=>List.any_eq_true.2 ⟨_,List.getElem_mem g,e⟩);obtain ⟨x,G⟩:=QE (c.xe[k]);rw [G] at f d q HT D;obtain ⟨n,l⟩:=x;simp only at f d q;have d0:wr.cell? ⟨b,r+k * 2,none⟩=some (I J n):=(o.out.cell (by exact p)).trans f;have d1:wr.cell? ⟨b,r+k * 2+1,none⟩=some (I J l):=(o.out.cell (by exact p)).trans d;have a1:IntKind.i64.wrap (32 - l)=32 - l:=by rw [QY];omega
   have a0:¬(32 - l < 0):=by omega
   have R:(0:Int)<=32 - l:=by omega
   clear G f d;go_wp2_with fail
   go_quiet (fail)
   have C:=K ((o.out.alloc o.out.size (.cells #[I J n,I J l] 96)).trans (an nq _ _))
   by_cases j:a / 2 ^ (32 - l).toNat=n / 2 ^ (32 - l).toNat
   .have hb:(a / 2 ^ (32 - l).toNat == n / 2 ^ (32 - l).toNat)=true:=by rw [beq_iff_eq];exact j
    have HR:=K (D.out (by unfold gd;simpa using j));clear j;go_wp2_with fail
    go_ret;exact ⟨by rw [HR.out];rfl,C.out⟩
   have hb:(a / 2 ^ (32 - l).toNat == n / 2 ^ (32 - l).toNat)=false:=by rw [beq_eq_false_iff_ne];exact j
   have M:=HT.out.trans (show gd a (n,l)=false by unfold gd;simpa using j);have u:=K M;clear j M;go_wp2_with fail
   exact ⟨⟨k+1,by omega,by go_num,u,C⟩,by simp [intOf];omega⟩
  have z:k=c.xe.length:=by omega
  subst z;rw [List.take_length] at t;go_wp2_with fail
  go_ret;exact ⟨by rw [t.out];rfl,o.out⟩
open Go
def zo:ChangeSpec:=Rows.talksSpec
def zm:OpenClaim:=Rows.talksUptoRow
theorem ZU:(zm.wf (OpenSpec.ofChange zo))=true:=by kernel_rfl
theorem ZV:(laidOutB prog)=true:=by kernel_rfl
theorem ZW:(mapsRowed prog)=true:=by kernel_rfl
theorem ZX:(Tryz.f3.params.all (prog.readableRec ·))=true:=by kernel_rfl
theorem ZY:(namedTie prog zm.named zo.vars)=true:=by kernel_rfl
theorem ZZ:((zm.stops == []))=true:=by kernel_rfl
theorem aaa:((prog.stops == []))=true:=by kernel_rfl
theorem aab:((zm.knobs == []))=true:=by kernel_rfl
theorem aac:((prog.stopKnobs == []))=true:=by kernel_rfl
theorem aad:((zm.inPlace == prog.inPlace 3))=true:=by kernel_rfl
theorem Zp:((zm.unfollowed == prog.unfollowed 3))=true:=by kernel_rfl
theorem Zq:((zm.recurses == prog.recurses 3))=true:=by kernel_rfl
theorem Zr:((zm.named == prog.varsNamed 3))=true:=by kernel_rfl
theorem Zs:((zm.maps == (Tryz.f3.params.toList++zo.plain.varTypes prog).any (prog.mapsRec ·)))=true:=by kernel_rfl
theorem Zt:((zm.ifaces == (Tryz.f3.params.toList++zo.plain.varTypes prog).any (prog.ifacesRec ·)))=true:=by kernel_rfl
theorem Zu:((zm.mapsOut == prog.mapsAmong Tryz.f3.resultTypes.toList))=true:=by kernel_rfl
theorem Zv:((zm.loops == (Tryz.f3.params.toList++zo.plain.varTypes prog).any (prog.loopsFrom ·)))=true:=by kernel_rfl
theorem Zw:((zm.wideKeys == (Tryz.f3.params.toList++zo.plain.varTypes prog++Tryz.f3.resultTypes.toList).any (prog.wideKeysFrom ·)))=true:=by kernel_rfl
theorem Zx:(zo.vars.all (prog.varReadable ·))=true:=by kernel_rfl
theorem Zy:(Tryz.f3.resultTypes.all (λt=>prog.readableRec t && decide (t < prog.types.size)))=true:=by kernel_rfl
theorem Zz:((zm.ifacesOut == Tryz.f3.resultTypes.toList.any (prog.ifacesRec ·)))=true:=by kernel_rfl
theorem ZA:((zm.loopsOut == Tryz.f3.resultTypes.toList.any (prog.loopsFrom ·)))=true:=by kernel_rfl
theorem ZB:((zm.plainKeys == prog.plainKeys))=true:=by kernel_rfl
theorem ZC:(zm.shortTexts.isNone)=true:=by kernel_rfl
theorem ZD:(prog.stopsHeard)=true:=by kernel_rfl
theorem ZE:(prog.mayEnter)=true:=by kernel_rfl
theorem ZF:((zm.lifted == prog.liftsFinal))=true:=by kernel_rfl
theorem ZG:((prog.make == some zm.make))=true:=by kernel_rfl
theorem ZH:((zm.pinned == zm.pinnedBy))=true:=by kernel_rfl
theorem ZI:((zm.veiled == (Tryz.f3.params.toList++zo.plain.varTypes prog++Tryz.f3.resultTypes.toList).any (prog.veiledRec ·)))=true:=by kernel_rfl
theorem ZJ:(zm.veiledFits prog Tryz.f3.params.toList (Tryz.f3.params.toList++zo.plain.varTypes prog++Tryz.f3.resultTypes.toList))=true:=by kernel_rfl
theorem xV{a b:Bool}(c:a=true)(d:b=true):(a && b)=true:=by rw [c,d];rfl
theorem Zn:joinedFacts prog 3 Tryz.f3 zo zm=true:=by
 unfold joinedFacts;exact (xV (xV (xV (xV (xV (xV (xV (xV (xV (xV (xV (xV (xV (xV (xV (xV (xV (xV (xV (xV (xV (xV (xV (xV (xV (xV (xV (xV (xV (xV (xV ZU ZV) ZW) ZX) ZY) ZZ) aaa) aab) aac) aad) Zp) Zq) Zr) Zs) Zt) Zu) Zv) Zw) Zx) Zy) Zz) ZA) ZB) ZC) ZD) ZE) ZF) ZG) (by kernel_rfl)) ZH) ZI) ZJ)
end Go.Proofs.YtponhohdpophlaaGreatDoor
