import Derived.Test.YtofpegbpgkkgkaaGreatDoorS09
import Derived.Test.YtofpegbpgkkgkaaGreatDoorS10
import Derived.Orders
import Derived.Lib.DecodeN
import Derived.Conc.SmallLaws
namespace Go.Proofs.YtofpegbpgkkgkaaGreatDoor
set_option maxHeartbeats 8000000
set_option maxRecDepth 1000000
open Go.RowKit
def df (x:Nat×Bool):Value:= .agg #[.int .i64 x.1,.bool x.2]
def fo (pp pb ch:Nat) (va vu vl:Value) (frm body:List UInt8) (over:Bool) (t:aQ):Array Value:=
 #[.pointer (some ⟨pp,0,none⟩),.pointer (some ⟨pb,0,none⟩),.int .i64 ((t.i:Int)+1),.string (bs frm),va,.string (bs body),.int .i64 t.said,vu,vl,.chan (some ch),.bool over]
structure bR (w:World) (tb ch pp pb:Nat) (va vu vl:Value) (frm body:List UInt8) (cap:Nat) (over:Bool) (t:aQ):Prop where
 blk:w.heap[tb]? =some (.cells (fo pp pb ch va vu vl frm body over t) 153 (0,0))
 chan:∃s r,w.heap[ch]? =some (.chan cap (t.came.map df).toArray false s r false)
 una:bg w vu t.una.length 2 (aR t.una)
 wil:w.ownsRow 0 162 2 vl t.wil.length (aR t.wil)
 ua:∀k,vu.ownBlock=some k→va.ownBlock=some k
 al:∀k,vl.ownBlock=some k→va.ownBlock≠some k
 at_:∀k,va.ownBlock=some k→k≠tb∧k≠ch∧k < w.heap.size
def lA (tb ch:Nat) (va vl:Value) (k:Nat):Prop:=k=tb∨k=ch∨va.ownBlock=some k∨vl.ownBlock=some k
section
variable {w w':World} {tb ch pp pb:Nat} {va vu vl:Value} {frm body:List UInt8} {cap:Nat} {over:Bool} {t:aQ} {B:Nat→Prop}
theorem bR.cell (h:bR w tb ch pp pb va vu vl frm body cap over t) (j:Nat):w.cell? ⟨tb,j,none⟩=(fo pp pb ch va vu vl frm body over t)[j]? :=by rw [Lib.cell_of_heap h.blk]
theorem bR.frozen (h:bR w tb ch pp pb va vu vl frm body cap over t) (j:Nat):w.frozen? ⟨tb,j,none⟩=false:=Lib.frozen_of_heap h.blk j
theorem bR.tc (h:bR w tb ch pp pb va vu vl frm body cap over t):tb≠ch:=fun e=>by
 obtain ⟨s,r,a⟩:=h.chan;have:=h.blk;rw [e,a] at this;simp at this
theorem bR.lb (h:bR w tb ch pp pb va vu vl frm body cap over t) {k:Nat} (a:vl.ownBlock=some k):k≠tb∧k≠ch∧k < w.heap.size:=by
 have i:=(kD h.wil a).2
 rcases h.wil.2 with ⟨e,_⟩ | ⟨g,l,d,e,_,b,_⟩
 ·rw [e] at a;cases a
 ·rw [e] at a;have f:g=k:=by simpa [Value.ownBlock] using a
  subst f;refine ⟨fun c=>?_,fun c=>?_,i⟩
  ·rw [c,h.blk] at b;simp at b
  ·obtain ⟨s,r,j⟩:=h.chan;rw [c,j] at b;simp at b
theorem bR.lt (h:bR w tb ch pp pb va vu vl frm body cap over t) {k:Nat} (b:lA tb ch va vl k):k < w.heap.size:=by
 rcases b with e | e | e | e
 ·rw [e];exact ah h.blk
 ·obtain ⟨s,r,a⟩:=h.chan;rw [e];exact ah a
 ·exact (h.at_ k e).2.2
 ·exact (h.lb e).2.2
theorem bR.chg (h:bR w tb ch pp pb va vu vl frm body cap over t) (a:aH B w w') (b:∀k,lA tb ch va vl k→¬B k):bR w' tb ch pp pb va vu vl frm body cap over t:=by
 obtain ⟨s,r,c⟩:=h.chan;exact ⟨a.some_ h.blk (b _ (.inl rfl)),⟨s,r,a.some_ c (b _ (.inr (.inl rfl)))⟩,h.una.chg a (fun g e=>b g (.inr (.inr (.inl (h.ua g e))))),bC h.wil a (fun g e=>b g (.inr (.inr (.inr e)))),h.ua,h.al,fun k e=>⟨(h.at_ k e).1,(h.at_ k e).2.1,Nat.lt_of_lt_of_le (h.at_ k e).2.2 a.size⟩⟩
theorem bR.below (h:bR w tb ch pp pb va vu vl frm body cap over t) (a:Below w.heap.size w w'):bR w' tb ch pp pb va vu vl frm body cap over t:=h.chg (aH.below a:aH (fun _=>False) w w') (fun _ _ e=>e)
theorem bR.put (h:bR w tb ch pp pb va vu vl frm body cap over t) {c b:Value} {a:Bool} {t':aQ} (d:aL tb w w') (l:w'.heap[tb]? =some (.cells (fo pp pb ch va c b frm body a t') 153 (0,0))) (m:t'.came=t.came) (o:bg w c t'.una.length 2 (aR t'.una)) (n:w.ownsRow 0 162 2 b t'.wil.length (aR t'.wil)) (ua:∀k,c.ownBlock=some k→va.ownBlock=some k) (i:∀k,b.ownBlock=some k→va.ownBlock≠some k∧k≠tb):bR w' tb ch pp pb va c b frm body cap a t':=by
 obtain ⟨s,r,j⟩:=h.chan;exact ⟨l,⟨s,r,by rw [m];exact aP d j (Ne.symm h.tc)⟩,o.chg (aH.same d) (fun g e f=>(h.at_ g (ua g e)).1 f),bC n (aH.same d) (fun g e f=>(i g e).2 f),ua,fun k e=>(i k e).1,fun k e=>⟨(h.at_ k e).1,(h.at_ k e).2.1,Nat.lt_of_lt_of_le (h.at_ k e).2.2 (aH.same d).size⟩⟩
end
def fQ (tb ch pp pb:Nat) (va vl:Value) (frm body:List UInt8) (cap:Nat) (w:World) (x:aQ×List UInt8) (e:Ending) (w':World):Prop:=
 e= .returned (.string (bs x.2))∧∃vu' vl',bR w' tb ch pp pb va vu' vl' frm body cap false x.1∧aH (lA tb ch va vl) w w'∧∀k,vl'.ownBlock=some k→vl.ownBlock=some k∨w.heap.size≤k
section
variable {w w':World} {tb ch pp pb:Nat} {va vu vl:Value} {frm body:List UInt8} {cap:Nat} {t:aQ}
theorem nZ (h:bR w tb ch pp pb va vu vl frm body cap false t) (s:Nat) (l:List UInt8) (j:l.length≤100000000000000):
  Calls Tryz.prog 126 #[.pointer (some ⟨tb,0,none⟩),.int .i64 (s:Int),.string (bs l)] w (fQ tb ch pp pb va vl frm body cap w (t.say s l)):=by
 have g:w.cell? ⟨tb,6,none⟩=some (.int .i64 t.said):=h.cell 6;have i:=h.frozen 6;have f:=aG l;have a:(bs l++(⟨#[13,10]⟩:ByteArray))=bs (l++[13,10]):=(cE l [13,10]).symm;have d:=Lib.hid a;have b:=Lib.hid h;clear h a;go_enter Tryz.func126,Tryz.ntmps126;go_wp2_with fail
 go_ret;have c:aL tb w (w.setCell ⟨tb,6,none⟩ (.int .i64 (s:Int))):=(aL.refl _ _).setCell _;refine ⟨by rw [d.out];rfl,vu,vl,b.out.put (t':=(t.say s l).1) c (heap_setCell_same w tb 6 _ _ (.int .i64 (s:Int)) b.out.blk) rfl b.out.una b.out.wil b.out.ua (fun k e=>⟨b.out.al k e,(b.out.lb e).1⟩),(aH.same c).mono (fun k _ e=> .inl e),fun k e=> .inl e⟩
theorem fD (h:bR w tb ch pp pb va vu vl frm body cap false t):
  Calls Tryz.prog 127 #[.pointer (some ⟨tb,0,none⟩)] w (fQ tb ch pp pb va vl frm body cap w t.quit):=by
 have c:=Lib.hid (nZ h 6 [81,85,73,84] (by decide));clear h;go_enter Tryz.func127,Tryz.ntmps127;go_wp2_with fail
 refine c.out.mono ?_;rintro e d ⟨rfl,a⟩;have b:=Lib.hid a;clear a;go_wp2_with fail
 go_ret;exact ⟨rfl,b.out⟩
theorem pw (h:bR w tb ch pp pb va vu vl frm body cap false t) (hz:∀x∈t.una,x.2.length≤1000) (z:t.una.length≤1000) (v:t.wil.length≤1000):
  Calls Tryz.prog 128 #[.pointer (some ⟨tb,0,none⟩)] w (fQ tb ch pp pb va vl frm body cap w t.ask):=by
 obtain ⟨A,Q,o⟩:=aE h.una;obtain ⟨O,P,p⟩:=aE (aF h.wil);have C:w.cell? ⟨tb,7,none⟩=some (.slice A t.una.length Q):=by rw [←o];exact h.cell 7
 have D:w.cell? ⟨tb,8,none⟩=some (.slice O t.wil.length P):=by rw [←p];exact h.cell 8
 by_cases c:t.una=[]
 ·have R:t.una.length=0:=by rw [c];rfl
  rw [R] at C
  by_cases i:t.wil=[]
  ·have S:t.wil.length=0:=by rw [i];rfl
   rw [S] at D;have l:t.ask=t.quit:=by unfold aQ.ask;rw [c];simp [i]
   rw [l];have k:=Lib.hid (fD h);clear h o p c i;go_enter Tryz.func128,Tryz.ntmps128;go_wp2_with fail
   refine k.out.mono ?_;rintro e M ⟨rfl,f⟩;have j:=Lib.hid f;clear f;go_wp2_with fail
   go_ret;exact ⟨rfl,j.out⟩
  ·have V:(0:Int) < (t.wil.length:Int):=by have:=List.length_pos_iff.2 i;omega
   have l:t.ask=t.say 4 [68,65,84,65]:=by unfold aQ.ask;rw [c];simp [i]
   rw [l];have k:=Lib.hid (nZ h 4 [68,65,84,65] (by decide));obtain ⟨K,n⟩:∃K,t.wil.length=K:=⟨_,rfl⟩;rw [n] at D V v;clear h o p c i n;go_enter Tryz.func128,Tryz.ntmps128;go_wp2_with fail
   refine k.out.mono ?_;rintro e M ⟨rfl,f⟩;have j:=Lib.hid f;clear f;go_wp2_with fail
   go_ret;exact ⟨rfl,j.out⟩
 ·obtain ⟨r,u,s⟩:∃r u,t.una=r::u:=by
   cases e:t.una with
   | nil=>exact absurd e c
   | cons r u=>exact ⟨r,u,rfl⟩
  have U:(0:Int) < (t.una.length:Int):=by have:=List.length_pos_iff.2 c;omega
  have y:=h.una;rw [o] at y
  obtain ⟨b,a,l,W,X⟩:∃b a,A=some ⟨b,a,none⟩∧w.cell? ⟨b,a,none⟩=some (.int .i64 (r.1:Int))∧w.cell? ⟨b,a+1,none⟩=some (.string (bs r.2)):=by
   obtain ⟨a2,c2,q,F⟩:=y.shape;injection q with q _ _;have G:0 < t.una.length:=List.length_pos_iff.2 c;obtain ⟨b,a,E,_,H⟩:=F 0 0 G (by decide);obtain ⟨b',L,g,_,I⟩:=F 0 1 G (by decide);rw [E] at g;injection g with g;injection g with g e5;subst g e5;rw [s] at H I;exact ⟨b,a,q.trans E,by simpa [aR] using H,by simpa [aR] using I⟩
  subst l;have Y:=hz r (by rw [s];simp);have T:t.ask=t.say 3 ([82,67,80,84,32,84,79,58,60]++r.2++[62]):=by unfold aQ.ask;rw [s]
  rw [T];have k:=Lib.hid (nZ h 3 ([82,67,80,84,32,84,79,58,60]++r.2++[62]) (by simp only [List.length_append,List.length_cons,List.length_nil];omega));have Z:=aG r.2
  have d:((⟨#[82,67,80,84,32,84,79,58,60]⟩:ByteArray)++bs r.2)++(⟨#[62]⟩:ByteArray)=bs ([82,67,80,84,32,84,79,58,60]++r.2++[62]):=by
   rw [←cE ([82,67,80,84,32,84,79,58,60]++r.2) [62],←cE [82,67,80,84,32,84,79,58,60] r.2];rfl
  have N:=Lib.hid d;obtain ⟨J,m⟩:∃J,t.una.length=J:=⟨_,rfl⟩;rw [m] at C U z;clear h o p c d m y;go_enter Tryz.func128,Tryz.ntmps128;go_wp2_with fail
  rw [N.out];refine k.out.mono ?_;rintro e M ⟨rfl,f⟩;have j:=Lib.hid f;clear f;go_wp2_with fail
  go_ret;exact ⟨rfl,j.out⟩
end
open Go.Conc Go.RowKit
theorem DM {P:Program} {d:Bool} {c:Array Oper} {b:Frame} {a:Act} {k:List Item} {e:List Frame} {w:World} {f:Nat}:
  stepG P d (G (b.at a (.code (.region f c true)::k)) e) w= .go (G (b.at a (.inRegion c (Region.schedule (P.follows .mixedOrders) c (w.tape w.drawn (.order b.fn f)))::k)) e) w.drew:=by
 simp [G,stepG,stepG.exec,Frame.at,choose,Sem.run,Question.forced,Question.cut]
def cZ (P:Program) (Q:Goroutine→World→Prop) (b:Frame) (k:List Item) (cs:List Frame) (ops:Array Oper):Nat→Array Bool→Act→World→Prop
 | 0,listed,a,w=>Region.ready .any ops listed=[]∧LoneTo P Q (G (b.at a (.inRegion ops []::k)) cs) w
 | fuel+1,listed,a,w=>
  (Region.ready .any ops listed=[]→LoneTo P Q (G (b.at a (.inRegion ops []::k)) cs) w)∧
  ∀i∈Region.ready .any ops listed,∀rest,(∀a' w',cZ P Q b k cs ops fuel (listed.setIfInBounds i true) a' w'→LoneTo P Q (G (b.at a' (.inRegion ops rest::k)) cs) w')→LoneTo P Q (G (b.at a (.inRegion ops (i::rest)::k)) cs) w
theorem A8 {P:Program} {Q:Goroutine→World→Prop} {b:Frame} {k:List Item} {g:List Frame} {d:Array Oper}:∀(e t:Nat) (c:Array Bool) (a:Act) (w:World),cZ P Q b k g d e c a w→
  LoneTo P Q (G (b.at a (.inRegion d (Region.linearise.go .any d e t c [])::k)) g) w:=by
 intro e
 induction e with
 | zero=>intro t c a w h;simpa [Region.linearise.go] using h.2
 | succ e ih=>
  intro t c a w h;obtain ⟨p,q⟩:=h;simp only [Region.linearise.go]
  change LoneTo P Q (G (b.at a (.inRegion d (match (Region.ready .any d c)[t % (Region.ready .any d c).length]? with
   | some i=>Region.linearise.go .any d e (t / (Region.ready .any d c).length) (c.setIfInBounds i true) [i]
   | none=>[].reverse)::k)) g) w
  cases j:(Region.ready .any d c)[t % (Region.ready .any d c).length]? with
  | none=>
   have f:Region.ready .any d c=[]:=by
    cases o:Region.ready .any d c with
    | nil=>rfl
    | cons x xs=>
     rw [o] at j;have l:t % (x::xs).length < (x::xs).length:=Nat.mod_lt _ (by simp);simp at j;simp at l;omega
   simpa using p f
  | some i=>
   simp only [];rw [linearise_go_acc,List.reverse_singleton,List.singleton_append];exact q i (List.mem_of_getElem? j) _ (fun m r n=>ih _ _ m r n)
theorem mA {P:Program} {Q:Goroutine→World→Prop} {b:Frame} {k:List Item} {d:List Frame} {c:Array Oper} {f:Nat} {a:Act} {w:World} (e:P.follows .mixedOrders=true)
  (h:cZ P Q b k d c c.size (Array.replicate c.size false) a w.drew):LoneTo P Q (G (b.at a (.code (.region f c true)::k)) d) w:=by
 refine LoneTo.step (step_solo_go rfl DM) ?_;simp only [Region.schedule,e,Bool.true_or,if_true];exact A8 c.size _ _ a _ h
def aV:Option Code→Code
 | some (.seq _ (.block _ (.loop c)))=>c
 | _=> .skip
def bH:Code→Array Oper
 | .seq _ (.seq _ (.seq (.block _ (.seq _ (.region _ ops _))) _))=>ops
 | _=>#[]
theorem AD (Q:Goroutine→World→Prop) (k:List Item) (p:List Frame) (d H o F s r id:Nat) (E:Array Value) (P:Int) (w:World) (hc:w.cell? ⟨d,9,none⟩=some (.chan (some H))) (hP:w.cell? ⟨o,0,none⟩=some (.int .i64 P)) (a0:w.heap[H]? =some (.chan F E false s r false)) (J:E.size < F) (q t u y z A B C g j u12 u13 u14 u15 u16 u17 u18 m:Value)
  (hk:LoneTo Tryz.prog Q (G ((base 129).at ⟨#[(.pointer (some ⟨d,0,none⟩)),q,t,u,y,(.pointer (some ⟨o,0,none⟩)),z,A,B,C,g,j,(.pointer (some ⟨d,0,none⟩)),(.pointer (some ⟨d,0,none⟩)),(.pointer (some ⟨d,9,none⟩)),(.chan (some H)),(.pointer (some ⟨o,0,none⟩)),(.int .i64 P),(.agg #[.int .i64 P,.bool false]),m],[]⟩ k) p) (w.drew.setChan H F (E.push (.agg #[.int .i64 P,.bool false])) false (s+1) r false)):
  LoneTo Tryz.prog Q (G ((base 129).at ⟨#[(.pointer (some ⟨d,0,none⟩)),q,t,u,y,(.pointer (some ⟨o,0,none⟩)),z,A,B,C,g,j,u12,u13,u14,u15,u16,u17,u18,m],[]⟩ (.code (.region id (bH (aV Tryz.f129.body)) true)::k)) p) w:=by
 refine mA (by kernel_rfl) ?_;have b1:w.drew.cell? ⟨d,9,none⟩=some (.chan (some H)):=hc;have b0:w.drew.cell? ⟨o,0,none⟩=some (.int .i64 P):=hP;have I:w.drew.heap[H]? =some (.chan F E false s r false):=a0;obtain ⟨W,hW⟩:∃W,w.drew=W:=⟨_,rfl⟩;rw [hW] at b1 b0 I hk;show cZ _ _ _ _ _ _ 8 #[false,false,false,false,false,false,false,false] _ w.drew;rw [hW];clear hc hP a0 hW;obtain ⟨f,D⟩:∃f,bH (aV Tryz.f129.body)=f:=⟨_,rfl⟩;have R:∀l x,Region.ready .any (bH (aV Tryz.f129.body)) l=x→Region.ready .any f l=x:=fun l x h=>by rw [←D];exact h
 have a9:cZ Tryz.prog Q (base 129) k p f 0 #[true,true,true,true,true,true,true,true] ⟨#[(.pointer (some ⟨d,0,none⟩)),q,t,u,y,(.pointer (some ⟨o,0,none⟩)),z,A,B,C,g,j,(.pointer (some ⟨d,0,none⟩)),(.pointer (some ⟨d,0,none⟩)),(.pointer (some ⟨d,9,none⟩)),(.chan (some H)),(.pointer (some ⟨o,0,none⟩)),(.int .i64 P),(.agg #[.int .i64 P,.bool false]),m],[]⟩ (W.setChan H F (E.push (.agg #[.int .i64 P,.bool false])) false (s+1) r false):=
  ⟨R _ _ (by kernel_rfl),LoneTo.goes (n:=1) (by s_c stepG_region_end;s_stop;exact hk)⟩
 have Z:cZ Tryz.prog Q (base 129) k p f 1 #[true,true,true,true,true,true,true,false] ⟨#[(.pointer (some ⟨d,0,none⟩)),q,t,u,y,(.pointer (some ⟨o,0,none⟩)),z,A,B,C,g,j,(.pointer (some ⟨d,0,none⟩)),(.pointer (some ⟨d,0,none⟩)),(.pointer (some ⟨d,9,none⟩)),(.chan (some H)),(.pointer (some ⟨o,0,none⟩)),(.int .i64 P),(.agg #[.int .i64 P,.bool false]),m],[]⟩ W:=by
  refine ⟨fun h=>(by rw [R _ [7] (by kernel_rfl)] at h;cases h),fun i b e a=>?_⟩;rw [R _ [7] (by kernel_rfl),List.mem_singleton] at b;subst b;subst D;simp only [bH,aV,Tryz.f129] at a ⊢;refine LoneTo.step (step_lone_send_room (c:=H) (cap:=F) (buf:=E) (s:=s) (r:=r) (tm:=false) (v:= .agg #[.int .i64 P,.bool false]) (stepG_comm (cases:=#[scase H (.agg #[.int .i64 P,.bool false]) (.tuple #[])]) (blocking:=true) (shape:= .send) (w':=W) rfl rfl (by decide) (by simp [execOp,scase,Act.eval])) I J) ?_;rw [Frame.finish_at];exact a _ _ a9
 have V:cZ Tryz.prog Q (base 129) k p f 2 #[true,true,true,false,true,true,true,false] ⟨#[(.pointer (some ⟨d,0,none⟩)),q,t,u,y,(.pointer (some ⟨o,0,none⟩)),z,A,B,C,g,j,(.pointer (some ⟨d,0,none⟩)),(.pointer (some ⟨d,0,none⟩)),(.pointer (some ⟨d,9,none⟩)),u15,(.pointer (some ⟨o,0,none⟩)),(.int .i64 P),(.agg #[.int .i64 P,.bool false]),m],[]⟩ W:=by
  refine ⟨fun h=>(by rw [R _ [3] (by kernel_rfl)] at h;cases h),fun i b e a=>?_⟩;rw [R _ [3] (by kernel_rfl)] at b;subst D;simp only [bH,aV,Tryz.f129] at a ⊢;rw [List.mem_singleton] at b;subst b;exact LoneTo.goes (n:=1) (by s_op;s_stop;exact a _ _ Z)
 have Y:cZ Tryz.prog Q (base 129) k p f 2 #[true,true,true,true,true,true,false,false] ⟨#[(.pointer (some ⟨d,0,none⟩)),q,t,u,y,(.pointer (some ⟨o,0,none⟩)),z,A,B,C,g,j,(.pointer (some ⟨d,0,none⟩)),(.pointer (some ⟨d,0,none⟩)),(.pointer (some ⟨d,9,none⟩)),(.chan (some H)),(.pointer (some ⟨o,0,none⟩)),(.int .i64 P),u18,m],[]⟩ W:=by
  refine ⟨fun h=>(by rw [R _ [6] (by kernel_rfl)] at h;cases h),fun i b e a=>?_⟩;rw [R _ [6] (by kernel_rfl)] at b;subst D;simp only [bH,aV,Tryz.f129] at a ⊢;rw [List.mem_singleton] at b;subst b;exact LoneTo.goes (n:=1) (by s_op;s_stop;exact a _ _ Z)
 have S:cZ Tryz.prog Q (base 129) k p f 3 #[true,true,false,false,true,true,true,false] ⟨#[(.pointer (some ⟨d,0,none⟩)),q,t,u,y,(.pointer (some ⟨o,0,none⟩)),z,A,B,C,g,j,(.pointer (some ⟨d,0,none⟩)),(.pointer (some ⟨d,0,none⟩)),u14,u15,(.pointer (some ⟨o,0,none⟩)),(.int .i64 P),(.agg #[.int .i64 P,.bool false]),m],[]⟩ W:=by
  refine ⟨fun h=>(by rw [R _ [2] (by kernel_rfl)] at h;cases h),fun i b e a=>?_⟩;rw [R _ [2] (by kernel_rfl)] at b;subst D;simp only [bH,aV,Tryz.f129] at a ⊢;rw [List.mem_singleton] at b;subst b;exact LoneTo.goes (n:=1) (by s_op;s_stop;exact a _ _ V)
 have U:cZ Tryz.prog Q (base 129) k p f 3 #[true,true,true,false,true,true,false,false] ⟨#[(.pointer (some ⟨d,0,none⟩)),q,t,u,y,(.pointer (some ⟨o,0,none⟩)),z,A,B,C,g,j,(.pointer (some ⟨d,0,none⟩)),(.pointer (some ⟨d,0,none⟩)),(.pointer (some ⟨d,9,none⟩)),u15,(.pointer (some ⟨o,0,none⟩)),(.int .i64 P),u18,m],[]⟩ W:=by
  refine ⟨fun h=>(by rw [R _ [3,6] (by kernel_rfl)] at h;cases h),fun i b e a=>?_⟩;rw [R _ [3,6] (by kernel_rfl)] at b;subst D;simp only [bH,aV,Tryz.f129] at a ⊢;simp only [List.mem_cons,List.not_mem_nil,or_false] at b
  rcases b with rfl | rfl
  ·exact LoneTo.goes (n:=1) (by s_op;s_stop;exact a _ _ Y)
  ·exact LoneTo.goes (n:=1) (by s_op;s_stop;exact a _ _ V)
 have X:cZ Tryz.prog Q (base 129) k p f 3 #[true,true,true,true,true,false,false,false] ⟨#[(.pointer (some ⟨d,0,none⟩)),q,t,u,y,(.pointer (some ⟨o,0,none⟩)),z,A,B,C,g,j,(.pointer (some ⟨d,0,none⟩)),(.pointer (some ⟨d,0,none⟩)),(.pointer (some ⟨d,9,none⟩)),(.chan (some H)),(.pointer (some ⟨o,0,none⟩)),u17,u18,m],[]⟩ W:=by
  refine ⟨fun h=>(by rw [R _ [5] (by kernel_rfl)] at h;cases h),fun i b e a=>?_⟩;rw [R _ [5] (by kernel_rfl)] at b;subst D;simp only [bH,aV,Tryz.f129] at a ⊢;rw [List.mem_singleton] at b;subst b;exact LoneTo.goes (n:=1) (by s_op;s_stop;exact a _ _ Y)
 have M:cZ Tryz.prog Q (base 129) k p f 4 #[true,false,false,false,true,true,true,false] ⟨#[(.pointer (some ⟨d,0,none⟩)),q,t,u,y,(.pointer (some ⟨o,0,none⟩)),z,A,B,C,g,j,(.pointer (some ⟨d,0,none⟩)),u13,u14,u15,(.pointer (some ⟨o,0,none⟩)),(.int .i64 P),(.agg #[.int .i64 P,.bool false]),m],[]⟩ W:=by
  refine ⟨fun h=>(by rw [R _ [1] (by kernel_rfl)] at h;cases h),fun i b e a=>?_⟩;rw [R _ [1] (by kernel_rfl)] at b;subst D;simp only [bH,aV,Tryz.f129] at a ⊢;rw [List.mem_singleton] at b;subst b;exact LoneTo.goes (n:=1) (by s_op;s_stop;exact a _ _ S)
 have O:cZ Tryz.prog Q (base 129) k p f 4 #[true,true,false,false,true,true,false,false] ⟨#[(.pointer (some ⟨d,0,none⟩)),q,t,u,y,(.pointer (some ⟨o,0,none⟩)),z,A,B,C,g,j,(.pointer (some ⟨d,0,none⟩)),(.pointer (some ⟨d,0,none⟩)),u14,u15,(.pointer (some ⟨o,0,none⟩)),(.int .i64 P),u18,m],[]⟩ W:=by
  refine ⟨fun h=>(by rw [R _ [2,6] (by kernel_rfl)] at h;cases h),fun i b e a=>?_⟩;rw [R _ [2,6] (by kernel_rfl)] at b;subst D;simp only [bH,aV,Tryz.f129] at a ⊢;simp only [List.mem_cons,List.not_mem_nil,or_false] at b
  rcases b with rfl | rfl
  ·exact LoneTo.goes (n:=1) (by s_op;s_stop;exact a _ _ U)
  ·exact LoneTo.goes (n:=1) (by s_op;s_stop;exact a _ _ S)
 have T:cZ Tryz.prog Q (base 129) k p f 4 #[true,true,true,false,true,false,false,false] ⟨#[(.pointer (some ⟨d,0,none⟩)),q,t,u,y,(.pointer (some ⟨o,0,none⟩)),z,A,B,C,g,j,(.pointer (some ⟨d,0,none⟩)),(.pointer (some ⟨d,0,none⟩)),(.pointer (some ⟨d,9,none⟩)),u15,(.pointer (some ⟨o,0,none⟩)),u17,u18,m],[]⟩ W:=by
  refine ⟨fun h=>(by rw [R _ [3,5] (by kernel_rfl)] at h;cases h),fun i b e a=>?_⟩;rw [R _ [3,5] (by kernel_rfl)] at b;subst D;simp only [bH,aV,Tryz.f129] at a ⊢;simp only [List.mem_cons,List.not_mem_nil,or_false] at b
  rcases b with rfl | rfl
  ·exact LoneTo.goes (n:=1) (by s_op;s_stop;exact a _ _ X)
  ·exact LoneTo.goes (n:=1) (by s_op;s_stop;exact a _ _ U)
 have a8:cZ Tryz.prog Q (base 129) k p f 4 #[true,true,true,true,false,false,false,false] ⟨#[(.pointer (some ⟨d,0,none⟩)),q,t,u,y,(.pointer (some ⟨o,0,none⟩)),z,A,B,C,g,j,(.pointer (some ⟨d,0,none⟩)),(.pointer (some ⟨d,0,none⟩)),(.pointer (some ⟨d,9,none⟩)),(.chan (some H)),u16,u17,u18,m],[]⟩ W:=by
  refine ⟨fun h=>(by rw [R _ [4] (by kernel_rfl)] at h;cases h),fun i b e a=>?_⟩;rw [R _ [4] (by kernel_rfl)] at b;subst D;simp only [bH,aV,Tryz.f129] at a ⊢;rw [List.mem_singleton] at b;subst b;exact LoneTo.goes (n:=1) (by s_op;s_stop;exact a _ _ X)
 have a4:cZ Tryz.prog Q (base 129) k p f 5 #[false,false,false,false,true,true,true,false] ⟨#[(.pointer (some ⟨d,0,none⟩)),q,t,u,y,(.pointer (some ⟨o,0,none⟩)),z,A,B,C,g,j,u12,u13,u14,u15,(.pointer (some ⟨o,0,none⟩)),(.int .i64 P),(.agg #[.int .i64 P,.bool false]),m],[]⟩ W:=by
  refine ⟨fun h=>(by rw [R _ [0] (by kernel_rfl)] at h;cases h),fun i b e a=>?_⟩;rw [R _ [0] (by kernel_rfl)] at b;subst D;simp only [bH,aV,Tryz.f129] at a ⊢;rw [List.mem_singleton] at b;subst b;exact LoneTo.goes (n:=1) (by s_op;s_stop;exact a _ _ M)
 have L:cZ Tryz.prog Q (base 129) k p f 5 #[true,false,false,false,true,true,false,false] ⟨#[(.pointer (some ⟨d,0,none⟩)),q,t,u,y,(.pointer (some ⟨o,0,none⟩)),z,A,B,C,g,j,(.pointer (some ⟨d,0,none⟩)),u13,u14,u15,(.pointer (some ⟨o,0,none⟩)),(.int .i64 P),u18,m],[]⟩ W:=by
  refine ⟨fun h=>(by rw [R _ [1,6] (by kernel_rfl)] at h;cases h),fun i b e a=>?_⟩;rw [R _ [1,6] (by kernel_rfl)] at b;subst D;simp only [bH,aV,Tryz.f129] at a ⊢;simp only [List.mem_cons,List.not_mem_nil,or_false] at b
  rcases b with rfl | rfl
  ·exact LoneTo.goes (n:=1) (by s_op;s_stop;exact a _ _ O)
  ·exact LoneTo.goes (n:=1) (by s_op;s_stop;exact a _ _ M)
 have N:cZ Tryz.prog Q (base 129) k p f 5 #[true,true,false,false,true,false,false,false] ⟨#[(.pointer (some ⟨d,0,none⟩)),q,t,u,y,(.pointer (some ⟨o,0,none⟩)),z,A,B,C,g,j,(.pointer (some ⟨d,0,none⟩)),(.pointer (some ⟨d,0,none⟩)),u14,u15,(.pointer (some ⟨o,0,none⟩)),u17,u18,m],[]⟩ W:=by
  refine ⟨fun h=>(by rw [R _ [2,5] (by kernel_rfl)] at h;cases h),fun i b e a=>?_⟩;rw [R _ [2,5] (by kernel_rfl)] at b;subst D;simp only [bH,aV,Tryz.f129] at a ⊢;simp only [List.mem_cons,List.not_mem_nil,or_false] at b
  rcases b with rfl | rfl
  ·exact LoneTo.goes (n:=1) (by s_op;s_stop;exact a _ _ T)
  ·exact LoneTo.goes (n:=1) (by s_op;s_stop;exact a _ _ O)
 have a7:cZ Tryz.prog Q (base 129) k p f 5 #[true,true,true,false,false,false,false,false] ⟨#[(.pointer (some ⟨d,0,none⟩)),q,t,u,y,(.pointer (some ⟨o,0,none⟩)),z,A,B,C,g,j,(.pointer (some ⟨d,0,none⟩)),(.pointer (some ⟨d,0,none⟩)),(.pointer (some ⟨d,9,none⟩)),u15,u16,u17,u18,m],[]⟩ W:=by
  refine ⟨fun h=>(by rw [R _ [3,4] (by kernel_rfl)] at h;cases h),fun i b e a=>?_⟩;rw [R _ [3,4] (by kernel_rfl)] at b;subst D;simp only [bH,aV,Tryz.f129] at a ⊢;simp only [List.mem_cons,List.not_mem_nil,or_false] at b
  rcases b with rfl | rfl
  ·exact LoneTo.goes (n:=1) (by s_op;s_stop;exact a _ _ a8)
  ·exact LoneTo.goes (n:=1) (by s_op;s_stop;exact a _ _ T)
 have a3:cZ Tryz.prog Q (base 129) k p f 6 #[false,false,false,false,true,true,false,false] ⟨#[(.pointer (some ⟨d,0,none⟩)),q,t,u,y,(.pointer (some ⟨o,0,none⟩)),z,A,B,C,g,j,u12,u13,u14,u15,(.pointer (some ⟨o,0,none⟩)),(.int .i64 P),u18,m],[]⟩ W:=by
  refine ⟨fun h=>(by rw [R _ [0,6] (by kernel_rfl)] at h;cases h),fun i b e a=>?_⟩;rw [R _ [0,6] (by kernel_rfl)] at b;subst D;simp only [bH,aV,Tryz.f129] at a ⊢;simp only [List.mem_cons,List.not_mem_nil,or_false] at b
  rcases b with rfl | rfl
  ·exact LoneTo.goes (n:=1) (by s_op;s_stop;exact a _ _ L)
  ·exact LoneTo.goes (n:=1) (by s_op;s_stop;exact a _ _ a4)
 have K:cZ Tryz.prog Q (base 129) k p f 6 #[true,false,false,false,true,false,false,false] ⟨#[(.pointer (some ⟨d,0,none⟩)),q,t,u,y,(.pointer (some ⟨o,0,none⟩)),z,A,B,C,g,j,(.pointer (some ⟨d,0,none⟩)),u13,u14,u15,(.pointer (some ⟨o,0,none⟩)),u17,u18,m],[]⟩ W:=by
  refine ⟨fun h=>(by rw [R _ [1,5] (by kernel_rfl)] at h;cases h),fun i b e a=>?_⟩;rw [R _ [1,5] (by kernel_rfl)] at b;subst D;simp only [bH,aV,Tryz.f129] at a ⊢;simp only [List.mem_cons,List.not_mem_nil,or_false] at b
  rcases b with rfl | rfl
  ·exact LoneTo.goes (n:=1) (by s_op;s_stop;exact a _ _ N)
  ·exact LoneTo.goes (n:=1) (by s_op;s_stop;exact a _ _ L)
 have a6:cZ Tryz.prog Q (base 129) k p f 6 #[true,true,false,false,false,false,false,false] ⟨#[(.pointer (some ⟨d,0,none⟩)),q,t,u,y,(.pointer (some ⟨o,0,none⟩)),z,A,B,C,g,j,(.pointer (some ⟨d,0,none⟩)),(.pointer (some ⟨d,0,none⟩)),u14,u15,u16,u17,u18,m],[]⟩ W:=by
  refine ⟨fun h=>(by rw [R _ [2,4] (by kernel_rfl)] at h;cases h),fun i b e a=>?_⟩;rw [R _ [2,4] (by kernel_rfl)] at b;subst D;simp only [bH,aV,Tryz.f129] at a ⊢;simp only [List.mem_cons,List.not_mem_nil,or_false] at b
  rcases b with rfl | rfl
  ·exact LoneTo.goes (n:=1) (by s_op;s_stop;exact a _ _ a7)
  ·exact LoneTo.goes (n:=1) (by s_op;s_stop;exact a _ _ N)
 have a2:cZ Tryz.prog Q (base 129) k p f 7 #[false,false,false,false,true,false,false,false] ⟨#[(.pointer (some ⟨d,0,none⟩)),q,t,u,y,(.pointer (some ⟨o,0,none⟩)),z,A,B,C,g,j,u12,u13,u14,u15,(.pointer (some ⟨o,0,none⟩)),u17,u18,m],[]⟩ W:=by
  refine ⟨fun h=>(by rw [R _ [0,5] (by kernel_rfl)] at h;cases h),fun i b e a=>?_⟩;rw [R _ [0,5] (by kernel_rfl)] at b;subst D;simp only [bH,aV,Tryz.f129] at a ⊢;simp only [List.mem_cons,List.not_mem_nil,or_false] at b
  rcases b with rfl | rfl
  ·exact LoneTo.goes (n:=1) (by s_op;s_stop;exact a _ _ K)
  ·exact LoneTo.goes (n:=1) (by s_op;s_stop;exact a _ _ a3)
 have a5:cZ Tryz.prog Q (base 129) k p f 7 #[true,false,false,false,false,false,false,false] ⟨#[(.pointer (some ⟨d,0,none⟩)),q,t,u,y,(.pointer (some ⟨o,0,none⟩)),z,A,B,C,g,j,(.pointer (some ⟨d,0,none⟩)),u13,u14,u15,u16,u17,u18,m],[]⟩ W:=by
  refine ⟨fun h=>(by rw [R _ [1,4] (by kernel_rfl)] at h;cases h),fun i b e a=>?_⟩;rw [R _ [1,4] (by kernel_rfl)] at b;subst D;simp only [bH,aV,Tryz.f129] at a ⊢;simp only [List.mem_cons,List.not_mem_nil,or_false] at b
  rcases b with rfl | rfl
  ·exact LoneTo.goes (n:=1) (by s_op;s_stop;exact a _ _ a6)
  ·exact LoneTo.goes (n:=1) (by s_op;s_stop;exact a _ _ K)
 have a1:cZ Tryz.prog Q (base 129) k p f 8 #[false,false,false,false,false,false,false,false] ⟨#[(.pointer (some ⟨d,0,none⟩)),q,t,u,y,(.pointer (some ⟨o,0,none⟩)),z,A,B,C,g,j,u12,u13,u14,u15,u16,u17,u18,m],[]⟩ W:=by
  refine ⟨fun h=>(by rw [R _ [0,4] (by kernel_rfl)] at h;cases h),fun i b e a=>?_⟩;rw [R _ [0,4] (by kernel_rfl)] at b;subst D;simp only [bH,aV,Tryz.f129] at a ⊢;simp only [List.mem_cons,List.not_mem_nil,or_false] at b
  rcases b with rfl | rfl
  ·exact LoneTo.goes (n:=1) (by s_op;s_stop;exact a _ _ a5)
  ·exact LoneTo.goes (n:=1) (by s_op;s_stop;exact a _ _ a2)
 subst D;exact a1
theorem EZ (Q:Goroutine→World→Prop) (k:List Item) (p:List Frame) (d H o F s r id:Nat) (E:Array Value) (P:Int) (w:World) (hc:w.cell? ⟨d,9,none⟩=some (.chan (some H))) (hP:w.cell? ⟨o,0,none⟩=some (.int .i64 P)) (a0:w.heap[H]? =some (.chan F E false s r false)) (J:E.size < F) (q t u y z A B C g j u12 u13 u14 u15 u16 u17 u18 m:Value)
  (hk:LoneTo Tryz.prog Q (G ((base 131).at ⟨#[(.pointer (some ⟨d,0,none⟩)),q,t,u,y,(.pointer (some ⟨o,0,none⟩)),z,A,B,C,g,j,(.pointer (some ⟨d,0,none⟩)),(.pointer (some ⟨d,0,none⟩)),(.pointer (some ⟨d,9,none⟩)),(.chan (some H)),(.pointer (some ⟨o,0,none⟩)),(.int .i64 P),(.agg #[.int .i64 P,.bool true]),m],[]⟩ k) p) (w.drew.setChan H F (E.push (.agg #[.int .i64 P,.bool true])) false (s+1) r false)):
  LoneTo Tryz.prog Q (G ((base 131).at ⟨#[(.pointer (some ⟨d,0,none⟩)),q,t,u,y,(.pointer (some ⟨o,0,none⟩)),z,A,B,C,g,j,u12,u13,u14,u15,u16,u17,u18,m],[]⟩ (.code (.region id (bH (aV Tryz.f131.body)) true)::k)) p) w:=by
 refine mA (by kernel_rfl) ?_;have b1:w.drew.cell? ⟨d,9,none⟩=some (.chan (some H)):=hc;have b0:w.drew.cell? ⟨o,0,none⟩=some (.int .i64 P):=hP;have I:w.drew.heap[H]? =some (.chan F E false s r false):=a0;obtain ⟨W,hW⟩:∃W,w.drew=W:=⟨_,rfl⟩;rw [hW] at b1 b0 I hk;show cZ _ _ _ _ _ _ 8 #[false,false,false,false,false,false,false,false] _ w.drew;rw [hW];clear hc hP a0 hW;obtain ⟨f,D⟩:∃f,bH (aV Tryz.f131.body)=f:=⟨_,rfl⟩;have R:∀l x,Region.ready .any (bH (aV Tryz.f131.body)) l=x→Region.ready .any f l=x:=fun l x h=>by rw [←D];exact h
 have a9:cZ Tryz.prog Q (base 131) k p f 0 #[true,true,true,true,true,true,true,true] ⟨#[(.pointer (some ⟨d,0,none⟩)),q,t,u,y,(.pointer (some ⟨o,0,none⟩)),z,A,B,C,g,j,(.pointer (some ⟨d,0,none⟩)),(.pointer (some ⟨d,0,none⟩)),(.pointer (some ⟨d,9,none⟩)),(.chan (some H)),(.pointer (some ⟨o,0,none⟩)),(.int .i64 P),(.agg #[.int .i64 P,.bool true]),m],[]⟩ (W.setChan H F (E.push (.agg #[.int .i64 P,.bool true])) false (s+1) r false):=
  ⟨R _ _ (by kernel_rfl),LoneTo.goes (n:=1) (by s_c stepG_region_end;s_stop;exact hk)⟩
 have Z:cZ Tryz.prog Q (base 131) k p f 1 #[true,true,true,true,true,true,true,false] ⟨#[(.pointer (some ⟨d,0,none⟩)),q,t,u,y,(.pointer (some ⟨o,0,none⟩)),z,A,B,C,g,j,(.pointer (some ⟨d,0,none⟩)),(.pointer (some ⟨d,0,none⟩)),(.pointer (some ⟨d,9,none⟩)),(.chan (some H)),(.pointer (some ⟨o,0,none⟩)),(.int .i64 P),(.agg #[.int .i64 P,.bool true]),m],[]⟩ W:=by
  refine ⟨fun h=>(by rw [R _ [7] (by kernel_rfl)] at h;cases h),fun i b e a=>?_⟩;rw [R _ [7] (by kernel_rfl),List.mem_singleton] at b;subst b;subst D;simp only [bH,aV,Tryz.f131] at a ⊢;refine LoneTo.step (step_lone_send_room (c:=H) (cap:=F) (buf:=E) (s:=s) (r:=r) (tm:=false) (v:= .agg #[.int .i64 P,.bool true]) (stepG_comm (cases:=#[scase H (.agg #[.int .i64 P,.bool true]) (.tuple #[])]) (blocking:=true) (shape:= .send) (w':=W) rfl rfl (by decide) (by simp [execOp,scase,Act.eval])) I J) ?_;rw [Frame.finish_at];exact a _ _ a9
 have V:cZ Tryz.prog Q (base 131) k p f 2 #[true,true,true,false,true,true,true,false] ⟨#[(.pointer (some ⟨d,0,none⟩)),q,t,u,y,(.pointer (some ⟨o,0,none⟩)),z,A,B,C,g,j,(.pointer (some ⟨d,0,none⟩)),(.pointer (some ⟨d,0,none⟩)),(.pointer (some ⟨d,9,none⟩)),u15,(.pointer (some ⟨o,0,none⟩)),(.int .i64 P),(.agg #[.int .i64 P,.bool true]),m],[]⟩ W:=by
  refine ⟨fun h=>(by rw [R _ [3] (by kernel_rfl)] at h;cases h),fun i b e a=>?_⟩;rw [R _ [3] (by kernel_rfl)] at b;subst D;simp only [bH,aV,Tryz.f131] at a ⊢;rw [List.mem_singleton] at b;subst b;exact LoneTo.goes (n:=1) (by s_op;s_stop;exact a _ _ Z)
 have Y:cZ Tryz.prog Q (base 131) k p f 2 #[true,true,true,true,true,true,false,false] ⟨#[(.pointer (some ⟨d,0,none⟩)),q,t,u,y,(.pointer (some ⟨o,0,none⟩)),z,A,B,C,g,j,(.pointer (some ⟨d,0,none⟩)),(.pointer (some ⟨d,0,none⟩)),(.pointer (some ⟨d,9,none⟩)),(.chan (some H)),(.pointer (some ⟨o,0,none⟩)),(.int .i64 P),u18,m],[]⟩ W:=by
  refine ⟨fun h=>(by rw [R _ [6] (by kernel_rfl)] at h;cases h),fun i b e a=>?_⟩;rw [R _ [6] (by kernel_rfl)] at b;subst D;simp only [bH,aV,Tryz.f131] at a ⊢;rw [List.mem_singleton] at b;subst b;exact LoneTo.goes (n:=1) (by s_op;s_stop;exact a _ _ Z)
 have S:cZ Tryz.prog Q (base 131) k p f 3 #[true,true,false,false,true,true,true,false] ⟨#[(.pointer (some ⟨d,0,none⟩)),q,t,u,y,(.pointer (some ⟨o,0,none⟩)),z,A,B,C,g,j,(.pointer (some ⟨d,0,none⟩)),(.pointer (some ⟨d,0,none⟩)),u14,u15,(.pointer (some ⟨o,0,none⟩)),(.int .i64 P),(.agg #[.int .i64 P,.bool true]),m],[]⟩ W:=by
  refine ⟨fun h=>(by rw [R _ [2] (by kernel_rfl)] at h;cases h),fun i b e a=>?_⟩;rw [R _ [2] (by kernel_rfl)] at b;subst D;simp only [bH,aV,Tryz.f131] at a ⊢;rw [List.mem_singleton] at b;subst b;exact LoneTo.goes (n:=1) (by s_op;s_stop;exact a _ _ V)
 have U:cZ Tryz.prog Q (base 131) k p f 3 #[true,true,true,false,true,true,false,false] ⟨#[(.pointer (some ⟨d,0,none⟩)),q,t,u,y,(.pointer (some ⟨o,0,none⟩)),z,A,B,C,g,j,(.pointer (some ⟨d,0,none⟩)),(.pointer (some ⟨d,0,none⟩)),(.pointer (some ⟨d,9,none⟩)),u15,(.pointer (some ⟨o,0,none⟩)),(.int .i64 P),u18,m],[]⟩ W:=by
  refine ⟨fun h=>(by rw [R _ [3,6] (by kernel_rfl)] at h;cases h),fun i b e a=>?_⟩;rw [R _ [3,6] (by kernel_rfl)] at b;subst D;simp only [bH,aV,Tryz.f131] at a ⊢;simp only [List.mem_cons,List.not_mem_nil,or_false] at b
  rcases b with rfl | rfl
  ·exact LoneTo.goes (n:=1) (by s_op;s_stop;exact a _ _ Y)
  ·exact LoneTo.goes (n:=1) (by s_op;s_stop;exact a _ _ V)
 have X:cZ Tryz.prog Q (base 131) k p f 3 #[true,true,true,true,true,false,false,false] ⟨#[(.pointer (some ⟨d,0,none⟩)),q,t,u,y,(.pointer (some ⟨o,0,none⟩)),z,A,B,C,g,j,(.pointer (some ⟨d,0,none⟩)),(.pointer (some ⟨d,0,none⟩)),(.pointer (some ⟨d,9,none⟩)),(.chan (some H)),(.pointer (some ⟨o,0,none⟩)),u17,u18,m],[]⟩ W:=by
  refine ⟨fun h=>(by rw [R _ [5] (by kernel_rfl)] at h;cases h),fun i b e a=>?_⟩;rw [R _ [5] (by kernel_rfl)] at b;subst D;simp only [bH,aV,Tryz.f131] at a ⊢;rw [List.mem_singleton] at b;subst b;exact LoneTo.goes (n:=1) (by s_op;s_stop;exact a _ _ Y)
 have M:cZ Tryz.prog Q (base 131) k p f 4 #[true,false,false,false,true,true,true,false] ⟨#[(.pointer (some ⟨d,0,none⟩)),q,t,u,y,(.pointer (some ⟨o,0,none⟩)),z,A,B,C,g,j,(.pointer (some ⟨d,0,none⟩)),u13,u14,u15,(.pointer (some ⟨o,0,none⟩)),(.int .i64 P),(.agg #[.int .i64 P,.bool true]),m],[]⟩ W:=by
  refine ⟨fun h=>(by rw [R _ [1] (by kernel_rfl)] at h;cases h),fun i b e a=>?_⟩;rw [R _ [1] (by kernel_rfl)] at b;subst D;simp only [bH,aV,Tryz.f131] at a ⊢;rw [List.mem_singleton] at b;subst b;exact LoneTo.goes (n:=1) (by s_op;s_stop;exact a _ _ S)
 have O:cZ Tryz.prog Q (base 131) k p f 4 #[true,true,false,false,true,true,false,false] ⟨#[(.pointer (some ⟨d,0,none⟩)),q,t,u,y,(.pointer (some ⟨o,0,none⟩)),z,A,B,C,g,j,(.pointer (some ⟨d,0,none⟩)),(.pointer (some ⟨d,0,none⟩)),u14,u15,(.pointer (some ⟨o,0,none⟩)),(.int .i64 P),u18,m],[]⟩ W:=by
  refine ⟨fun h=>(by rw [R _ [2,6] (by kernel_rfl)] at h;cases h),fun i b e a=>?_⟩;rw [R _ [2,6] (by kernel_rfl)] at b;subst D;simp only [bH,aV,Tryz.f131] at a ⊢;simp only [List.mem_cons,List.not_mem_nil,or_false] at b
  rcases b with rfl | rfl
  ·exact LoneTo.goes (n:=1) (by s_op;s_stop;exact a _ _ U)
  ·exact LoneTo.goes (n:=1) (by s_op;s_stop;exact a _ _ S)
 have T:cZ Tryz.prog Q (base 131) k p f 4 #[true,true,true,false,true,false,false,false] ⟨#[(.pointer (some ⟨d,0,none⟩)),q,t,u,y,(.pointer (some ⟨o,0,none⟩)),z,A,B,C,g,j,(.pointer (some ⟨d,0,none⟩)),(.pointer (some ⟨d,0,none⟩)),(.pointer (some ⟨d,9,none⟩)),u15,(.pointer (some ⟨o,0,none⟩)),u17,u18,m],[]⟩ W:=by
  refine ⟨fun h=>(by rw [R _ [3,5] (by kernel_rfl)] at h;cases h),fun i b e a=>?_⟩;rw [R _ [3,5] (by kernel_rfl)] at b;subst D;simp only [bH,aV,Tryz.f131] at a ⊢;simp only [List.mem_cons,List.not_mem_nil,or_false] at b
  rcases b with rfl | rfl
  ·exact LoneTo.goes (n:=1) (by s_op;s_stop;exact a _ _ X)
  ·exact LoneTo.goes (n:=1) (by s_op;s_stop;exact a _ _ U)
 have a8:cZ Tryz.prog Q (base 131) k p f 4 #[true,true,true,true,false,false,false,false] ⟨#[(.pointer (some ⟨d,0,none⟩)),q,t,u,y,(.pointer (some ⟨o,0,none⟩)),z,A,B,C,g,j,(.pointer (some ⟨d,0,none⟩)),(.pointer (some ⟨d,0,none⟩)),(.pointer (some ⟨d,9,none⟩)),(.chan (some H)),u16,u17,u18,m],[]⟩ W:=by
  refine ⟨fun h=>(by rw [R _ [4] (by kernel_rfl)] at h;cases h),fun i b e a=>?_⟩;rw [R _ [4] (by kernel_rfl)] at b;subst D;simp only [bH,aV,Tryz.f131] at a ⊢;rw [List.mem_singleton] at b;subst b;exact LoneTo.goes (n:=1) (by s_op;s_stop;exact a _ _ X)
 have a4:cZ Tryz.prog Q (base 131) k p f 5 #[false,false,false,false,true,true,true,false] ⟨#[(.pointer (some ⟨d,0,none⟩)),q,t,u,y,(.pointer (some ⟨o,0,none⟩)),z,A,B,C,g,j,u12,u13,u14,u15,(.pointer (some ⟨o,0,none⟩)),(.int .i64 P),(.agg #[.int .i64 P,.bool true]),m],[]⟩ W:=by
  refine ⟨fun h=>(by rw [R _ [0] (by kernel_rfl)] at h;cases h),fun i b e a=>?_⟩;rw [R _ [0] (by kernel_rfl)] at b;subst D;simp only [bH,aV,Tryz.f131] at a ⊢;rw [List.mem_singleton] at b;subst b;exact LoneTo.goes (n:=1) (by s_op;s_stop;exact a _ _ M)
 have L:cZ Tryz.prog Q (base 131) k p f 5 #[true,false,false,false,true,true,false,false] ⟨#[(.pointer (some ⟨d,0,none⟩)),q,t,u,y,(.pointer (some ⟨o,0,none⟩)),z,A,B,C,g,j,(.pointer (some ⟨d,0,none⟩)),u13,u14,u15,(.pointer (some ⟨o,0,none⟩)),(.int .i64 P),u18,m],[]⟩ W:=by
  refine ⟨fun h=>(by rw [R _ [1,6] (by kernel_rfl)] at h;cases h),fun i b e a=>?_⟩;rw [R _ [1,6] (by kernel_rfl)] at b;subst D;simp only [bH,aV,Tryz.f131] at a ⊢;simp only [List.mem_cons,List.not_mem_nil,or_false] at b
  rcases b with rfl | rfl
  ·exact LoneTo.goes (n:=1) (by s_op;s_stop;exact a _ _ O)
  ·exact LoneTo.goes (n:=1) (by s_op;s_stop;exact a _ _ M)
 have N:cZ Tryz.prog Q (base 131) k p f 5 #[true,true,false,false,true,false,false,false] ⟨#[(.pointer (some ⟨d,0,none⟩)),q,t,u,y,(.pointer (some ⟨o,0,none⟩)),z,A,B,C,g,j,(.pointer (some ⟨d,0,none⟩)),(.pointer (some ⟨d,0,none⟩)),u14,u15,(.pointer (some ⟨o,0,none⟩)),u17,u18,m],[]⟩ W:=by
  refine ⟨fun h=>(by rw [R _ [2,5] (by kernel_rfl)] at h;cases h),fun i b e a=>?_⟩;rw [R _ [2,5] (by kernel_rfl)] at b;subst D;simp only [bH,aV,Tryz.f131] at a ⊢;simp only [List.mem_cons,List.not_mem_nil,or_false] at b
  rcases b with rfl | rfl
  ·exact LoneTo.goes (n:=1) (by s_op;s_stop;exact a _ _ T)
  ·exact LoneTo.goes (n:=1) (by s_op;s_stop;exact a _ _ O)
 have a7:cZ Tryz.prog Q (base 131) k p f 5 #[true,true,true,false,false,false,false,false] ⟨#[(.pointer (some ⟨d,0,none⟩)),q,t,u,y,(.pointer (some ⟨o,0,none⟩)),z,A,B,C,g,j,(.pointer (some ⟨d,0,none⟩)),(.pointer (some ⟨d,0,none⟩)),(.pointer (some ⟨d,9,none⟩)),u15,u16,u17,u18,m],[]⟩ W:=by
  refine ⟨fun h=>(by rw [R _ [3,4] (by kernel_rfl)] at h;cases h),fun i b e a=>?_⟩;rw [R _ [3,4] (by kernel_rfl)] at b;subst D;simp only [bH,aV,Tryz.f131] at a ⊢;simp only [List.mem_cons,List.not_mem_nil,or_false] at b
  rcases b with rfl | rfl
  ·exact LoneTo.goes (n:=1) (by s_op;s_stop;exact a _ _ a8)
  ·exact LoneTo.goes (n:=1) (by s_op;s_stop;exact a _ _ T)
 have a3:cZ Tryz.prog Q (base 131) k p f 6 #[false,false,false,false,true,true,false,false] ⟨#[(.pointer (some ⟨d,0,none⟩)),q,t,u,y,(.pointer (some ⟨o,0,none⟩)),z,A,B,C,g,j,u12,u13,u14,u15,(.pointer (some ⟨o,0,none⟩)),(.int .i64 P),u18,m],[]⟩ W:=by
  refine ⟨fun h=>(by rw [R _ [0,6] (by kernel_rfl)] at h;cases h),fun i b e a=>?_⟩;rw [R _ [0,6] (by kernel_rfl)] at b;subst D;simp only [bH,aV,Tryz.f131] at a ⊢;simp only [List.mem_cons,List.not_mem_nil,or_false] at b
  rcases b with rfl | rfl
  ·exact LoneTo.goes (n:=1) (by s_op;s_stop;exact a _ _ L)
  ·exact LoneTo.goes (n:=1) (by s_op;s_stop;exact a _ _ a4)
 have K:cZ Tryz.prog Q (base 131) k p f 6 #[true,false,false,false,true,false,false,false] ⟨#[(.pointer (some ⟨d,0,none⟩)),q,t,u,y,(.pointer (some ⟨o,0,none⟩)),z,A,B,C,g,j,(.pointer (some ⟨d,0,none⟩)),u13,u14,u15,(.pointer (some ⟨o,0,none⟩)),u17,u18,m],[]⟩ W:=by
  refine ⟨fun h=>(by rw [R _ [1,5] (by kernel_rfl)] at h;cases h),fun i b e a=>?_⟩;rw [R _ [1,5] (by kernel_rfl)] at b;subst D;simp only [bH,aV,Tryz.f131] at a ⊢;simp only [List.mem_cons,List.not_mem_nil,or_false] at b
  rcases b with rfl | rfl
  ·exact LoneTo.goes (n:=1) (by s_op;s_stop;exact a _ _ N)
  ·exact LoneTo.goes (n:=1) (by s_op;s_stop;exact a _ _ L)
 have a6:cZ Tryz.prog Q (base 131) k p f 6 #[true,true,false,false,false,false,false,false] ⟨#[(.pointer (some ⟨d,0,none⟩)),q,t,u,y,(.pointer (some ⟨o,0,none⟩)),z,A,B,C,g,j,(.pointer (some ⟨d,0,none⟩)),(.pointer (some ⟨d,0,none⟩)),u14,u15,u16,u17,u18,m],[]⟩ W:=by
  refine ⟨fun h=>(by rw [R _ [2,4] (by kernel_rfl)] at h;cases h),fun i b e a=>?_⟩;rw [R _ [2,4] (by kernel_rfl)] at b;subst D;simp only [bH,aV,Tryz.f131] at a ⊢;simp only [List.mem_cons,List.not_mem_nil,or_false] at b
  rcases b with rfl | rfl
  ·exact LoneTo.goes (n:=1) (by s_op;s_stop;exact a _ _ a7)
  ·exact LoneTo.goes (n:=1) (by s_op;s_stop;exact a _ _ N)
 have a2:cZ Tryz.prog Q (base 131) k p f 7 #[false,false,false,false,true,false,false,false] ⟨#[(.pointer (some ⟨d,0,none⟩)),q,t,u,y,(.pointer (some ⟨o,0,none⟩)),z,A,B,C,g,j,u12,u13,u14,u15,(.pointer (some ⟨o,0,none⟩)),u17,u18,m],[]⟩ W:=by
  refine ⟨fun h=>(by rw [R _ [0,5] (by kernel_rfl)] at h;cases h),fun i b e a=>?_⟩;rw [R _ [0,5] (by kernel_rfl)] at b;subst D;simp only [bH,aV,Tryz.f131] at a ⊢;simp only [List.mem_cons,List.not_mem_nil,or_false] at b
  rcases b with rfl | rfl
  ·exact LoneTo.goes (n:=1) (by s_op;s_stop;exact a _ _ K)
  ·exact LoneTo.goes (n:=1) (by s_op;s_stop;exact a _ _ a3)
 have a5:cZ Tryz.prog Q (base 131) k p f 7 #[true,false,false,false,false,false,false,false] ⟨#[(.pointer (some ⟨d,0,none⟩)),q,t,u,y,(.pointer (some ⟨o,0,none⟩)),z,A,B,C,g,j,(.pointer (some ⟨d,0,none⟩)),u13,u14,u15,u16,u17,u18,m],[]⟩ W:=by
  refine ⟨fun h=>(by rw [R _ [1,4] (by kernel_rfl)] at h;cases h),fun i b e a=>?_⟩;rw [R _ [1,4] (by kernel_rfl)] at b;subst D;simp only [bH,aV,Tryz.f131] at a ⊢;simp only [List.mem_cons,List.not_mem_nil,or_false] at b
  rcases b with rfl | rfl
  ·exact LoneTo.goes (n:=1) (by s_op;s_stop;exact a _ _ a6)
  ·exact LoneTo.goes (n:=1) (by s_op;s_stop;exact a _ _ K)
 have a1:cZ Tryz.prog Q (base 131) k p f 8 #[false,false,false,false,false,false,false,false] ⟨#[(.pointer (some ⟨d,0,none⟩)),q,t,u,y,(.pointer (some ⟨o,0,none⟩)),z,A,B,C,g,j,u12,u13,u14,u15,u16,u17,u18,m],[]⟩ W:=by
  refine ⟨fun h=>(by rw [R _ [0,4] (by kernel_rfl)] at h;cases h),fun i b e a=>?_⟩;rw [R _ [0,4] (by kernel_rfl)] at b;subst D;simp only [bH,aV,Tryz.f131] at a ⊢;simp only [List.mem_cons,List.not_mem_nil,or_false] at b
  rcases b with rfl | rfl
  ·exact LoneTo.goes (n:=1) (by s_op;s_stop;exact a _ _ a5)
  ·exact LoneTo.goes (n:=1) (by s_op;s_stop;exact a _ _ a2)
 subst D;exact a1
def gx (l:List (Nat×List UInt8)) (b:Bool):List Value:=l.map fun x=>df (x.1,b)
theorem AB (B c b L:Nat) (a:Option Addr) (l:List (Nat×List UInt8)) (C:World) (cs:List Frame) (R:World→Prop) (hl:l.length≤1000)
  (y:∀k (hk:k < l.length),∃g d,a=some ⟨g,d,none⟩∧g≠c∧C.cell? ⟨g,d+k * 2,none⟩=some (.int .i64 (l[k].1:Int))∧C.cell? ⟨g,d+k * 2+1,none⟩=some (.string (bs l[k].2)))
  (Z:B≠c) (f:C.cell? ⟨B,9,none⟩=some (.chan (some c))):
  ∀(m k:Nat) (w:World) (s r:Nat) (h:List Value) (u2 u3 u4 u5 u9 u10 u11 u12 u13 u14 u15 u16 u17 u18 u19:Value),k+m=l.length→aH (fun j=>j=c) C w→w.heap[c]? =some (.chan b h.toArray false s r false)→h.length+m≤b→
   (∀u O N,aH (fun j=>j=c) C u→u.heap[c]? =some (.chan b (h++gx (l.drop k) false).toArray false O N false)→R u)→
   LoneTo Tryz.prog (fun g' u=>∃e X,g'=G X cs∧(e= .returned (.tuple #[])∧R u)∧X.fn=129∧X.leaving Tryz.prog u e)
    (G ((base 129).at ⟨#[.pointer (some ⟨B,0,none⟩),.slice a l.length L,u2,u3,u4,u5,.slice a l.length L,.int .i64 l.length,.int .i64 k,u9,u10,u11,u12,u13,u14,u15,u16,u17,u18,u19],[]⟩ [.code (aV Tryz.f129.body),.inLoop (aV Tryz.f129.body),.inBlock 0]) cs) w:=by
 intro m
 induction m with
 | zero=>
  intro k w s r h u2 u3 u4 u5 u9 u10 u11 u12 u13 u14 u15 u16 u17 u18 u19 hk q p _ M;have H:=M w s r q (by rw [List.drop_eq_nil_of_le (by omega)];simpa [gx] using p);have A:¬(k:Int) < (l.length:Int):=by omega
  obtain ⟨n,D⟩:∃n,l.length=n:=⟨_,rfl⟩;rw [D] at A ⊢;clear M y p q;refine LoneTo.goes (n:=30) ?_;simp only [aV,Tryz.f129]
  s_c stepG_seq
  s_reg
  s_op
  s_c stepG_region_end
  s_c stepG_seq
  s_cond false
  s_exit
  s_c stepG_end
  s_stop
  exact LoneTo.done ⟨.returned (.tuple #[]),_,rfl,⟨rfl,H⟩,rfl,rfl,rfl,rfl,_,Tryz.func129,by simp [results,Tryz.f129,Frame.at]⟩
 | succ m ih=>
  intro k w s r h u2 u3 u4 u5 u9 u10 u11 u12 u13 u14 u15 u16 u17 u18 u19 hk q p Y M;have J:k < l.length:=by omega
  obtain ⟨g,d,rfl,hg,T,U⟩:=y k J;have A:(k:Int) < (l.length:Int):=by omega
  have V:w.cell? ⟨g,d+k * 2,none⟩=some (.int .i64 (l[k].1:Int)):=(World.cell?_of_block (q.block g (aC T) hg)).trans T;have W:w.cell? ⟨g,d+k * 2+1,none⟩=some (.string (bs l[k].2)):=(World.cell?_of_block (q.block g (aC U) hg)).trans U;have F:l.drop k=l[k]::l.drop (k+1):=List.drop_eq_getElem_cons J;obtain ⟨x,ex⟩:∃x,l[k]=x:=⟨_,rfl⟩;rw [ex] at V W F;obtain ⟨P,nm⟩:=x;simp only at V W;obtain ⟨n,D⟩:∃n,l.length=n:=⟨_,rfl⟩;have eS:(Value.slice (some ⟨g,d,none⟩) l.length L)= .slice (some ⟨g,d,none⟩) n L:=by rw [D]
  rw [D] at A;have t:=ih (k+1);simp only [aV,Tryz.f129] at t ⊢;rw [D] at t ⊢;refine LoneTo.goes (n:=60) ?_
  s_c stepG_seq
  s_reg
  s_op
  s_c stepG_region_end
  s_c stepG_seq
  s_cond true
  s_c stepG_skip
  s_c stepG_seq
  s_c stepG_block
  s_c stepG_seq
  s_reg
  s_op
  s_op
  s_op
  s_op
  s_c stepG_region_end
  s_stop
  have S:=heap_alloc_new w (.cells #[.int .i64 (P:Int),.string (bs nm)] 162);obtain ⟨i,z⟩:∃i:World,w.alloc (.cells #[.int .i64 (P:Int),.string (bs nm)] 162)=i:=⟨_,rfl⟩;have K:Below w.heap.size w i:=by rw [←z];exact (Below.refl _ _).alloc (Nat.le_refl _) _
  rw [z] at S ⊢;have p1:i.cell? ⟨w.heap.size,0,none⟩=some (.int .i64 (P:Int)):=by rw [Lib.cell_of_heap S];rfl
  have t1:i.cell? ⟨B,9,none⟩=some (.chan (some c)):=(K.cell (Nat.lt_of_lt_of_le (aC f) q.size)).trans ((World.cell?_of_block (q.block B (aC f) Z)).trans f);have q1:=ae K p;have v:c < i.drew.heap.size:=ah q1
  have K1:aH (fun j=>j=c) C (i.drew.setChan c b (h.toArray.push (df (P,false))) false (s+1) r false):=by
   refine (q.trans (aH.below (K.drew):aH (fun j=>j=c) w i.drew) (fun _ _ e=>e)).trans ?_ (fun _ _ e=>e);exact ⟨by simp [World.setChan],fun j hj hn=>by simp [World.setChan,Array.getElem?_setIfInBounds_ne (Ne.symm hn)],⟨rfl,rfl,rfl⟩⟩
  have q2:=heap_setChan i.drew c b (h.toArray.push (df (P,false))) false (s+1) r false v;refine AD _ _ _ B c w.heap.size b s r _ h.toArray (P:Int) i t1 p1 q1 (by rw [List.size_toArray];omega) _ _ _ _ _ _ _ _ _ _ _ _ _ _ _ _ _ _ ?_;have o:h.toArray.push (df (P,false))=(h++[df (P,false)]).toArray:=by simp
  have a0:IntKind.i64.wrap ((k:Int)+1)=(k:Int)+1:=by rw [IntKind.wrap_i64];omega
  change LoneTo _ _ _ (i.drew.setChan c b (h.toArray.push (df (P,false))) false (s+1) r false);obtain ⟨Q,E⟩:∃Q:World,i.drew.setChan c b (h.toArray.push (df (P,false))) false (s+1) r false=Q:=⟨_,rfl⟩;rw [E] at K1 q2 ⊢;rw [o] at q2;have I:=t Q (s+1) r (h++[df (P,false)]);clear E z S K p1 t1 q1 v ih t p q V W T U o;refine LoneTo.goes (n:=20) ?_
  s_c stepG_inBlock
  s_reg
  s_op
  s_op
  s_c stepG_region_end
  s_c stepG_inLoop
  s_stop
  rw [show (k:Int)+1=((k+1:Nat):Int) from rfl]
  exact I _ _ _ _ _ _ _ _ _ _ _ _ _ _ _ (by omega) K1 q2 (by rw [List.length_append];simp only [List.length_cons,List.length_nil];omega) (fun u O N h1 h2=>M u O N h1 (by
   rw [F];show u.heap[c]? =some (.chan b (h++(df (P,false)::gx (l.drop (k+1)) false)).toArray false O N false);rw [h2,List.append_assoc]
   rfl))
theorem CD (o g c:Nat) (v:Value) (l:List (Nat×List UInt8)) (w:World) (s r:Nat) (q:List Value) (K:l.length≤1000) (h:bg w v l.length 2 (aR l)) (J:v.ownBlock≠some g) (D:o≠g) (d:w.cell? ⟨o,9,none⟩=some (.chan (some g))) (t:w.heap[g]? =some (.chan c q.toArray false s r false)) (i:q.length+l.length≤c):
  Calls Tryz.prog 129 #[.pointer (some ⟨o,0,none⟩),v] w fun e p=>e= .returned (.tuple #[])∧aH (fun j=>j=g) w p∧∃y x,p.heap[g]? =some (.chan c (q++gx l false).toArray false y x false):=by
 obtain ⟨a,A,rfl,C⟩:=h.shape;refine calls_of_loneTo fun F=>?_
 have e:Frame.enter Tryz.prog 129 #[.pointer (some ⟨o,0,none⟩),.slice a l.length A] .normal=(base 129).at ⟨#[.pointer (some ⟨o,0,none⟩),.slice a l.length A,undef,undef,undef,undef,undef,undef,undef,undef,undef,undef,undef,undef,undef,undef,undef,undef,undef,undef],[]⟩ [.code (Tryz.f129.body.getD .skip)]:=by
  simp [Frame.enter,Frame.at,Tryz.func129,base,Tryz.f129]
 rw [e]
 have u:=fun u2 u3 u4 u5 u9 u10 u11 u12 u13 u14 u15 u16 u17 u18 u19=>AB o g c A a l w F (fun p=>aH (fun j=>j=g) w p∧∃y x,p.heap[g]? =some (.chan c (q++gx l false).toArray false y x false)) K (fun k z=>by
  obtain ⟨b,f,B,_,L⟩:=C k 0 z (by decide);obtain ⟨N,E,m,_,M⟩:=C k 1 z (by decide);rw [B] at m;injection m with m;injection m with m e3;subst m e3;refine ⟨b,f,B,fun G=>J (by rw [B,G];rfl),?_,?_⟩
  ·rw [show f+k * 2=f+(k * 2+0) by omega,L];exact (dP l k z).1
  ·rw [show f+k * 2+1=f+(k * 2+1) by omega,M];exact (dP l k z).2) D d l.length 0 w s r q u2 u3 u4 u5 u9 u10 u11 u12 u13 u14 u15 u16 u17 u18 u19 (by omega) (aH.refl _ _) t i (fun p y x H I=>⟨H,y,x,I⟩)
 clear t d C h e;simp only [aV,Tryz.f129] at u;refine LoneTo.goes (n:=20) ?_;simp only [Tryz.f129,Option.getD_some]
 s_c stepG_seq
 s_reg
 s_op
 s_op
 s_op
 s_c stepG_region_end
 s_c stepG_block
 s_c stepG_loop
 s_stop
 exact u _ _ _ _ _ _ _ _ _ _ _ _ _ _ _
theorem EY (B c b L:Nat) (a:Option Addr) (l:List (Nat×List UInt8)) (C:World) (cs:List Frame) (R:World→Prop) (hl:l.length≤1000)
  (y:∀k (hk:k < l.length),∃g d,a=some ⟨g,d,none⟩∧g≠c∧C.cell? ⟨g,d+k * 2,none⟩=some (.int .i64 (l[k].1:Int))∧C.cell? ⟨g,d+k * 2+1,none⟩=some (.string (bs l[k].2)))
  (Z:B≠c) (f:C.cell? ⟨B,9,none⟩=some (.chan (some c))):
  ∀(m k:Nat) (w:World) (s r:Nat) (h:List Value) (u2 u3 u4 u5 u9 u10 u11 u12 u13 u14 u15 u16 u17 u18 u19:Value),k+m=l.length→aH (fun j=>j=c) C w→w.heap[c]? =some (.chan b h.toArray false s r false)→h.length+m≤b→
   (∀u O N,aH (fun j=>j=c) C u→u.heap[c]? =some (.chan b (h++gx (l.drop k) true).toArray false O N false)→R u)→
   LoneTo Tryz.prog (fun g' u=>∃e X,g'=G X cs∧(e= .returned (.tuple #[])∧R u)∧X.fn=131∧X.leaving Tryz.prog u e)
    (G ((base 131).at ⟨#[.pointer (some ⟨B,0,none⟩),.slice a l.length L,u2,u3,u4,u5,.slice a l.length L,.int .i64 l.length,.int .i64 k,u9,u10,u11,u12,u13,u14,u15,u16,u17,u18,u19],[]⟩ [.code (aV Tryz.f131.body),.inLoop (aV Tryz.f131.body),.inBlock 0]) cs) w:=by
 intro m
 induction m with
 | zero=>
  intro k w s r h u2 u3 u4 u5 u9 u10 u11 u12 u13 u14 u15 u16 u17 u18 u19 hk q p _ M;have H:=M w s r q (by rw [List.drop_eq_nil_of_le (by omega)];simpa [gx] using p);have A:¬(k:Int) < (l.length:Int):=by omega
  obtain ⟨n,D⟩:∃n,l.length=n:=⟨_,rfl⟩;rw [D] at A ⊢;clear M y p q;refine LoneTo.goes (n:=30) ?_;simp only [aV,Tryz.f131]
  s_c stepG_seq
  s_reg
  s_op
  s_c stepG_region_end
  s_c stepG_seq
  s_cond false
  s_exit
  s_c stepG_end
  s_stop
  exact LoneTo.done ⟨.returned (.tuple #[]),_,rfl,⟨rfl,H⟩,rfl,rfl,rfl,rfl,_,Tryz.func131,by simp [results,Tryz.f131,Frame.at]⟩
 | succ m ih=>
  intro k w s r h u2 u3 u4 u5 u9 u10 u11 u12 u13 u14 u15 u16 u17 u18 u19 hk q p Y M;have J:k < l.length:=by omega
  obtain ⟨g,d,rfl,hg,T,U⟩:=y k J;have A:(k:Int) < (l.length:Int):=by omega
  have V:w.cell? ⟨g,d+k * 2,none⟩=some (.int .i64 (l[k].1:Int)):=(World.cell?_of_block (q.block g (aC T) hg)).trans T;have W:w.cell? ⟨g,d+k * 2+1,none⟩=some (.string (bs l[k].2)):=(World.cell?_of_block (q.block g (aC U) hg)).trans U;have F:l.drop k=l[k]::l.drop (k+1):=List.drop_eq_getElem_cons J;obtain ⟨x,ex⟩:∃x,l[k]=x:=⟨_,rfl⟩;rw [ex] at V W F;obtain ⟨P,nm⟩:=x;simp only at V W;obtain ⟨n,D⟩:∃n,l.length=n:=⟨_,rfl⟩;have eS:(Value.slice (some ⟨g,d,none⟩) l.length L)= .slice (some ⟨g,d,none⟩) n L:=by rw [D]
  rw [D] at A;have t:=ih (k+1);simp only [aV,Tryz.f131] at t ⊢;rw [D] at t ⊢;refine LoneTo.goes (n:=60) ?_
  s_c stepG_seq
  s_reg
  s_op
  s_c stepG_region_end
  s_c stepG_seq
  s_cond true
  s_c stepG_skip
  s_c stepG_seq
  s_c stepG_block
  s_c stepG_seq
  s_reg
  s_op
  s_op
  s_op
  s_op
  s_c stepG_region_end
  s_stop
  have S:=heap_alloc_new w (.cells #[.int .i64 (P:Int),.string (bs nm)] 162);obtain ⟨i,z⟩:∃i:World,w.alloc (.cells #[.int .i64 (P:Int),.string (bs nm)] 162)=i:=⟨_,rfl⟩;have K:Below w.heap.size w i:=by rw [←z];exact (Below.refl _ _).alloc (Nat.le_refl _) _
  rw [z] at S ⊢;have p1:i.cell? ⟨w.heap.size,0,none⟩=some (.int .i64 (P:Int)):=by rw [Lib.cell_of_heap S];rfl
  have t1:i.cell? ⟨B,9,none⟩=some (.chan (some c)):=(K.cell (Nat.lt_of_lt_of_le (aC f) q.size)).trans ((World.cell?_of_block (q.block B (aC f) Z)).trans f);have q1:=ae K p;have v:c < i.drew.heap.size:=ah q1
  have K1:aH (fun j=>j=c) C (i.drew.setChan c b (h.toArray.push (df (P,true))) false (s+1) r false):=by
   refine (q.trans (aH.below (K.drew):aH (fun j=>j=c) w i.drew) (fun _ _ e=>e)).trans ?_ (fun _ _ e=>e);exact ⟨by simp [World.setChan],fun j hj hn=>by simp [World.setChan,Array.getElem?_setIfInBounds_ne (Ne.symm hn)],⟨rfl,rfl,rfl⟩⟩
  have q2:=heap_setChan i.drew c b (h.toArray.push (df (P,true))) false (s+1) r false v;refine EZ _ _ _ B c w.heap.size b s r _ h.toArray (P:Int) i t1 p1 q1 (by rw [List.size_toArray];omega) _ _ _ _ _ _ _ _ _ _ _ _ _ _ _ _ _ _ ?_;have o:h.toArray.push (df (P,true))=(h++[df (P,true)]).toArray:=by simp
  have a0:IntKind.i64.wrap ((k:Int)+1)=(k:Int)+1:=by rw [IntKind.wrap_i64];omega
  change LoneTo _ _ _ (i.drew.setChan c b (h.toArray.push (df (P,true))) false (s+1) r false);obtain ⟨Q,E⟩:∃Q:World,i.drew.setChan c b (h.toArray.push (df (P,true))) false (s+1) r false=Q:=⟨_,rfl⟩;rw [E] at K1 q2 ⊢;rw [o] at q2;have I:=t Q (s+1) r (h++[df (P,true)]);clear E z S K p1 t1 q1 v ih t p q V W T U o;refine LoneTo.goes (n:=20) ?_
  s_c stepG_inBlock
  s_reg
  s_op
  s_op
  s_c stepG_region_end
  s_c stepG_inLoop
  s_stop
  rw [show (k:Int)+1=((k+1:Nat):Int) from rfl]
  exact I _ _ _ _ _ _ _ _ _ _ _ _ _ _ _ (by omega) K1 q2 (by rw [List.length_append];simp only [List.length_cons,List.length_nil];omega) (fun u O N h1 h2=>M u O N h1 (by
   rw [F];show u.heap[c]? =some (.chan b (h++(df (P,true)::gx (l.drop (k+1)) true)).toArray false O N false);rw [h2,List.append_assoc]
   rfl))
theorem GQ (o g c:Nat) (v:Value) (l:List (Nat×List UInt8)) (w:World) (s r:Nat) (q:List Value) (K:l.length≤1000) (h:bg w v l.length 2 (aR l)) (J:v.ownBlock≠some g) (D:o≠g) (d:w.cell? ⟨o,9,none⟩=some (.chan (some g))) (t:w.heap[g]? =some (.chan c q.toArray false s r false)) (i:q.length+l.length≤c):
  Calls Tryz.prog 131 #[.pointer (some ⟨o,0,none⟩),v] w fun e p=>e= .returned (.tuple #[])∧aH (fun j=>j=g) w p∧∃y x,p.heap[g]? =some (.chan c (q++gx l true).toArray false y x false):=by
 obtain ⟨a,A,rfl,C⟩:=h.shape;refine calls_of_loneTo fun F=>?_
 have e:Frame.enter Tryz.prog 131 #[.pointer (some ⟨o,0,none⟩),.slice a l.length A] .normal=(base 131).at ⟨#[.pointer (some ⟨o,0,none⟩),.slice a l.length A,undef,undef,undef,undef,undef,undef,undef,undef,undef,undef,undef,undef,undef,undef,undef,undef,undef,undef],[]⟩ [.code (Tryz.f131.body.getD .skip)]:=by
  simp [Frame.enter,Frame.at,Tryz.func131,base,Tryz.f131]
 rw [e]
 have u:=fun u2 u3 u4 u5 u9 u10 u11 u12 u13 u14 u15 u16 u17 u18 u19=>EY o g c A a l w F (fun p=>aH (fun j=>j=g) w p∧∃y x,p.heap[g]? =some (.chan c (q++gx l true).toArray false y x false)) K (fun k z=>by
  obtain ⟨b,f,B,_,L⟩:=C k 0 z (by decide);obtain ⟨N,E,m,_,M⟩:=C k 1 z (by decide);rw [B] at m;injection m with m;injection m with m e3;subst m e3;refine ⟨b,f,B,fun G=>J (by rw [B,G];rfl),?_,?_⟩
  ·rw [show f+k * 2=f+(k * 2+0) by omega,L];exact (dP l k z).1
  ·rw [show f+k * 2+1=f+(k * 2+1) by omega,M];exact (dP l k z).2) D d l.length 0 w s r q u2 u3 u4 u5 u9 u10 u11 u12 u13 u14 u15 u16 u17 u18 u19 (by omega) (aH.refl _ _) t i (fun p y x H I=>⟨H,y,x,I⟩)
 clear t d C h e;simp only [aV,Tryz.f131] at u;refine LoneTo.goes (n:=20) ?_;simp only [Tryz.f131,Option.getD_some]
 s_c stepG_seq
 s_reg
 s_op
 s_op
 s_op
 s_c stepG_region_end
 s_c stepG_block
 s_c stepG_loop
 s_stop
 exact u _ _ _ _ _ _ _ _ _ _ _ _ _ _ _
section
variable {w w':World} {tb ch pp pb:Nat} {va vu vl:Value} {frm body:List UInt8} {cap:Nat} {t:aQ}
theorem wS (t:aQ) (l:List (Nat×List UInt8)) (b:Bool):t.came.map df++gx l b=(t.leave l b).came.map df:=by
 unfold aQ.leave gx;rw [List.map_append,List.map_map];rfl
theorem bR.sent (h:bR w tb ch pp pb va vu vl frm body cap false t) (l:List (Nat×List UInt8)) (b:Bool) (c:aH (fun j=>j=ch) w w') (f:∃s r,w'.heap[ch]? =some (.chan cap (t.came.map df++gx l b).toArray false s r false)):bR w' tb ch pp pb va vu vl frm body cap false (t.leave l b):=by
 obtain ⟨s,r,e⟩:=f;rw [wS] at e;exact ⟨c.some_ h.blk h.tc,⟨s,r,e⟩,h.una.chg c (fun g a d=>(h.at_ g (h.ua g a)).2.1 d),bC h.wil c (fun g a d=>(h.lb a).2.1 d),h.ua,h.al,fun k a=>⟨(h.at_ k a).1,(h.at_ k a).2.1,Nat.lt_of_lt_of_le (h.at_ k a).2.2 c.size⟩⟩
theorem pL (h:bR w tb ch pp pb va vu vl frm body cap false t) (v:Value) (l:List (Nat×List UInt8)) (g:bg w v l.length 2 (aR l)) (i:v.ownBlock≠some ch) (f:l.length≤1000) (a:t.came.length+l.length≤cap):
  Calls Tryz.prog 129 #[.pointer (some ⟨tb,0,none⟩),v] w fun e w'=>e= .returned (.tuple #[])∧bR w' tb ch pp pb va vu vl frm body cap false (t.leave l false)∧aH (lA tb ch va vl) w w':=by
 obtain ⟨s,r,d⟩:=h.chan;refine (CD tb ch cap v l w s r (t.came.map df) f g i h.tc (h.cell 9) d (by rw [List.length_map];exact a)).mono ?_;rintro e w' ⟨rfl,b,c⟩;exact ⟨rfl,h.sent l false b c,b.mono (fun k _ e=> .inr (.inl e))⟩
theorem JY (h:bR w tb ch pp pb va vu vl frm body cap false t) (v:Value) (l:List (Nat×List UInt8)) (g:bg w v l.length 2 (aR l)) (i:v.ownBlock≠some ch) (f:l.length≤1000) (a:t.came.length+l.length≤cap):
  Calls Tryz.prog 131 #[.pointer (some ⟨tb,0,none⟩),v] w fun e w'=>e= .returned (.tuple #[])∧bR w' tb ch pp pb va vu vl frm body cap false (t.leave l true)∧aH (lA tb ch va vl) w w':=by
 obtain ⟨s,r,d⟩:=h.chan;refine (GQ tb ch cap v l w s r (t.came.map df) f g i h.tc (h.cell 9) d (by rw [List.length_map];exact a)).mono ?_;rintro e w' ⟨rfl,b,c⟩;exact ⟨rfl,h.sent l true b c,b.mono (fun k _ e=> .inr (.inl e))⟩
theorem fQ.after {x:aQ×List UInt8} {d:World} {e:Ending} (c:aH (lA tb ch va vl) w d) (h:fQ tb ch pp pb va vl frm body cap d x e w'):fQ tb ch pp pb va vl frm body cap w x e w':=by
 obtain ⟨f,b,a,g,i,j⟩:=h;exact ⟨f,b,a,g,c.trans i (fun _ _ e=>e),fun k e=>(j k e).imp id (fun e=>Nat.le_trans c.size e)⟩
theorem qN (h:bR w tb ch pp pb va vu vl frm body cap false t) (b c:List UInt8) (q:w.cell? ⟨pp,0,none⟩=some (.string (bs b))) (r:b.length≤1000) (i:t.said=0) (a:Nat):
  Calls Tryz.prog 87 #[.pointer (some ⟨tb,0,none⟩),.int .i64 (a:Int)] w (fQ tb ch pp pb va vl frm body cap w (t.hear b frm c a)):=by
 by_cases g:a=2
 ·have d:t.hear b frm c a=t.say 1 ([69,72,76,79,32]++b):=by unfold aQ.hear;rw [if_pos i,if_pos g]
  rw [d];have p:w.cell? ⟨tb,0,none⟩=some (.pointer (some ⟨pp,0,none⟩)):=h.cell 0;have k:=Lib.hid (nZ h 1 ([69,72,76,79,32]++b) (by rw [List.length_append];simp only [List.length_cons,List.length_nil];omega));have l:Hid ((⟨#[69,72,76,79,32]⟩:ByteArray)++bs b=bs ([69,72,76,79,32]++b)):=Lib.hid (cE [69,72,76,79,32] b);have n:=aG b;subst g;clear h d i;go_enter Tryz.func87,Tryz.ntmps87;go_wp2_with fail
  rw [l.out];refine k.out.mono ?_;rintro e o ⟨rfl,f⟩;have j:=Lib.hid f;clear f;go_wp2_with fail
  go_ret;exact ⟨rfl,j.out⟩
 ·have d:t.hear b frm c a=t.quit:=by unfold aQ.hear;rw [if_pos i,if_neg g]
  rw [d];have m:((a:Int) == 2)=false:=by rw [beq_eq_false_iff_ne];omega
  have k:=Lib.hid (fD h);clear h d i g;go_enter Tryz.func87,Tryz.ntmps87;go_wp2_with fail
  refine k.out.mono ?_;rintro e o ⟨rfl,f⟩;have j:=Lib.hid f;clear f;go_wp2_with fail
  go_ret;exact ⟨rfl,j.out⟩
theorem wH (h:bR w tb ch pp pb va vu vl frm body cap false t) (b c:List UInt8) (q:frm.length≤1000) (i:t.said=1) (a:Nat):
  Calls Tryz.prog 88 #[.pointer (some ⟨tb,0,none⟩),.int .i64 (a:Int)] w (fQ tb ch pp pb va vl frm body cap w (t.hear b frm c a)):=by
 by_cases g:a=2
 ·have d:t.hear b frm c a=t.say 2 ([77,65,73,76,32,70,82,79,77,58,60]++frm++[62]):=by unfold aQ.hear;rw [if_neg (by omega),if_pos i,if_pos g]
  rw [d];have p:w.cell? ⟨tb,3,none⟩=some (.string (bs frm)):=h.cell 3;have k:=Lib.hid (nZ h 2 ([77,65,73,76,32,70,82,79,77,58,60]++frm++[62]) (by simp only [List.length_append,List.length_cons,List.length_nil];omega))
  have l:Hid (((⟨#[77,65,73,76,32,70,82,79,77,58,60]⟩:ByteArray)++bs frm)++(⟨#[62]⟩:ByteArray)=bs ([77,65,73,76,32,70,82,79,77,58,60]++frm++[62])):=Lib.hid (by
   rw [←cE ([77,65,73,76,32,70,82,79,77,58,60]++frm) [62],←cE [77,65,73,76,32,70,82,79,77,58,60] frm]
   rfl)
  have n:=aG frm;subst g;clear h d i;go_enter Tryz.func88,Tryz.ntmps88;go_wp2_with fail
  rw [l.out];refine k.out.mono ?_;rintro e o ⟨rfl,f⟩;have j:=Lib.hid f;clear f;go_wp2_with fail
  go_ret;exact ⟨rfl,j.out⟩
 ·have d:t.hear b frm c a=t.quit:=by unfold aQ.hear;rw [if_neg (by omega),if_pos i,if_neg g]
  rw [d];have m:((a:Int) == 2)=false:=by rw [beq_eq_false_iff_ne];omega
  have k:=Lib.hid (fD h);clear h d i g;go_enter Tryz.func88,Tryz.ntmps88;go_wp2_with fail
  refine k.out.mono ?_;rintro e o ⟨rfl,f⟩;have j:=Lib.hid f;clear f;go_wp2_with fail
  go_ret;exact ⟨rfl,j.out⟩
theorem ui (h:bR w tb ch pp pb va vu vl frm body cap false t) (b c:List UInt8) (o:∀x∈t.una,x.2.length≤1000) (m:t.una.length≤1000) (q:t.wil.length≤1000) (g:t.came.length+t.una.length≤cap) (j:t.said=2) (a:Nat):
  Calls Tryz.prog 89 #[.pointer (some ⟨tb,0,none⟩),.int .i64 (a:Int)] w (fQ tb ch pp pb va vl frm body cap w (t.hear b frm c a)):=by
 by_cases i:a=2
 ·have d:t.hear b frm c a=t.ask:=by unfold aQ.hear;rw [if_neg (by omega),if_neg (by omega),if_pos j,if_pos i]
  rw [d];have l:=Lib.hid (pw h o m q);subst i;clear h d j o;go_enter Tryz.func89,Tryz.ntmps89;go_wp2_with fail
  refine l.out.mono ?_;rintro e y ⟨rfl,f⟩;have k:=Lib.hid f;clear f;go_wp2_with fail
  go_ret;exact ⟨rfl,k.out⟩
 ·have C:((a:Int) == 2)=false:=by rw [beq_eq_false_iff_ne];omega
  by_cases n:a=5
  ·have d:t.hear b frm c a=(t.leave t.una false).quit:=by unfold aQ.hear;rw [if_neg (by omega),if_neg (by omega),if_pos j,if_neg i,if_pos n]
   rw [d];obtain ⟨A,B,p⟩:=aE h.una;have D:w.cell? ⟨tb,7,none⟩=some (.slice A t.una.length B):=by rw [←p];exact h.cell 7
   have r:=Lib.hid (pL h vu t.una h.una (fun e=>(h.at_ ch (h.ua ch e)).2.1 rfl) m g);rw [p] at r;subst n;clear h d j o i p;go_enter Tryz.func89,Tryz.ntmps89;go_wp2_with fail
   refine r.out.mono ?_;rintro e y ⟨rfl,u,s⟩;have l:=Lib.hid (fD u);have z:=Lib.hid s;clear u s;go_wp2_with fail
   refine l.out.mono ?_;intro e E f;have k:=Lib.hid (fQ.after z.out f);obtain ⟨rfl,_⟩:=f;go_wp2_with fail
   go_ret;exact k.out
  ·have d:t.hear b frm c a=t.quit:=by unfold aQ.hear;rw [if_neg (by omega),if_neg (by omega),if_pos j,if_neg i,if_neg n]
   rw [d];have v:((a:Int) == 5)=false:=by rw [beq_eq_false_iff_ne];omega
   have l:=Lib.hid (fD h);clear h d j i n o;go_enter Tryz.func89,Tryz.ntmps89;go_wp2_with fail
   refine l.out.mono ?_;rintro e y ⟨rfl,f⟩;have k:=Lib.hid f;clear f;go_wp2_with fail
   go_ret;exact ⟨rfl,k.out⟩
end
section
variable {w w':World} {tb ch pp pb:Nat} {va vu vl:Value} {frm body:List UInt8} {cap:Nat} {t:aQ}
theorem JB (h:bg w vu t.una.length 2 (aR t.una)) {r:Nat×List UInt8} {u:List (Nat×List UInt8)} (n:t.una=r::u):∃b a e c,vu= .slice (some ⟨b,a,none⟩) (u.length+1) (c+1)∧u.length≤c∧((c=0∧e=a)∨∃l,c=l+1∧e=a+2)∧bg w (.slice (some ⟨b,a,none⟩) 1 (c+1)) 1 2 (aR [r])∧bg w (.slice (some ⟨b,e,none⟩) u.length c) u.length 2 (aR u):=by
 rw [n] at h;obtain ⟨q,⟨o,_⟩ | ⟨b,a,c,f,d,g⟩⟩:=h
 ·simp at o
 ·obtain ⟨c,rfl⟩:∃m,c=m+1:=⟨c - 1,by simp at d;omega⟩
  have d:u.length≤c:=by simpa using d
  have k:bg w (.slice (some ⟨b,a,none⟩) 1 (c+1)) 1 2 (aR [r]):=⟨rfl,.inr ⟨b,a,c+1,rfl,by omega,fun j p=>by
   rw [g j (by simp only [List.length_cons];omega)];obtain rfl | rfl:j=0∨j=1:=by omega
   ·rfl
   ·rfl⟩⟩
  cases c with
  | zero=>
   have i:u=[]:=List.eq_nil_of_length_eq_zero (by omega);exact ⟨b,a,a,0,f,d,.inl ⟨rfl,rfl⟩,k,⟨by rw [kc],.inl ⟨by rw [i];rfl,_,_,by rw [i];rfl⟩⟩⟩
  | succ c=>
   refine ⟨b,a,a+2,c+1,f,d,.inr ⟨c,rfl,rfl⟩,k,⟨by rw [kc],.inr ⟨b,a+2,c+1,rfl,d,fun j p=>?_⟩⟩⟩
   rw [show a+2+j=a+(2+j) by omega,g (2+j) (by simp only [List.length_cons];omega)]
   show ([Value.int .i64 (r.1:Int),.string (bs r.2)]++aR u)[2+j]? =_;rw [List.getElem?_append_right (by simp)];simp
theorem bR.cut (h:bR w tb ch pp pb va vu vl frm body cap false t) {r:Nat×List UInt8} {u:List (Nat×List UInt8)} {b d a c:Nat} (i:t.una=r::u) (j:vu= .slice (some ⟨b,d,none⟩) (u.length+1) (c+1)) (l:bg w (.slice (some ⟨b,a,none⟩) u.length c) u.length 2 (aR u)):
  bR (w.setCell ⟨tb,7,none⟩ (.slice (some ⟨b,a,none⟩) u.length c)) tb ch pp pb va (.slice (some ⟨b,a,none⟩) u.length c) vl frm body cap false {t with una:=t.una.drop 1}∧aH (lA tb ch va vl) w (w.setCell ⟨tb,7,none⟩ (.slice (some ⟨b,a,none⟩) u.length c)):=by
 have f:aL tb w (w.setCell ⟨tb,7,none⟩ (.slice (some ⟨b,a,none⟩) u.length c)):=(aL.refl _ _).setCell _;have g:t.una.drop 1=u:=by rw [i];rfl
 refine ⟨h.put (t':={t with una:=t.una.drop 1}) f (heap_setCell_same w tb 7 _ _ _ h.blk) rfl (by show bg w _ (t.una.drop 1).length 2 (aR (t.una.drop 1));rw [g];exact l) h.wil (fun k e=>h.ua k (by rw [j];exact e)) (fun k e=>⟨h.al k e,(h.lb e).1⟩),(aH.same f).mono (fun k _ e=> .inl e)⟩
theorem bR.more (h:bR w tb ch pp pb va vu vl frm body cap false t) {r:Nat×List UInt8} {b d c:Nat} (I:bg w (.slice (some ⟨b,d,none⟩) 1 c) 1 2 (aR [r])) (W:t.wil.length≤1000):
  ∃g m f,(Builtin.append_ #[102,102] 102 #[vl,.slice (some ⟨b,d,none⟩) 1 c]).run Tryz.prog w= .ok (.slice (some ⟨g,0,none⟩) (t.wil.length+1) m) f∧f.cell? ⟨tb,8,none⟩=some vl∧f.frozen? ⟨tb,8,none⟩=false∧
   bR (f.setCell ⟨tb,8,none⟩ (.slice (some ⟨g,0,none⟩) (t.wil.length+1) m)) tb ch pp pb va vu (.slice (some ⟨g,0,none⟩) (t.wil.length+1) m) frm body cap false {t with wil:=t.wil++[r]}∧aH (lA tb ch va vl) w (f.setCell ⟨tb,8,none⟩ (.slice (some ⟨g,0,none⟩) (t.wil.length+1) m))∧(vl.ownBlock=some g∨w.heap.size≤g):=by
 obtain ⟨i,K,A,B,C⟩:=info_parts lR;obtain ⟨L,⟨U,_⟩ | ⟨S,G,T,a,_,J⟩⟩:=I
 ·omega
 injection a with a _ _;injection a with a;injection a with l e3;subst l e3
 obtain ⟨g,m,f,M,N,F⟩:=gC (P:=Tryz.prog) w 102 102 0 162 i _ 2 24 Tryz.underlying102 K A B C rfl (by decide) vl t.wil.length (aR t.wil) h.wil ⟨b,d,none⟩ 1 c (aR [r]) rfl (fun j x o=>by
  have V:j < 2:=by
   rcases Nat.lt_or_ge j 2 with v | v
   ·exact v
   ·rw [List.getElem?_eq_none (by simpa [aR] using v)] at o;cases o
  have u:(⟨b,d,none⟩:Addr).add j=⟨b,d+j,none⟩:=by unfold Addr.add;split <;> simp_all
  rw [u,J j (by omega),o]) (by intro x o;simp [aR] at o;rcases o with rfl | rfl <;> rfl) (by decide) (by unfold maxLen;omega) (by omega) (Nat.zero_le _)
 have p:aH (fun k=>vl.ownBlock=some k) w f:=by
  rcases F with ⟨a,y⟩ | ⟨_,y⟩
  ·exact (aH.grown y).mono fun k _ e=>a.trans e
  ·exact (aH.grown y).mono fun k _ e=>by cases e
 have D:vl.ownBlock=some g∨w.heap.size≤g:=by
  rcases F with ⟨a,_⟩ | ⟨a,_⟩
  ·exact .inl a
  ·exact .inr (by rw [a];exact Nat.le_refl _)
 have O:¬vl.ownBlock=some tb:=fun e=>(h.lb e).1 rfl;have Q:¬vl.ownBlock=some ch:=fun e=>(h.lb e).2.1 rfl;have n:=p.some_ h.blk O;have q:aL tb f (f.setCell ⟨tb,8,none⟩ (.slice (some ⟨g,0,none⟩) (t.wil.length+1) m)):=(aL.refl _ _).setCell _
 have E:va.ownBlock≠some g∧g≠tb:=by
  rcases D with e | e
  ·exact ⟨h.al g e,(h.lb e).1⟩
  ·exact ⟨fun l=>by have:=(h.at_ g l).2.2;omega,fun l=>by have:=ah h.blk;omega⟩
 have H:aR (t.wil++[r])=aR t.wil++aR [r]:=by unfold aR;rw [List.flatMap_append]
 obtain ⟨s,R,z⟩:=h.chan;refine ⟨g,m,f,M,by rw [Lib.cell_of_heap n];rfl,Lib.frozen_of_heap n 8,⟨heap_setCell_same f tb 8 _ _ _ n,⟨s,R,aP q (p.some_ z Q) (Ne.symm h.tc)⟩,?_,?_,h.ua,fun k e=>?_,fun k e=>⟨(h.at_ k e).1,(h.at_ k e).2.1,Nat.lt_of_lt_of_le (h.at_ k e).2.2 (Nat.le_trans p.size (aH.same q).size)⟩⟩,?_,D⟩
 ·exact (h.una.chg p (fun g e l=>h.al g l (h.ua g e))).chg (aH.same q) (fun g e l=>(h.at_ g (h.ua g e)).1 l)
 ·show World.ownsRow _ 0 162 2 _ (t.wil++[r]).length (aR (t.wil++[r]));rw [H,List.length_append];refine bC N (aH.same q) (fun k e l=>E.2 ?_);have e:g=k:=by simpa [Value.ownBlock] using e
  exact e.trans l
 ·have e:g=k:=by simpa [Value.ownBlock] using e
  rw [←e];exact E.1
 ·exact (p.mono (fun k _ e=> .inr (.inr (.inr e)))).trans (aH.same q) (fun k _ e=> .inl e)
end
section
variable {w w':World} {tb ch pp pb:Nat} {va vu vl:Value} {frm body:List UInt8} {cap:Nat} {t:aQ}
theorem fQ.later {x:aQ×List UInt8} {g:World} {e:Ending} {a:Value} (_:∀k,lA tb ch va vl k→k < w.heap.size) (d:aH (lA tb ch va vl) w g) (f:∀k,a.ownBlock=some k→vl.ownBlock=some k∨w.heap.size≤k) (h:fQ tb ch pp pb va a frm body cap g x e w'):fQ tb ch pp pb va vl frm body cap w x e w':=by
 obtain ⟨i,c,b,j,l,m⟩:=h;refine ⟨i,c,b,j,d.trans l (fun k n e=>?_),fun k e=>(m k e).elim (f k) (fun e=> .inr (Nat.le_trans d.size e))⟩
 rcases e with e | e | e | e
 ·exact .inl e
 ·exact .inr (.inl e)
 ·exact .inr (.inr (.inl e))
 ·exact (f k e).elim (fun e=> .inr (.inr (.inr e))) (fun e=>by omega)
theorem pP (h:bR w tb ch pp pb va vu vl frm body cap false t) (l m:List UInt8) (Y:∀x∈t.una,x.2.length≤1000) (S:t.una.length≤1000) (a2:t.wil.length≤999) (y:t.came.length+t.una.length≤cap) (M:t.said=3) (hu:t.una≠[]) (a:Nat):
  Calls Tryz.prog 90 #[.pointer (some ⟨tb,0,none⟩),.int .i64 (a:Int)] w (fQ tb ch pp pb va vl frm body cap w (t.hear l frm m a)):=by
 obtain ⟨r,u,E⟩:∃r u,t.una=r::u:=by
  cases e:t.una with
  | nil=>exact absurd e hu
  | cons r u=>exact ⟨r,u,rfl⟩
 obtain ⟨b,B,G,c,L,K,J,Z,ru⟩:=JB h.una E;obtain ⟨I,V⟩:=h.cut E L ru;have c7:w.cell? ⟨tb,7,none⟩=some (.slice (some ⟨b,B,none⟩) (u.length+1) (c+1)):=by rw [←L];exact h.cell 7
 have f7:=h.frozen 7;have ul:u.length+1≤1000:=by rw [E] at S;simpa using S
 have R:va.ownBlock=some b:=h.ua b (by rw [L];rfl);have a0:b≠tb:=(h.at_ b R).1;have q:bg (w.setCell ⟨tb,7,none⟩ (.slice (some ⟨b,G,none⟩) u.length c)) (.slice (some ⟨b,B,none⟩) 1 (c+1)) 1 2 (aR [r]):=Z.chg (aH.same ((aL.refl tb w).setCell _)) (fun g e e2=>a0 ((show b=g by simpa [Value.ownBlock] using e).trans e2));have p:∀x∈t.una.drop 1,x.2.length≤1000:=fun x hx=>Y x (List.mem_of_mem_drop hx);have A:(t.una.drop 1).length≤1000:=by rw [List.length_drop];omega
 have O:Hid (∀k,lA tb ch va vl k→k < w.heap.size):=Lib.hid (fun k e=>h.lt e);have j:=Lib.hid V;have i2:(1:Int)≤(u.length:Int)+1:=by omega
 obtain ⟨W1,v⟩:∃W1:World,w.setCell ⟨tb,7,none⟩ (.slice (some ⟨b,G,none⟩) u.length c)=W1:=⟨_,rfl⟩;rw [v] at I q j;have f:=Lib.hid v;have P:t.una.take 1=[r]:=by rw [E];rfl
 obtain ⟨T,H⟩:∃T,u.length=T:=⟨_,rfl⟩;have d8:w.cell? ⟨tb,8,none⟩=some vl:=h.cell 8;obtain ⟨al,cl,el⟩:=aE (aF h.wil)
 by_cases Q:a=2
 ·have D:t.hear l frm m a=({t with una:=t.una.drop 1,wil:=t.wil++[r]}:aQ).ask:=by unfold aQ.hear;rw [if_neg (by omega),if_neg (by omega),if_neg (by omega),if_pos M,if_pos Q,P]
  rw [D];obtain ⟨g,cp,W2,k1,k2,k3,F,C,G2⟩:=I.more q (by show t.wil.length≤1000;omega);have o:=Lib.hid (pw F p A (by show (t.wil++[r]).length≤1000;rw [List.length_append];simp only [List.length_cons,List.length_nil];omega));obtain ⟨X,z⟩:∃X,({t with una:=t.una.drop 1,wil:=t.wil++[r]}:aQ).ask=X:=⟨_,rfl⟩;rw [z] at o ⊢;have HR:=Lib.hid k1;have n:=Lib.hid (j.out.trans C (fun _ _ e=>e))
  have HG:Hid (∀k,(Value.slice (some ⟨g,0,none⟩) (t.wil.length+1) cp).ownBlock=some k→vl.ownBlock=some k∨w.heap.size≤k):=Lib.hid (fun k e=>by
   have e:g=k:=by simpa [Value.ownBlock] using e
   rw [←e]
   exact G2.imp id (fun e=>Nat.le_trans j.out.size e))
  rw [el] at d8 k2 HR;subst Q;clear h I Z q ru D M Y p E P F C k1 G2 V v L z;rw [H] at c7 f i2 K ul
  rcases J with ⟨rfl,rfl⟩ | ⟨c',rfl,rfl⟩
  ·obtain rfl:T=0:=by omega
   have d:=HR.out;rw [←f.out] at d;have d:=Lib.hid d;go_enter Tryz.func90,Tryz.ntmps90
   go_wp2_with (first
    | (at_builtin;refine bB rfl _ _ 102 rfl _ _ (.slice (some ⟨g,0,none⟩) (t.wil.length+1) cp) W2 rfl rfl d.out ?_)
    | fail)
   refine o.out.mono ?_;intro e U i;have s:=Lib.hid (fQ.later O.out n.out HG.out i);obtain ⟨rfl,_⟩:=i;go_wp2_with fail
   go_ret;exact ⟨rfl,s.out.2⟩
  ·have d:=HR.out;rw [←f.out] at d;have d:=Lib.hid d;go_enter Tryz.func90,Tryz.ntmps90
   go_wp2_with (first
    | (at_builtin;refine bB rfl _ _ 102 rfl _ _ (.slice (some ⟨g,0,none⟩) (t.wil.length+1) cp) W2 rfl rfl d.out ?_)
    | fail)
   refine o.out.mono ?_;intro e U i;have s:=Lib.hid (fQ.later O.out n.out HG.out i);obtain ⟨rfl,_⟩:=i;go_wp2_with fail
   go_ret;exact ⟨rfl,s.out.2⟩
 ·have a3:((a:Int) == 2)=false:=by rw [beq_eq_false_iff_ne];omega
  by_cases W:a=5
  ·have D:t.hear l frm m a=(({t with una:=t.una.drop 1}:aQ).leave [r] false).ask:=by unfold aQ.hear;rw [if_neg (by omega),if_neg (by omega),if_neg (by omega),if_pos M,if_neg Q,if_pos W,P]
   rw [D];have hv:(Value.slice (some ⟨b,B,none⟩) 1 (c+1)).ownBlock≠some ch:=fun e=>(h.at_ b R).2.1 (by simpa [Value.ownBlock] using e);have HF:=Lib.hid (pL I (.slice (some ⟨b,B,none⟩) 1 (c+1)) [r] q hv (by simp) (by show t.came.length+1≤cap;rw [E] at y;simp only [List.length_cons] at y;omega));have HZ:=Lib.hid p;obtain ⟨X,z⟩:∃X,(({t with una:=t.una.drop 1}:aQ).leave [r] false).ask=X:=⟨_,rfl⟩;rw [z];have N:=Lib.hid z;subst W;clear h I Z q ru D M Y p E P V v L hv el d8 z;rw [H] at c7 f i2 K ul
   rcases J with ⟨rfl,rfl⟩ | ⟨c',rfl,rfl⟩
   ·obtain rfl:T=0:=by omega
    go_enter Tryz.func90,Tryz.ntmps90;go_wp2_with fail
    rw [f.out];refine HF.out.mono ?_;rintro e w2 ⟨rfl,F,C⟩;have o:=Lib.hid (pw F HZ.out A (by show t.wil.length≤1000;omega));rw [N.out] at o;have n:=Lib.hid (j.out.trans C (fun _ _ e=>e));clear F C;go_wp2_with fail
    refine o.out.mono ?_;intro e U i;have s:=Lib.hid (fQ.after n.out i);obtain ⟨rfl,_⟩:=i;go_wp2_with fail
    go_ret;exact ⟨rfl,s.out.2⟩
   ·go_enter Tryz.func90,Tryz.ntmps90;go_wp2_with fail
    rw [f.out];refine HF.out.mono ?_;rintro e w2 ⟨rfl,F,C⟩;have o:=Lib.hid (pw F HZ.out A (by show t.wil.length≤1000;omega));rw [N.out] at o;have n:=Lib.hid (j.out.trans C (fun _ _ e=>e));clear F C;go_wp2_with fail
    refine o.out.mono ?_;intro e U i;have s:=Lib.hid (fQ.after n.out i);obtain ⟨rfl,_⟩:=i;go_wp2_with fail
    go_ret;exact ⟨rfl,s.out.2⟩
  ·have D:t.hear l frm m a=({t with una:=t.una.drop 1}:aQ).ask:=by unfold aQ.hear;rw [if_neg (by omega),if_neg (by omega),if_neg (by omega),if_pos M,if_neg Q,if_neg W]
   rw [D];have a1:((a:Int) == 5)=false:=by rw [beq_eq_false_iff_ne];omega
   have o:=Lib.hid (pw I p A (by show t.wil.length≤1000;omega));obtain ⟨X,z⟩:∃X,({t with una:=t.una.drop 1}:aQ).ask=X:=⟨_,rfl⟩;rw [z] at o ⊢;clear h I Z q ru D M Y p E P V v L el d8 Q W z;rw [H] at c7 f i2 K ul
   rcases J with ⟨rfl,rfl⟩ | ⟨c',rfl,rfl⟩
   ·obtain rfl:T=0:=by omega
    go_enter Tryz.func90,Tryz.ntmps90;go_wp2_with fail
    rw [f.out];refine o.out.mono ?_;intro e U i;have s:=Lib.hid (fQ.after j.out i);obtain ⟨rfl,_⟩:=i;go_wp2_with fail
    go_ret;exact ⟨rfl,s.out.2⟩
   ·go_enter Tryz.func90,Tryz.ntmps90;go_wp2_with fail
    rw [f.out];refine o.out.mono ?_;intro e U i;have s:=Lib.hid (fQ.after j.out i);obtain ⟨rfl,_⟩:=i;go_wp2_with fail
    go_ret;exact ⟨rfl,s.out.2⟩
theorem y9 (h:bR w tb ch pp pb va vu vl frm body cap false t) (c b:List UInt8) (s:t.wil.length≤1000) (i:t.came.length+t.wil.length≤cap) (k:t.said=4) (H:b.length≤10000000000000) (r:Calls Tryz.prog 130 #[.string (bs body)] w fun e w'=>e= .returned (.string (bs b))∧Below w.heap.size w w') (a:Nat):
  Calls Tryz.prog 91 #[.pointer (some ⟨tb,0,none⟩),.int .i64 (a:Int)] w (fQ tb ch pp pb va vl frm body cap w (t.hear c frm b a)):=by
 by_cases j:a=3
 ·have d:t.hear c frm b a=t.say 5 (b++yQ++[46]):=by unfold aQ.hear;rw [if_neg (by omega),if_neg (by omega),if_neg (by omega),if_neg (by omega),if_pos k,if_pos j]
  rw [d];have K:w.cell? ⟨tb,5,none⟩=some (.string (bs body)):=h.cell 5;have C:=Lib.hid r
  have v:Hid ((bs b++(⟨#[13,10]⟩:ByteArray))++(⟨#[46]⟩:ByteArray)=bs (b++yQ++[46])):=Lib.hid (by
   rw [←cE (b++yQ) [46],←cE b yQ]
   rfl)
  have n:(b++yQ++[46]).length≤100000000000000:=by simp only [yQ,List.length_append,List.length_cons,List.length_nil];omega
  obtain ⟨L,z⟩:∃L,b++yQ++[46]=L:=⟨_,rfl⟩;rw [z] at v n ⊢;have I:=aG b;have D:=Lib.hid h;subst j;clear h d k r z;go_enter Tryz.func91,Tryz.ntmps91;go_wp2_with fail
  refine C.out.mono ?_;rintro e u ⟨rfl,g⟩;have m:=Lib.hid (nZ (D.out.below g) 5 L n);have p:=Lib.hid (aH.below g:aH (lA tb ch va vl) w u);clear g;go_wp2_with fail
  rw [v.out];refine m.out.mono ?_;intro e J f;have l:=Lib.hid (fQ.after p.out f);obtain ⟨rfl,_⟩:=f;go_wp2_with fail
  go_ret;exact ⟨rfl,l.out.2⟩
 ·have G:((a:Int) == 3)=false:=by rw [beq_eq_false_iff_ne];omega
  clear r
  by_cases o:a=5
  ·have d:t.hear c frm b a=(t.leave t.wil false).quit:=by unfold aQ.hear;rw [if_neg (by omega),if_neg (by omega),if_neg (by omega),if_neg (by omega),if_pos k,if_neg j,if_pos o]
   rw [d];obtain ⟨E,F,q⟩:=aE (aF h.wil);have M:w.cell? ⟨tb,8,none⟩=some (.slice E t.wil.length F):=by rw [←q];exact h.cell 8
   have x:=Lib.hid (pL h vl t.wil (aF h.wil) (fun e=>(h.lb e).2.1 rfl) s i);rw [q] at x;subst o;clear h d k j;go_enter Tryz.func91,Tryz.ntmps91;go_wp2_with fail
   refine x.out.mono ?_;rintro e u ⟨rfl,A,y⟩;have m:=Lib.hid (fD A);have p:=Lib.hid y;clear A y;go_wp2_with fail
   refine m.out.mono ?_;intro e J f;have l:=Lib.hid (fQ.after p.out f);obtain ⟨rfl,_⟩:=f;go_wp2_with fail
   go_ret;rw [q];exact ⟨rfl,l.out.2⟩
  ·have d:t.hear c frm b a=t.quit:=by unfold aQ.hear;rw [if_neg (by omega),if_neg (by omega),if_neg (by omega),if_neg (by omega),if_pos k,if_neg j,if_neg o]
   rw [d];have B:((a:Int) == 5)=false:=by rw [beq_eq_false_iff_ne];omega
   have m:=Lib.hid (fD h);clear h d k j o;go_enter Tryz.func91,Tryz.ntmps91;go_wp2_with fail
   refine m.out.mono ?_;rintro e u ⟨rfl,f⟩;have l:=Lib.hid f;clear f;go_wp2_with fail
   go_ret;exact ⟨rfl,l.out⟩
theorem yZ (h:bR w tb ch pp pb va vu vl frm body cap false t) (b c:List UInt8) (p:t.wil.length≤1000) (d:t.came.length+t.wil.length≤cap) (v:t.said=5) (a:Nat):
  Calls Tryz.prog 92 #[.pointer (some ⟨tb,0,none⟩),.int .i64 (a:Int)] w (fQ tb ch pp pb va vl frm body cap w (t.hear b frm c a)):=by
 by_cases j:a=2
 ·have f:t.hear b frm c a=(t.leave t.wil true).quit:=by unfold aQ.hear;rw [if_neg (by omega),if_neg (by omega),if_neg (by omega),if_neg (by omega),if_neg (by omega),if_pos j]
  rw [f];obtain ⟨s,u,i⟩:=aE (aF h.wil);have z:w.cell? ⟨tb,8,none⟩=some (.slice s t.wil.length u):=by rw [←i];exact h.cell 8
  have k:=Lib.hid (JY h vl t.wil (aF h.wil) (fun e=>(h.lb e).2.1 rfl) p d);rw [i] at k;subst j;clear h f v;go_enter Tryz.func92,Tryz.ntmps92;go_wp2_with fail
  refine k.out.mono ?_;rintro e y ⟨rfl,o,n⟩;have m:=Lib.hid (fD o);have r:=Lib.hid n;clear o n;go_wp2_with fail
  refine m.out.mono ?_;intro e B g;have l:=Lib.hid (fQ.after r.out g);obtain ⟨rfl,_⟩:=g;go_wp2_with fail
  go_ret;rw [i];exact ⟨rfl,l.out.2⟩
 ·have A:((a:Int) == 2)=false:=by rw [beq_eq_false_iff_ne];omega
  by_cases q:a=5
  ·have f:t.hear b frm c a=(t.leave t.wil false).quit:=by unfold aQ.hear;rw [if_neg (by omega),if_neg (by omega),if_neg (by omega),if_neg (by omega),if_neg (by omega),if_neg j,if_pos q]
   rw [f];obtain ⟨s,u,i⟩:=aE (aF h.wil);have z:w.cell? ⟨tb,8,none⟩=some (.slice s t.wil.length u):=by rw [←i];exact h.cell 8
   have k:=Lib.hid (pL h vl t.wil (aF h.wil) (fun e=>(h.lb e).2.1 rfl) p d);rw [i] at k;subst q;clear h f v j;go_enter Tryz.func92,Tryz.ntmps92;go_wp2_with fail
   refine k.out.mono ?_;rintro e y ⟨rfl,o,n⟩;have m:=Lib.hid (fD o);have r:=Lib.hid n;clear o n;go_wp2_with fail
   refine m.out.mono ?_;intro e B g;have l:=Lib.hid (fQ.after r.out g);obtain ⟨rfl,_⟩:=g;go_wp2_with fail
   go_ret;rw [i];exact ⟨rfl,l.out.2⟩
  ·have f:t.hear b frm c a=t.quit:=by unfold aQ.hear;rw [if_neg (by omega),if_neg (by omega),if_neg (by omega),if_neg (by omega),if_neg (by omega),if_neg j,if_neg q]
   rw [f];have x:((a:Int) == 5)=false:=by rw [beq_eq_false_iff_ne];omega
   have m:=Lib.hid (fD h);clear h f v j q;go_enter Tryz.func92,Tryz.ntmps92;go_wp2_with fail
   refine m.out.mono ?_;rintro e y ⟨rfl,g⟩;have l:=Lib.hid g;clear g;go_wp2_with fail
   go_ret;exact ⟨rfl,l.out⟩
end
theorem rE {P:Program} {a:Act} {o:Oper} {w:World} (s x:Operand) (t:TypeId) (b:o.op= .call {callee:= .builtin .append,args:=#[s,x],argTypes:=#[t,t]}) (v y r:Value) (w':World) (d:a.eval s=v) (e:a.eval x=y) (c:(Builtin.append_ #[t,t] o.type #[v,y]).run P w= .ok r w'):(execOp a.eval o).run P w= .ok (.value r) w':=by
 unfold execOp;simp only [b,resolve,invoke,builtin,Sem.run_bind,Sem.run_pure,Result.andThen_ok,List.map_toArray,List.map_cons,List.map_nil,d,e,c]
structure kK (w0 w:World) (ch:Nat) (vg vf:Value) (gs fs:List Nat):Prop where
 chg:aH (fun j=>j=ch) w0 w
 rg:w.ownsRow w0.heap.size 3 1 vg gs.length (aZ gs)
 rf:w.ownsRow w0.heap.size 3 1 vf fs.length (aZ fs)
 ap:∀k,vg.ownBlock=some k→vf.ownBlock≠some k
section
variable {w0 w w':World} {ch:Nat} {vg vf:Value} {gs fs:List Nat}
theorem kK.swap (h:kK w0 w ch vg vf gs fs):kK w0 w ch vf vg fs gs:=⟨h.chg,h.rf,h.rg,fun k e a=>h.ap k a e⟩
theorem kK.keep (h:kK w0 w ch vg vf gs fs) (a:aH (fun j=>j=ch) w w') (c:ch < w0.heap.size):kK w0 w' ch vg vf gs fs:=
 ⟨h.chg.trans a (fun _ _ e=>e),bC h.rg a (fun g e b=>by have:=(h.rg.lt g e).1;omega),bC h.rf a (fun g e b=>by have:=(h.rf.lt g e).1;omega),h.ap⟩
theorem kK.plus (h:kK w0 w ch vg vf gs fs) (y:ch < w0.heap.size) (x B:Nat) (v:w.heap[B]? =some (.cells #[.int .i64 (x:Int)] 3 (0,0))) (E:gs.length≤1000):
  ∃g d w',(Builtin.append_ #[28,28] 28 #[vg,.slice (some ⟨B,0,none⟩) 1 1]).run Tryz.prog w= .ok (.slice (some ⟨g,0,none⟩) (gs.length+1) d) w'∧kK w0 w' ch (.slice (some ⟨g,0,none⟩) (gs.length+1) d) vf (gs++[x]) fs∧w'.heap[ch]? =w.heap[ch]? :=by
 obtain ⟨i,z,l,m,n⟩:=info_parts qP;have c:=h.chg.size;obtain ⟨g,d,w',D,q,r⟩:=gC (P:=Tryz.prog) w 28 28 w0.heap.size 3 i _ 1 8 Tryz.underlying28 z l m n rfl (by decide) vg gs.length (aZ gs) h.rg ⟨B,0,none⟩ 1 1 [.int .i64 (x:Int)] rfl (World.news_of_block (cs:=#[.int .i64 (x:Int)]) (t:=3) (fr:=(0,0)) v) (by intro u p;simp at p;rw [p];rfl) (by decide) (by unfold maxLen;omega) (by omega) c
 have a:aH (fun k=>vg.ownBlock=some k) w w':=by
  rcases r with ⟨b,j⟩ | ⟨_,j⟩
  ·exact (aH.grown j).mono fun k _ e=>b.trans e
  ·exact (aH.grown j).mono fun k _ e=>by cases e
 have s:vg.ownBlock=some g∨w.heap.size≤g:=by
  rcases r with ⟨b,_⟩ | ⟨b,_⟩
  ·exact .inl b
  ·exact .inr (by rw [b];exact Nat.le_refl _)
 refine ⟨g,d,w',D,⟨⟨Nat.le_trans c a.size,fun k A C=>(a.block k (by omega) (fun e=>by have:=(h.rg.lt k e).1;omega)).trans (h.chg.block k A C),h.chg.still.trans a.still⟩,?_,bC h.rf a (fun k e f=>h.ap k f e),fun k e f=>?_⟩,a.block ch (by omega) (fun e=>by have:=(h.rg.lt ch e).1;omega)⟩
 ·rw [List.length_append];unfold aZ at q ⊢;rw [List.map_append];exact q
 ·have e:g=k:=by simpa [Value.ownBlock] using e
  subst e
  rcases s with o | o
  ·exact h.ap g o f
  ·have:=(h.rf.lt g f).2;omega
end
theorem EF (O ch C:Nat) (w0:World) (cs:List Frame) (R:Value→Value→World→Prop) (a:ch < w0.heap.size) (a2:O≠ch) (i:w0.cell? ⟨O,9,none⟩=some (.chan (some ch))):
  ∀(u:List (Nat×Bool)) (gs fs:List Nat) (w:World) (s r:Nat) (vg vf u1 u4 u5 u6 u7 u8 u9 u10 u11 u12 u13 u14 u15 u16 u17 u18 u19 u20 u21 u22 u23 u24 u25 u26 u27 u28 u29 u30:Value),kK w0 w ch vg vf gs fs→w.heap[ch]? =some (.chan C (u.map df).toArray false s r false)→gs.length+fs.length+u.length≤1000→
   (∀w' m l B A,kK w0 w' ch m l B A→B=mE (gs++(u.filter fun x=>x.2 == true).map (·.1))→A=mE (fs++(u.filter fun x=>x.2 == false).map (·.1))→(∃s' r',w'.heap[ch]? =some (.chan C #[] false s' r' false))→R m l w')→
   LoneTo Tryz.prog (fun g' w'=>∃e fr,g'=G fr cs∧(∃m l,e= .returned (.tuple #[m,l])∧R m l w')∧fr.fn=78∧fr.leaving Tryz.prog w' e)
    (G ((base 78).at ⟨#[.pointer (some ⟨O,0,none⟩),u1,vg,vf,u4,u5,u6,u7,u8,u9,u10,u11,u12,u13,u14,u15,u16,u17,u18,u19,u20,u21,u22,u23,u24,u25,u26,u27,u28,u29,u30],[]⟩ [.code (aV Tryz.f78.body),.inLoop (aV Tryz.f78.body),.inBlock 0]) cs) w:=by
 intro u
 induction u with
 | nil=>
  intro gs fs w s r vg vf u1 u4 u5 u6 u7 u8 u9 u10 u11 u12 u13 u14 u15 u16 u17 u18 u19 u20 u21 u22 u23 u24 u25 u26 u27 u28 u29 u30 o q hz X;have hc:w.cell? ⟨O,9,none⟩=some (.chan (some ch)):=(World.cell?_of_block (o.chg.block O (aC i) a2)).trans i;simp only [List.map_nil] at q;refine LoneTo.goes (n:=30) ?_;simp only [aV,Tryz.f78]
  s_c stepG_block
  s_c stepG_seq
  s_reg
  s_op
  s_op
  s_op
  s_op
  s_c stepG_region_end
  s_c stepG_seq
  s_reg
  s_stop
  refine LoneTo.step (step_lone_select_default (c:=ch) (z:= .agg #[.int .i64 0,.bool false]) (stepG_comm (cases:=#[rcase ch (.agg #[.int .i64 0,.bool false])]) (blocking:=false) (shape:= .select) (w':=w) rfl rfl (by decide) (by simp [go_sem,rcase,Act.eval,execOp])) q) ?_;rw [Frame.finish_at]
  walk_nrm
  refine LoneTo.goes (n:=20) ?_
  s_op
  s_op
  s_c stepG_region_end
  s_c stepG_block
  s_cond false
  s_c stepG_seq
  s_reg
  s_op
  s_stop
  refine LoneTo.step (step_solo_go rfl (stepG_enter (f:=94) (args:=#[vg]) (w':=w) rfl rfl (by decide) (by simp [go_sem,Act.eval,execOp]))) ?_;refine yJ (yg _ vg gs w o.rg (by omega)) (fun _ _ h=>by cases h.1) (fun _ h=>by cases h.1) fun v I V=>?_;obtain ⟨_,r1,J⟩:=V;rw [Frame.finish_at]
  walk_nrm
  refine LoneTo.goes (n:=20) ?_
  s_c stepG_region_end
  s_c stepG_seq
  s_reg
  s_op
  s_stop
  refine LoneTo.step (step_solo_go rfl (stepG_enter (f:=94) (args:=#[vf]) (w':=I) rfl rfl (by decide) (by simp [go_sem,Act.eval,execOp]))) ?_;refine yJ (yg _ vf fs I (bC o.rf J (fun k e e2=>o.ap k e2 e)) (by omega)) (fun _ _ h=>by cases h.1) (fun _ h=>by cases h.1) fun v2 d W=>?_;obtain ⟨_,r2,T⟩:=W;have a1:=o.chg.size;have ng:∀k,k < w0.heap.size→¬vg.ownBlock=some k:=fun k hk e=>by have:=(o.rg.lt k e).1;omega
  have nf:∀k,k < w0.heap.size→¬vf.ownBlock=some k:=fun k hk e=>by have:=(o.rf.lt k e).1;omega
  have a4:=J.size
  have Y:R vg vf d:=by
   refine X d vg vf (mE gs) (mE fs) ⟨⟨Nat.le_trans a1 (Nat.le_trans a4 T.size),fun k hk hn=>(T.block k (by omega) (nf k hk)).trans ((J.block k (by omega) (ng k hk)).trans (o.chg.block k hk hn)),(o.chg.still.trans J.still).trans T.still⟩,?_,?_,o.ap⟩ (by simp) (by simp) ⟨s,r,?_⟩
   ·rw [show (mE gs).length=gs.length from List.length_mergeSort _];exact bC r1 T (fun k e e2=>o.ap k e e2)
   ·rw [show (mE fs).length=fs.length from List.length_mergeSort _];exact r2
   ·rw [T.block ch (by omega) (nf ch a),J.block ch (by omega) (ng ch a)];simpa using q
  clear X o q hc J T r1 r2;rw [Frame.finish_at]
  walk_nrm
  refine LoneTo.goes (n:=20) ?_
  s_c stepG_region_end
  s_c stepG_seq
  s_reg
  s_op
  s_op
  s_op
  s_op
  s_c stepG_region_end
  s_c stepG_ret'
  s_stop
  exact LoneTo.done ⟨.returned (.tuple #[vg,vf]),_,rfl,⟨vg,vf,rfl,Y⟩,rfl,rfl,rfl,rfl,_,Tryz.func78,by simp [results,Tryz.f78,Frame.at]⟩
 | cons x u ih=>
  intro gs fs w s r vg vf u1 u4 u5 u6 u7 u8 u9 u10 u11 u12 u13 u14 u15 u16 u17 u18 u19 u20 u21 u22 u23 u24 u25 u26 u27 u28 u29 u30 o q hz X;have hc:w.cell? ⟨O,9,none⟩=some (.chan (some ch)):=(World.cell?_of_block (o.chg.block O (aC i) a2)).trans i;obtain ⟨P,b⟩:=x;have Z:((((P,b)::u).map df).toArray).extract 1 ((((P,b)::u).map df).toArray).size=(u.map df).toArray:=by simp [List.take_of_length_le]
  have a0:((((P,b)::u).map df).toArray).getD 0 undef= .agg #[.int .i64 (P:Int),.bool b]:=by simp [df]
  have a1:=o.chg.size;have K:ch < w.heap.size:=by omega
  simp only [List.length_cons] at hz;refine LoneTo.goes (n:=30) ?_;simp only [aV,Tryz.f78]
  s_c stepG_block
  s_c stepG_seq
  s_reg
  s_op
  s_op
  s_op
  s_op
  s_c stepG_region_end
  s_c stepG_seq
  s_reg
  s_stop
  refine LoneTo.step (step_lone_select_recv_buf (c:=ch) (z:= .agg #[.int .i64 0,.bool false]) (stepG_comm (cases:=#[rcase ch (.agg #[.int .i64 0,.bool false])]) (blocking:=false) (shape:= .select) (w':=w) rfl rfl (by decide) (by simp [go_sem,rcase,Act.eval,execOp])) q (by simp)) ?_;rw [Z,a0];rw [Frame.finish_at]
  walk_nrm
  have E:=heap_setChan w ch C (u.map df).toArray false s (r+1) false K;have J:aH (fun j=>j=ch) w (w.setChan ch C (u.map df).toArray false s (r+1) false):=⟨by simp [World.setChan],fun j hj hn=>by simp [World.setChan,Array.getElem?_setIfInBounds_ne (Ne.symm hn)],⟨rfl,rfl,rfl⟩⟩
  obtain ⟨I,a3⟩:∃I,w.setChan ch C (u.map df).toArray false s (r+1) false=I:=⟨_,rfl⟩;rw [a3] at E J ⊢;have S1:=o.keep J a;clear a3 hc q Z a0 K o J;refine LoneTo.goes (n:=40) ?_
  s_op
  s_op
  s_c stepG_region_end
  s_c stepG_block
  s_cond true
  s_c stepG_seq
  s_reg
  s_op
  s_op
  s_op
  s_c stepG_region_end
  s_c stepG_seq
  have X2:=heap_alloc_new I (.cells #[.int .i64 (P:Int),.bool b] 201);obtain ⟨d,N⟩:∃d:World,I.alloc (.cells #[.int .i64 (P:Int),.bool b] 201)=d:=⟨_,rfl⟩;have B2:Below I.heap.size I d:=by rw [←N];exact (Below.refl _ _).alloc (Nat.le_refl _) _
  rw [N] at X2 ⊢;have S2:=S1.keep (aH.below B2) a;have y:=ae B2 E;have p0:d.cell? ⟨I.heap.size,0,none⟩=some (.int .i64 (P:Int)):=by rw [Lib.cell_of_heap X2];rfl
  have p1:d.cell? ⟨I.heap.size,1,none⟩=some (.bool b):=by rw [Lib.cell_of_heap X2];rfl
  clear S1 X2 N E
  s_reg
  s_op
  s_op
  s_c stepG_region_end
  cases b with
  | true=>
   s_cond true
   s_reg
   s_op
   s_op
   s_op
   s_op
   s_stop
   have M:=heap_alloc_new d (.cells #[.int .i64 (P:Int)] 3);obtain ⟨Q,t⟩:∃Q:World,d.alloc (.cells #[.int .i64 (P:Int)] 3)=Q:=⟨_,rfl⟩;have L:Below d.heap.size d Q:=by rw [←t];exact (Below.refl _ _).alloc (Nat.le_refl _) _
   rw [t] at M ⊢;obtain ⟨g,U,S,H,S4,D⟩:=(S2.keep (aH.below L) a).plus a P d.heap.size M (by omega);have F:=D.trans (ae L y);refine LoneTo.step (step_solo_go rfl (stepG_value (v:= .slice (some ⟨g,0,none⟩) (gs.length+1) U) (w':=S) rfl rfl (by decide) (rE (.tmp 21) (.tmp 24) 28 rfl vg (.slice (some ⟨d.heap.size,0,none⟩) 1 1) _ S rfl rfl H))) ?_
   walk_nrm
   have p:=ih (gs++[P]) fs S s (r+1) (.slice (some ⟨g,0,none⟩) (gs.length+1) U) vf;simp only [aV,Tryz.f78] at p;clear ih H M t L S2 y p0 p1 D B2;refine LoneTo.goes (n:=20) ?_
   s_op
   s_c stepG_region_end
   s_c stepG_inBlock
   s_c stepG_inBlock
   s_c stepG_inLoop
   s_stop
   exact p _ _ _ _ _ _ _ _ _ _ _ _ _ _ _ _ _ _ _ _ _ _ _ _ _ _ _ _ S4 F (by rw [List.length_append];simp only [List.length_cons,List.length_nil];omega) (fun w' m l B A V W h3 h4=>X w' m l B A V (by rw [W];simp) (by rw [h3];simp) h4)
  | false=>
   s_cond false
   s_reg
   s_op
   s_op
   s_op
   s_op
   s_stop
   have M:=heap_alloc_new d (.cells #[.int .i64 (P:Int)] 3);obtain ⟨Q,t⟩:∃Q:World,d.alloc (.cells #[.int .i64 (P:Int)] 3)=Q:=⟨_,rfl⟩;have L:Below d.heap.size d Q:=by rw [←t];exact (Below.refl _ _).alloc (Nat.le_refl _) _
   rw [t] at M ⊢;obtain ⟨g,U,S,H,S4,D⟩:=(S2.keep (aH.below L) a).swap.plus a P d.heap.size M (by omega);have F:=D.trans (ae L y);refine LoneTo.step (step_solo_go rfl (stepG_value (v:= .slice (some ⟨g,0,none⟩) (fs.length+1) U) (w':=S) rfl rfl (by decide) (rE (.tmp 26) (.tmp 29) 28 rfl vf (.slice (some ⟨d.heap.size,0,none⟩) 1 1) _ S rfl rfl H))) ?_
   walk_nrm
   have p:=ih gs (fs++[P]) S s (r+1) vg (.slice (some ⟨g,0,none⟩) (fs.length+1) U);simp only [aV,Tryz.f78] at p;clear ih H M t L S2 y p0 p1 D B2;refine LoneTo.goes (n:=20) ?_
   s_op
   s_c stepG_region_end
   s_c stepG_inBlock
   s_c stepG_inBlock
   s_c stepG_inLoop
   s_stop
   exact p _ _ _ _ _ _ _ _ _ _ _ _ _ _ _ _ _ _ _ _ _ _ _ _ _ _ _ _ S4.swap F (by rw [List.length_append];simp only [List.length_cons,List.length_nil];omega) (fun w' m l B A V W h3 h4=>X w' m l B A V (by rw [W];simp) (by rw [h3];simp) h4)
def Gd (_tb ch cap:Nat) (t:aQ) (w:World) (e:Ending) (w':World):Prop:=
 ∃vg vf,e= .returned (.tuple #[vg,vf])∧kK w w' ch vg vf (t.took true) (t.took false)∧∃s' r',w'.heap[ch]? =some (.chan cap #[] false s' r' false)
theorem qz (c ch a s r:Nat) (t:aQ) (w:World) (j:c≠ch) (b:w.cell? ⟨c,9,none⟩=some (.chan (some ch))) (d:w.heap[ch]? =some (.chan a (t.came.map df).toArray false s r false)) (E:t.came.length≤1000):
  Calls Tryz.prog 78 #[.pointer (some ⟨c,0,none⟩)] w (Gd c ch a t w):=by
 refine calls_of_loneTo (fun q=>?_) (fun w' h=>by obtain ⟨_,_,h,_⟩:=h;cases h)
 have e:Frame.enter Tryz.prog 78 #[.pointer (some ⟨c,0,none⟩)] .normal=(base 78).at ⟨#[.pointer (some ⟨c,0,none⟩),undef,undef,undef,undef,undef,undef,undef,undef,undef,undef,undef,undef,undef,undef,undef,undef,undef,undef,undef,undef,undef,undef,undef,undef,undef,undef,undef,undef,undef,undef],[]⟩ [.code (Tryz.f78.body.getD .skip)]:=by
  simp [Frame.enter,Frame.at,Tryz.func78,base,Tryz.f78]
 rw [e];have f:=EF c ch a w q (fun vg vf w'=>kK w w' ch vg vf (t.took true) (t.took false)∧∃G F,w'.heap[ch]? =some (.chan a #[] false G F false)) (ah d) j b t.came [] [] w s r (.slice none 0 0) (.slice none 0 0);simp only [aV,Tryz.f78] at f;clear e;refine LoneTo.goes (n:=20) ?_;simp only [Tryz.f78,Option.getD_some]
 s_c stepG_seq
 s_reg
 s_op
 s_op
 s_c stepG_region_end
 s_c stepG_block
 s_c stepG_loop
 s_stop
 obtain ⟨y,w',z,e,x,A,⟨vg,vf,B,C⟩,D⟩:=f _ _ _ _ _ _ _ _ _ _ _ _ _ _ _ _ _ _ _ _ _ _ _ _ _ _ _ _ ⟨aH.refl _ _,World.ownsRow_nil _ _ _ _,World.ownsRow_nil _ _ _ _,fun k e=>by cases e⟩ d (by simpa using E) (fun w' I H i g l m o p=>⟨by
  have u:i=t.took true:=m;have v:g=t.took false:=o;rw [←u,←v]
  exact l,p⟩)
 exact ⟨y,w',z,e,x,A,⟨vg,vf,B,C⟩,D⟩
theorem wK:(Tryz.prog.info? 201).map (fun i=>(i.zero,i.size,i.bytes))=some (some (.agg #[.int .i64 0,.bool false]),2,16):=by kernel_rfl
theorem xk (l j i B:Nat) (b a:List UInt8) (q:Value) (L:List (Nat×List UInt8)) (w:World) (v:w.ownsRow B 162 2 q L.length (aR L)) (V:L.length≤1000):
  Calls Tryz.prog 48 #[.pointer (some ⟨l,0,none⟩),.pointer (some ⟨j,0,none⟩),.agg #[.int .i64 ((i:Int)+1),.string (bs b),q,.string (bs a)]] w fun e G=>∃x D,e= .returned (.pointer (some ⟨x,0,none⟩))∧bR G x D l j q q (.slice none 0 0) b a L.length false ⟨i,0,L,[],[]⟩∧w.heap.size≤x∧w.heap.size≤D∧Below w.heap.size w G:=by
 obtain ⟨d,f,M⟩:=aE (aF v);have A:=Lib.hid v;subst M;obtain ⟨c,g⟩:∃c:World,w.alloc (.cells #[.int .i64 ((i:Int)+1),.string (bs b),.slice d L.length f,.string (bs a)] 104)=c:=⟨_,rfl⟩;have r:Below w.heap.size w c:=by rw [←g];exact (Below.refl _ _).alloc (Nat.le_refl _) _
 have o:c.drew.heap[w.heap.size]? =some (.cells #[.int .i64 ((i:Int)+1),.string (bs b),.slice d L.length f,.string (bs a)] 104 (0,0)):=by rw [←g];exact heap_alloc_new w _
 have S:c.heap.size=w.heap.size+1:=by rw [←g];simp
 have O:c.drew.cell? ⟨w.heap.size,0,none⟩=some (.int .i64 ((i:Int)+1)):=by rw [Lib.cell_of_heap o];rfl
 have P:c.drew.cell? ⟨w.heap.size,1,none⟩=some (.string (bs b)):=by rw [Lib.cell_of_heap o];rfl
 have Q:c.drew.cell? ⟨w.heap.size,2,none⟩=some (.slice d L.length f):=by rw [Lib.cell_of_heap o];rfl
 have R:c.drew.cell? ⟨w.heap.size,3,none⟩=some (.string (bs a)):=by rw [Lib.cell_of_heap o];rfl
 have Y:c.cell? ⟨w.heap.size,0,none⟩=some (.int .i64 ((i:Int)+1)):=O;have Z:c.cell? ⟨w.heap.size,1,none⟩=some (.string (bs b)):=P;have n2:c.cell? ⟨w.heap.size,2,none⟩=some (.slice d L.length f):=Q;have n3:c.cell? ⟨w.heap.size,3,none⟩=some (.string (bs a)):=R;obtain ⟨X,u,E,F,p⟩:=info_parts wK;have N:∀W:World,(Instr.makeChan 151 (.int .i64 (L.length:Int))).run Tryz.prog W= .ok (.chan (some W.heap.size)) (W.alloc (.chan L.length #[] false 0 0 false)):=fun W=>Conc.run_makeChan (n:=L.length) Tryz.underlying151 u .i64 (by omega) (by rw [p];omega);have t:=Lib.hid g;have J:=Lib.hid r
 have z:Hid (bR ((c.alloc (.chan L.length #[] false 0 0 false)).alloc (.cells (fo l j (w.heap.size+1) (.slice d L.length f) (.slice d L.length f) (.slice none 0 0) b a false ⟨i,0,L,[],[]⟩) 153)).drew (w.heap.size+1+1) (w.heap.size+1) l j (.slice d L.length f) (.slice d L.length f) (.slice none 0 0) b a L.length false ⟨i,0,L,[],[]⟩∧Below w.heap.size w ((c.alloc (.chan L.length #[] false 0 0 false)).alloc (.cells (fo l j (w.heap.size+1) (.slice d L.length f) (.slice d L.length f) (.slice none 0 0) b a false ⟨i,0,L,[],[]⟩) 153)).drew):=Lib.hid (by
  have H:(c.alloc (.chan L.length #[] false 0 0 false)).heap.size=w.heap.size+1+1:=by simp;omega
  obtain ⟨h,m⟩:∃h:World,c.alloc (.chan L.length #[] false 0 0 false)=h:=⟨_,rfl⟩;have I:Below c.heap.size c h:=by rw [←m];exact (Below.refl _ _).alloc (Nat.le_refl _) _
  have K:h.heap[w.heap.size+1]? =some (.chan L.length #[] false 0 0 false):=by rw [←m,←S];exact heap_alloc_new c _
  rw [m] at H ⊢;have y:=(Below.refl h.heap.size h).alloc (Nat.le_refl _) (.cells (fo l j (w.heap.size+1) (.slice d L.length f) (.slice d L.length f) (.slice none 0 0) b a false ⟨i,0,L,[],[]⟩) 153);have s:Below w.heap.size w (h.alloc (.cells (fo l j (w.heap.size+1) (.slice d L.length f) (.slice d L.length f) (.slice none 0 0) b a false ⟨i,0,L,[],[]⟩) 153)).drew:=((r.trans (I.mono (by omega))).trans (y.mono (by omega))).drew;have C:=heap_alloc_new h (.cells (fo l j (w.heap.size+1) (.slice d L.length f) (.slice d L.length f) (.slice none 0 0) b a false ⟨i,0,L,[],[]⟩) 153);rw [H] at C;refine ⟨⟨C,⟨0,0,ae y K⟩,(aF A.out).below s,World.ownsRow_nil _ _ _ _,fun k e=>e,(fun k e=>by cases e),fun k e=>?_⟩,s⟩;have T:=(A.out.lt k e).2;have U:=s.size
  exact ⟨by omega,by omega,by omega⟩)
 clear o r g v;go_enter Tryz.func48,Tryz.ntmps48;go_wp2_with fail
 rw [t.out];go_region_law (fail)
 all_goals
  go_wp2_with fail
  go_ret;exact ⟨w.heap.size+1+1,w.heap.size+1,rfl,z.out.1,by omega,by omega,z.out.2⟩
theorem lU (l:List (aX×Value)) (k i:Nat) (h:k < l.length) (b:i < 5):(fJ l)[k * 5+i]? =(aY l[k].1 l[k].2)[i]? :=by
 induction l generalizing k with
 | nil=>simp at h
 | cons x l ih=>
  show ((aY x.1 x.2).toList++fJ l)[k * 5+i]? =_;have a:(aY x.1 x.2).toList.length=5:=rfl
  cases k with
  | zero=>
   rw [List.getElem?_append_left (by rw [a];omega),Array.getElem?_toList];simp
  | succ k=>
   rw [List.getElem?_append_right (by rw [a];omega),a,show (k+1) * 5+i - 5=k * 5+i by omega]
   exact ih k (by simpa using h)
theorem nL.cells {w:World} {a:Option Addr} {n u:Nat} {f:List aX} (h:nL w (.slice a n u) f):n=f.length∧∀k (C:k < f.length),∃b d p v,a=some ⟨b,d,none⟩∧b < w.heap.size∧
  w.cell? ⟨b,d+k * 5,none⟩=some (.int .i64 f[k].id)∧w.cell? ⟨b,d+k * 5+1,none⟩=some (.int .i64 f[k].time)∧w.cell? ⟨b,d+k * 5+2,none⟩=some (.string (bs f[k].frm))∧
  w.cell? ⟨b,d+k * 5+3,none⟩=some (.slice p f[k].tos.length v)∧w.cell? ⟨b,d+k * 5+4,none⟩=some (.string (bs f[k].body))∧
  ∀j (y:j < f[k].tos.length),∃c o,p=some ⟨c,o,none⟩∧c < w.heap.size∧w.cell? ⟨c,o+j,none⟩=some (.string (bs f[k].tos[j])):=by
 obtain ⟨l,F,J,K⟩:=h;subst F;obtain ⟨L,A,e,H⟩:=J.shape;injection e with e1 e2 e3;subst e1 e3;refine ⟨by rw [e2,List.length_map],fun k C=>?_⟩
 have m:k < l.length:=by simpa using C
 have E:(l.map (·.1))[k]=l[k].1:=by simp
 rw [E];obtain ⟨t,v,G,z⟩:=(K l[k] (List.getElem_mem m)).one
 have g:∀i,i < 5→∃b d,a=some ⟨b,d,none⟩∧b < w.heap.size∧w.cell? ⟨b,d+k * 5+i,none⟩=(aY l[k].1 l[k].2)[i]? :=fun i s=>by
  obtain ⟨b,d,e,x,h⟩:=H k i m s;exact ⟨b,d,e,x,by rw [Nat.add_assoc,h,lU l k i m s]⟩
 obtain ⟨b,d,B,x,N⟩:=g 0 (by omega)
 have q:∀i,i < 5→w.cell? ⟨b,d+k * 5+i,none⟩=(aY l[k].1 l[k].2)[i]? :=fun i s=>by
  obtain ⟨M,D,r,_,h⟩:=g i s;rw [B] at r;injection r with e;injection e with e1 e2;subst e1 e2;exact h
 refine ⟨b,d,t,v,B,x,q 0 (by omega),q 1 (by omega),q 2 (by omega),?_,q 4 (by omega),fun j y=>?_⟩
 ·rw [q 3 (by omega),←G];rfl
 ·obtain ⟨c,o,e,I,h⟩:=z j y;exact ⟨c,o,e,I,by rw [h,eh _ _ y]⟩
end Go.Proofs.YtofpegbpgkkgkaaGreatDoor
