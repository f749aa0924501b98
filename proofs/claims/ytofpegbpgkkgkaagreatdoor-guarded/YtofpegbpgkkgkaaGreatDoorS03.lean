import Derived.Test.YtofpegbpgkkgkaaGreatDoorS02
import Derived.Defers
import Derived.Deep.RegionHeld3
import Derived.Maps.AppendAt
import Derived.OwnWalk
import Derived.Deep.RegionLaw
import Derived.BigRegion
import Derived.Deep.Onto
import Derived.Test.YtofpegbpgkkgkaaGreatDoorS01
import Derived.Laws.CopyRow
import Derived.Lib.SliceRun
import Derived.Maps.OwnSet
import Derived.WalkArith
import Derived.Lib.LaidTab
import Derived.WalkSmall
import Derived.Lib.SlBytesConst
import Derived.Sort.OwnSortedInts
namespace Go.Proofs.YtofpegbpgkkgkaaGreatDoor
set_option maxHeartbeats 8000000
set_option maxRecDepth 1000000
def Gd:Nat:=3988292384
def lY (c:Nat):Nat:=(c / 2) ^^^ (if c % 2=1 then Gd else 0)
def Cb (c b:Nat):Nat:=if b % 2=c % 2 then c / 2 else (c / 2) ^^^ Gd
theorem GG (a b:Nat):(a ^^^ b) / 2=a / 2 ^^^ b / 2:=by
 have:=Nat.shiftRight_xor_distrib (a:=a) (b:=b) (i:=1);simpa [Nat.shiftRight_eq_div_pow] using this
theorem GU (c b:Nat):lY (c ^^^ b)=Cb c b ^^^ (b / 2):=by
 unfold lY Cb;rw [GG]
 have h:(c ^^^ b) % 2=1 ↔ ¬b % 2=c % 2:=by
  rw [Nat.xor_mod_two_eq_one];omega
 by_cases e:b % 2=c % 2
 ·rw [if_neg (by rw [h];exact fun k=>k e),if_pos e,Nat.xor_zero]
 ·rw [if_pos (h.2 e),if_neg e];rw [Nat.xor_assoc,Nat.xor_assoc,Nat.xor_comm Gd]
def iU:Nat→Nat→Nat
 | 0,c=>c
 | n+1,c=>iU n (lY c)
def pw:Nat→Nat→Nat→Nat
 | 0,c,_=>c
 | n+1,c,b=>pw n (Cb c b) (b / 2)
theorem yR:∀(n c b:Nat),iU n (c ^^^ b)=pw n c b ^^^ (b / 2 ^ n)
 | 0,c,b=>by simp [iU,pw]
 | n+1,c,b=>by
  rw [iU,pw,GU,yR n,Nat.div_div_eq_div_mul,←Nat.pow_succ']
theorem oM:∀(n c:Nat),iU (n+1) c=lY (iU n c)
 | 0,c=>rfl
 | n+1,c=>by rw [iU,oM n,iU]
theorem Dk {c:Nat} (h:c < 2 ^ 32):lY c < 2 ^ 32:=by
 unfold lY;refine Nat.xor_lt_two_pow (by omega) ?_
 split <;> decide
theorem sw:∀(n:Nat) {c:Nat},c < 2 ^ 32→iU n c < 2 ^ 32
 | 0,_,h=>h
 | n+1,_,h=>sw n (Dk h)
def xg (c:Nat) (b:UInt8):Nat:=pw 8 c b.toNat
theorem AV (c:Nat) (b:UInt8):iU 8 (c ^^^ b.toNat)=xg c b:=by
 rw [yR];have:b.toNat / 2 ^ 8=0:=Nat.div_eq_of_lt b.toNat_lt;rw [this,Nat.xor_zero];rfl
def yQ (c:Nat) (l:List UInt8):Nat:=l.foldl xg c
def yj (l:List UInt8):Nat:=4294967295 - yQ 4294967295 l
theorem AW (c:Nat) (l:List UInt8) (k:Nat) (h:k < l.length):yQ c (l.take (k+1))=xg (yQ c (l.take k)) l[k]:=by
 unfold yQ;rw [List.take_succ_eq_append_getElem h,List.foldl_append];rfl
open Go.Conc Go.RowKit
theorem Gt (sb d s r:Nat) (g:Bool) (a:Array Value) (l:List UInt8) (w:World) (m:w.cell? ⟨sb,3,none⟩=some (.chan (some d))) (h:w.heap[d]? =some (.chan 3 a false s r g)) (b:a.size < 3) (o:l.length≤1048576):
  Calls Tryz.prog 62 #[.pointer (some ⟨sb,0,none⟩),.string (bs l)] w fun e j=>e= .returned (.tuple #[])∧w.setChan d 3 (a.push (.string (bs (l++[13,10])))) false (s+1) r g=j:=by
 have p:=aI l;have i:¬9223372036854775807 < l.length+2:=by omega
 refine calls_of_loneTo fun k=>?_
 have e:Frame.enter Tryz.prog 62 #[.pointer (some ⟨sb,0,none⟩),.string (bs l)] .normal=(base 62).at ⟨#[.pointer (some ⟨sb,0,none⟩),.string (bs l),undef,undef,undef,undef,undef,undef,undef,undef],[]⟩ [.code (Tryz.f62.body.getD .skip)]:=by
  simp [Frame.enter,Frame.at,Tryz.func62,base,Tryz.f62]
 rw [e];refine LoneTo.goes (n:=7) ?_;simp only [Tryz.f62,Option.getD_some]
 s_reg
 s_op
 s_op
 s_op
 s_op
 s_op
 s_op
 s_stop
 have f:(bs l++(⟨#[13,10]⟩:ByteArray))=bs (l++[13,10]):=(ca l [13,10]).symm;refine LoneTo.step (step_lone_send_room (c:=d) (cap:=3) (buf:=a) (s:=s) (r:=r) (tm:=g) (v:= .string (bs (l++[13,10]))) (stepG_comm (cases:=#[scase d (.string (bs (l++[13,10]))) (.tuple #[])]) (blocking:=true) (shape:= .send) (w':=w) rfl rfl (by decide) (by simp [execOp,scase,Act.eval,f])) h b) ?_;rw [Frame.finish_at]
 walk_nrm
 refine LoneTo.goes (n:=2) ?_
 s_c stepG_region_end
 s_c stepG_end
 s_stop
 refine LoneTo.done ⟨.returned (.tuple #[]),_,rfl,⟨rfl,rfl⟩,rfl,rfl,rfl,rfl,_,Tryz.func62,by simp [results,Tryz.f62,Frame.at]⟩
open Go.RowKit
def dI (w w':World):Prop:=w'.os=w.os∧w'.tape=w.tape∧w'.output=w.output
theorem dI.refl (w:World):dI w w:=⟨rfl,rfl,rfl⟩
theorem dI.trans {a b c:World} (h:dI a b) (d:dI b c):dI a c:=⟨d.1.trans h.1,d.2.1.trans h.2.1,d.2.2.trans h.2.2⟩
theorem dI.of_below {B:Nat} {w a:World} (h:Below B w a):dI w a:=⟨h.os,h.tape,h.output⟩
theorem kl:∀(n:Nat) (w:World),dI w (w.drewN n)
 | 0,w=>dI.refl w
 | n+1,w=>(show dI w w.drew from ⟨rfl,rfl,rfl⟩).trans (kl n w.drew)
structure aH (b:Nat) (w w':World):Prop where
 size:w'.heap.size=w.heap.size
 block:∀c:Nat,c≠b→w'.heap[c]? =w.heap[c]?
 still:dI w w'
theorem aH.refl (b:Nat) (w:World):aH b w w:=⟨rfl,fun _ _=>rfl,dI.refl w⟩
theorem aH.trans {b:Nat} {w f a:World} (h:aH b w f) (d:aH b f a):aH b w a:=⟨d.1.trans h.1,fun c e=>(d.2 c e).trans (h.2 c e),h.3.trans d.3⟩
theorem aH.drewN {b:Nat} {w a:World} (h:aH b w a) (n:Nat):aH b w (a.drewN n):=⟨by simpa using h.1,fun c d=>by simpa using h.2 c d,h.3.trans (kl n a)⟩
theorem aH.setCell {b i:Nat} {w a:World} (h:aH b w a) (v:Value):aH b w (a.setCell ⟨b,i,none⟩ v):=
 ⟨by simpa using h.1,fun c d=>(heap_setCell_other a ⟨b,i,none⟩ c v d).trans (h.2 c d),h.3.trans ⟨rfl,rfl,rfl⟩⟩
theorem aH.below {b B:Nat} {w a:World} (h:aH b w a) (c:B≤b):Below B w a:=⟨h.3.1,h.3.2.1,h.3.2.2,by rw [h.1];exact Nat.le_refl _,fun k d=>h.2 k (by omega)⟩
theorem GD (n:Int) (h: -9223372036854775808≤n∧n≤9223372036854775807):wrap64 n=n:=by unfold wrap64;omega
theorem rp (l:List UInt8):be (l.take 1) < 256:=by
 cases l with
 | nil=>decide
 | cons b l=>
  have:=b.toNat_lt;show 256 * 0+b.toNat < 256;omega
theorem rq {l:List UInt8} (h:l.length≤4):be l < 4294967296:=by
 have a:=yF l;have b:256 ^ l.length≤256 ^ 4:=Nat.pow_le_pow_right (by decide) h;have c:256 ^ 4=4294967296:=by decide
 omega
theorem ax {w j:World} {a i n:Nat} {e:TypeId} {v:Value} {k:List Value} (h:w.ownsRow a e i v n k) (p:∀g b,w.heap[g]? =some (.cells b e (0,0))→a≤g→j.heap[g]? =some (.cells b e (0,0))):j.ownsRow a e i v n k:=by
 obtain ⟨o,d⟩:=h;refine ⟨o,?_⟩
 rcases d with d | ⟨g,c,b,l,f,m,r⟩
 ·exact .inl d
 ·exact .inr ⟨g,c,b,l,f,p g b m f,r⟩
theorem ah {w:World} {k:Nat} {o:Obj} (h:w.heap[k]? =some o):k < w.heap.size:=(Array.getElem?_eq_some_iff.1 h).1
theorem ae {w a:World} (b:Below w.heap.size w a) {k:Nat} {o:Obj} (h:w.heap[k]? =some o):a.heap[k]? =some o:=(b.block k (ah h)).trans h
theorem aJ {p:Nat} {w b:World} (c:aH p w b) {k:Nat} {o:Obj} (h:w.heap[k]? =some o) (a:k≠p):b.heap[k]? =some o:=(c.2 k a).trans h
structure aF (A:Nat→Prop) (w w':World):Prop where
 size:w.heap.size≤w'.heap.size
 block:∀k,k < w.heap.size→¬A k→w'.heap[k]? =w.heap[k]?
 still:dI w w'
theorem aF.refl (A:Nat→Prop) (w:World):aF A w w:=⟨Nat.le_refl _,fun _ _ _=>rfl,dI.refl w⟩
theorem aF.trans {A A1:Nat→Prop} {a b c:World} (h:aF A a b) (d:aF A1 b c) (i:∀k,k < a.heap.size→A1 k→A k):aF A a c:=
 ⟨Nat.le_trans h.size d.size,fun k f g=>(d.block k (Nat.lt_of_lt_of_le f h.size) (fun e=>g (i k f e))).trans (h.block k f g),h.still.trans d.still⟩
theorem aF.mono {A B:Nat→Prop} {a b:World} (h:aF A a b) (f:∀k,k < a.heap.size→A k→B k):aF B a b:=⟨h.size,fun k c d=>h.block k c (fun e=>d (f k c e)),h.still⟩
theorem aF.below {A:Nat→Prop} {a b:World} (h:Below a.heap.size a b):aF A a b:=⟨h.size,fun k c _=>h.block k c,dI.of_below h⟩
theorem aF.same {p:Nat} {a b:World} (h:aH p a b):aF (fun k=>k=p) a b:=⟨by rw [h.1];exact Nat.le_refl _,fun k _ c=>h.2 k c,h.3⟩
theorem aF.grown {a b:World} {c:Option Nat} (h:a.grownBy b c):aF (fun k=>c=some k) a b:=⟨h.size,fun k d f=>h.block k d (fun e=>f e.symm),⟨h.os,h.tape,h.output⟩⟩
theorem aF.some_ {A:Nat→Prop} {a b:World} (h:aF A a b) {k:Nat} {o:Obj} (e:a.heap[k]? =some o) (c:¬A k):b.heap[k]? =some o:=(h.block k (ah e) c).trans e
theorem Gk (sb:Nat) (a:Value) (u:FrameMode) (w:World) (h:w.cell? ⟨sb,7,none⟩=some a) (f:w.frozen? ⟨sb,7,none⟩=false):
  CallsD Tryz.prog 199 #[.pointer (some ⟨sb,0,none⟩)] u w fun e u' b=>u'=u∧(e= .returned (.tuple #[])∧b=w.setCell ⟨sb,7,none⟩ (.bool true)):=by
 go_enter_d Tryz.func199,Tryz.ntmps199
 go_wp2_with fail
 go_end0
 exact ⟨rfl,rfl⟩
theorem mY (sb:Nat) (a:Value) (u:FrameMode) (w:World) (h:w.cell? ⟨sb,8,none⟩=some a) (f:w.frozen? ⟨sb,8,none⟩=false):
  CallsD Tryz.prog 194 #[.pointer (some ⟨sb,0,none⟩)] u w fun e u' b=>u'=u∧(e= .returned (.tuple #[])∧b=w.setCell ⟨sb,8,none⟩ (.pointer none)):=by
 go_enter_d Tryz.func194,Tryz.ntmps194
 go_wp2_with fail
 go_end0
 exact ⟨rfl,rfl⟩
structure bP (w:World) (sb ch:Nat) (C:Array Value) (ls:List (List UInt8)):Prop where
 blk:w.heap[sb]? =some (.cells C 130 (0,0))
 size:C.size=9
 told:C[3]? =some (.chan (some ch))
 chan:∃s r,w.heap[ch]? =some (.chan 3 (ls.map fun l=>Value.string (bs l)).toArray false s r false)
theorem bP.cell {w:World} {sb a:Nat} {C:Array Value} {b:List (List UInt8)} (h:bP w sb a C b) (j:Nat):w.cell? ⟨sb,j,none⟩=C[j]? :=by rw [Lib.cell_of_heap h.blk]
theorem bP.frozen {w:World} {sb a:Nat} {C:Array Value} {b:List (List UInt8)} (h:bP w sb a C b) (j:Nat):w.frozen? ⟨sb,j,none⟩=false:=Lib.frozen_of_heap h.blk j
theorem bP.ne {w:World} {sb a:Nat} {C:Array Value} {c:List (List UInt8)} (h:bP w sb a C c):sb≠a:=fun e=>by
 obtain ⟨s,r,b⟩:=h.chan;have:=h.blk;rw [e,b] at this;simp at this
theorem bP.set {w:World} {sb a:Nat} {C:Array Value} {b:List (List UInt8)} (h:bP w sb a C b) (j:Nat) (e:j≠3) (v:Value):bP (w.setCell ⟨sb,j,none⟩ v) sb a (C.setIfInBounds j v) b:=by
 obtain ⟨s,r,d⟩:=h.chan;have c:aH sb w (w.setCell ⟨sb,j,none⟩ v):=(aH.refl _ _).setCell _;exact ⟨heap_setCell_same w sb j _ _ v h.blk,by simp [h.size],by rw [Array.getElem?_setIfInBounds_ne e];exact h.told,s,r,(c.2 a (Ne.symm h.ne)).trans d⟩
theorem bP.tell {w:World} {sb a:Nat} {C:Array Value} {b:List (List UInt8)} (h:bP w sb a C b) (j:b.length < 3) (l:List UInt8) (m:l.length≤1048576):
  Calls Tryz.prog 62 #[.pointer (some ⟨sb,0,none⟩),.string (bs l)] w fun e d=>e= .returned (.tuple #[])∧bP d sb a C (b++[l++[13,10]])∧aH a w d:=by
 obtain ⟨s,r,g⟩:=h.chan;refine (Gt sb a s r false _ l w ((h.cell 3).trans h.told) g (by simpa using j) m).mono ?_;rintro e d ⟨rfl,rfl⟩;have c:a < w.heap.size:=(Array.getElem?_eq_some_iff.1 g).1;have f:aH a w (w.setChan a 3 ((b.map fun l=>Value.string (bs l)).toArray.push (.string (bs (l++[13,10])))) false (s+1) r false):=⟨by simp [World.setChan],fun k i=>by simp [World.setChan,Array.getElem?_setIfInBounds_ne (Ne.symm i)],⟨rfl,rfl,rfl⟩⟩
 exact ⟨rfl,⟨(f.2 sb h.ne).trans h.blk,h.size,h.told,s+1,r,by rw [Conc.heap_setChan w a 3 _ false (s+1) r false c];simp⟩,f⟩
theorem Gf (sb a:Nat) (C:Array Value) (w:World) (h:bP w sb a C []):
  Calls Tryz.prog 142 #[.pointer (some ⟨sb,0,none⟩)] w fun e g=>e= .returned (.tuple #[])∧bP g sb a (C.setIfInBounds 7 (.bool true)) [[50,50,49,32,98,121,101,13,10]]∧aF (fun k=>k=sb∨k=a) w g:=by
 have i:=Lib.hid (h.tell (by simp) [50,50,49,32,98,121,101] (by decide));have m:=h.size;clear h;go_enter_defers Tryz.func142,Tryz.ntmps142
 go_wp2_with fail
 refine i.out.mono ?_;rintro e n ⟨rfl,b,c⟩;obtain ⟨d,j⟩:∃d,C[7]? =some d:=⟨_,Array.getElem?_eq_getElem (by omega)⟩;go_wp2_with fail
 refine leaves_cons (f:=199) (args:=#[.pointer (some ⟨sb,0,none⟩)]) (by simp) (by simp [go_sem]) ?_;refine (Gk sb d .returning _ ((b.cell 7).trans j) (b.frozen 7)).mono ?_;rintro e u' l ⟨rfl,rfl,rfl⟩;exact ⟨_,results_none rfl _ _ _,rfl,b.set 7 (by decide) _,((aF.same c).mono (fun _ _ e=> .inr e)).trans (aF.same ((aH.refl _ _).setCell _)) (fun _ _ e=> .inl e)⟩
theorem aH.cell {b:Nat} {w d:World} (h:aH b w d) {a:Addr} (c:a.block≠b):d.cell? a=w.cell? a:=World.cell?_of_block (h.2 a.block c)
theorem El (sb i:Nat) (C:Array Value) (w:World) (h:bP w sb i C []):
  Calls Tryz.prog 143 #[.pointer (some ⟨sb,0,none⟩)] w fun e d=>e= .returned (.tuple #[])∧bP d sb i (C.setIfInBounds 8 (.pointer none)) [[50,53,48,32,111,107,13,10]]∧(∀k,k≠sb→k≠i→d.heap[k]? =w.heap[k]?)∧dI w d∧d.heap.size=w.heap.size:=by
 have n:=Lib.hid (h.tell (by simp) [50,53,48,32,111,107] (by decide));have q:=h.size;clear h;go_enter_defers Tryz.func143,Tryz.ntmps143
 go_wp2_with fail
 refine n.out.mono ?_;rintro e m ⟨rfl,j,c⟩;obtain ⟨l,o⟩:∃l,C[8]? =some l:=⟨_,Array.getElem?_eq_getElem (by omega)⟩;have g:aH sb m (m.setCell ⟨sb,8,none⟩ (.pointer none)):=(aH.refl _ _).setCell _;go_wp2_with fail
 refine leaves_cons (f:=194) (args:=#[.pointer (some ⟨sb,0,none⟩)]) (by simp) (by simp [go_sem]) ?_;refine (mY sb l .returning _ ((j.cell 8).trans o) (j.frozen 8)).mono ?_;rintro e u' p ⟨rfl,rfl,rfl⟩;exact ⟨_,results_none rfl _ _ _,rfl,j.set 8 (by decide) _,fun k a b=>(g.2 k a).trans (c.2 k b),c.3.trans g.3,g.1.trans c.1⟩
theorem Dy (sb o l:Nat) (C:Array Value) (c:List UInt8) (w:World) (h:bP w sb o C []) (x:C[0]? =some (.pointer (some ⟨l,0,none⟩))) (y:w.cell? ⟨l,0,none⟩=some (.string (bs c))) (q:l≠sb) (H:c.length≤255):
  Calls Tryz.prog 144 #[.pointer (some ⟨sb,0,none⟩)] w fun e m=>e= .returned (.tuple #[])∧bP m sb o ((C.setIfInBounds 5 (.bool true)).setIfInBounds 8 (.pointer none)) [[50,53,48,32]++c++[13,10]]∧(∀k,k≠sb→k≠o→m.heap[k]? =w.heap[k]?)∧dI w m∧m.heap.size=w.heap.size:=by
 have I:=h.size;obtain ⟨J,r⟩:∃i,C[5]? =some i:=⟨_,Array.getElem?_eq_getElem (by omega)⟩;have F:=(h.cell 5).trans r;have G:=h.frozen 5;have E:=(h.cell 0).trans x;have j:aH sb w (w.setCell ⟨sb,5,none⟩ (.bool true)):=(aH.refl _ _).setCell _;have z:(w.setCell ⟨sb,5,none⟩ (.bool true)).cell? ⟨l,0,none⟩=some (.string (bs c)):=(j.cell q).trans y;have s:=h.set 5 (by decide) (.bool true);have v:=Lib.hid (s.tell (by simp) ([50,53,48,32]++c) (by rw [List.length_append];simp;omega));have d:(⟨#[50,53,48,32]⟩:ByteArray)++bs c=bs ([50,53,48,32]++c):=ca [50,53,48,32] c;have u:=Lib.hid d;have A:=aI c;clear h s d;go_enter_defers Tryz.func144,Tryz.ntmps144
 go_wp2_with fail
 rw [u.out];refine v.out.mono ?_;rintro e t ⟨rfl,p,g⟩;obtain ⟨i,B⟩:∃i,(C.setIfInBounds 5 (.bool true))[8]? =some i:=⟨_,Array.getElem?_eq_getElem (by simp;omega)⟩;have n:aH sb t (t.setCell ⟨sb,8,none⟩ (.pointer none)):=(aH.refl _ _).setCell _;go_wp2_with fail
 refine leaves_cons (f:=194) (args:=#[.pointer (some ⟨sb,0,none⟩)]) (by simp) (by simp [go_sem]) ?_;refine (mY sb i .returning _ ((p.cell 8).trans B) (p.frozen 8)).mono ?_;rintro e u' D ⟨rfl,rfl,rfl⟩;exact ⟨_,results_none rfl _ _ _,rfl,p.set 8 (by decide) _,fun k a b=>(n.2 k a).trans ((g.2 k b).trans (j.2 k a)),(j.3.trans g.3).trans n.3,n.1.trans (g.1.trans j.1)⟩
theorem ob (w:World):Calls Tryz.prog 198 #[.pointer none] w fun e a=>e= .returned (.bool false)∧w=a:=by
 go_enter Tryz.func198,Tryz.ntmps198;go_wp2_with fail
 go_ret;exact ⟨rfl,rfl⟩
theorem oT (b n c:Nat) (a:Option Addr) (w:World) (h:w.cell? ⟨b,1,none⟩=some (.slice a n c)):Calls Tryz.prog 198 #[.pointer (some ⟨b,0,none⟩)] w fun e d=>e= .returned (.bool (decide (0 < n)))∧w=d:=by
 go_enter Tryz.func198,Tryz.ntmps198;go_wp2_with fail
 go_ret;exact ⟨rfl,rfl⟩
theorem xx (w:World):Calls Tryz.prog 100 #[.pointer none] w fun e a=>e= .returned (.bool false)∧w=a:=by
 go_enter Tryz.func100,Tryz.ntmps100;go_wp2_with fail
 go_ret;exact ⟨rfl,rfl⟩
theorem Bn (a:Nat) (w:World) (h:w.cell? ⟨a,2,none⟩=some (.pointer none)):Calls Tryz.prog 100 #[.pointer (some ⟨a,0,none⟩)] w fun e b=>e= .returned (.bool false)∧w=b:=by
 go_enter Tryz.func100,Tryz.ntmps100;go_wp2_with fail
 go_ret;exact ⟨rfl,rfl⟩
theorem zn (a b:Nat) (w:World) (h:w.cell? ⟨a,2,none⟩=some (.pointer (some ⟨b,0,none⟩))):Calls Tryz.prog 100 #[.pointer (some ⟨a,0,none⟩)] w fun e c=>e= .returned (.bool true)∧w=c:=by
 go_enter Tryz.func100,Tryz.ntmps100;go_wp2_with fail
 go_ret;exact ⟨rfl,rfl⟩
theorem bP.below {w e:World} {sb a:Nat} {C:Array Value} {d:List (List UInt8)} (h:bP w sb a C d) (b:Below w.heap.size w e):bP e sb a C d:=by
 obtain ⟨s,r,c⟩:=h.chan;exact ⟨(b.block sb (Array.getElem?_eq_some_iff.1 h.blk).1).trans h.blk,h.size,h.told,s,r,(b.block a (Array.getElem?_eq_some_iff.1 c).1).trans c⟩
theorem bP.same {w e:World} {sb a b:Nat} {C:Array Value} {d:List (List UInt8)} (h:bP w sb a C d) (c:aH b w e) (f:sb≠b) (g:a≠b):bP e sb a C d:=by
 obtain ⟨s,r,i⟩:=h.chan;exact ⟨(c.2 sb f).trans h.blk,h.size,h.told,s,r,(c.2 a g).trans i⟩
theorem um (sb p a:Nat) (C:Array Value) (F G K:Value) (w:World) (h:bP w sb p C []) (P:C[8]? =some (.pointer (some ⟨a,0,none⟩))) (j:w.heap[a]? =some (.cells #[F,G,K] 216 (0,0))):
  Calls Tryz.prog 149 #[.pointer (some ⟨sb,0,none⟩)] w fun e m=>e= .returned (.tuple #[])∧bP m sb p C [[51,53,52,32,103,111,13,10]]∧m.heap[a]? =some (.cells #[F,G,.pointer (some ⟨w.heap.size,0,none⟩)] 216 (0,0))∧m.heap[w.heap.size]? =some (.cells #[.slice none 0 0,.bool false,.bool false] 253 (0,0))∧(∀k,k < w.heap.size→k≠a→k≠p→m.heap[k]? =w.heap[k]?)∧dI w m∧w.heap.size≤m.heap.size:=by
 have S:=(h.cell 8).trans P;have D:a < w.heap.size:=(Array.getElem?_eq_some_iff.1 j).1;have R:∀o:Obj,(w.alloc o).cell? ⟨a,2,none⟩=some K:=fun o=>by rw [Lib.cell_of_heap ((((Below.refl w.heap.size w).alloc (Nat.le_refl _) o).block a D).trans j)];rfl
 have g2:∀o:Obj,(w.alloc o).frozen? ⟨a,2,none⟩=false:=fun o=>Lib.frozen_of_heap ((((Below.refl w.heap.size w).alloc (Nat.le_refl _) o).block a D).trans j) 2;have E:sb≠a:=fun e=>by have:=h.blk;rw [e,j] at this;simp at this
 have q:p≠a:=fun e=>by obtain ⟨s,r,u⟩:=h.chan;rw [e,j] at u;simp at u
 have l:aH a w (w.setCell ⟨a,2,none⟩ (.pointer (some ⟨w.heap.size,0,none⟩))):=(aH.refl _ _).setCell _;have B:=heap_setCell_same w a 2 _ _ (.pointer (some ⟨w.heap.size,0,none⟩)) j;obtain ⟨g,i⟩:∃g:World,w.setCell ⟨a,2,none⟩ (.pointer (some ⟨w.heap.size,0,none⟩))=g:=⟨_,rfl⟩;rw [i] at l B;obtain ⟨n,d⟩:∃n:World,g.alloc (.cells #[.slice none 0 0,.bool false,.bool false] 253)=n:=⟨_,rfl⟩;have t:Below g.heap.size g n:=by rw [←d];exact (Below.refl _ _).alloc (Nat.le_refl _) _
 have I:n.heap[w.heap.size]? =some (.cells #[.slice none 0 0,.bool false,.bool false] 253 (0,0)):=by rw [←d,←l.1];exact heap_alloc_new g _
 have J:n.heap[a]? =some (.cells #[F,G,.pointer (some ⟨w.heap.size,0,none⟩)] 216 (0,0)):=(t.block a (by rw [l.1];exact D)).trans B;have H:=(h.same l E q).below t;have L:=Lib.hid (H.tell (by simp) [51,53,52,32,103,111] (by decide));have A:p≠w.heap.size:=by obtain ⟨s,r,u⟩:=h.chan;have:=(Array.getElem?_eq_some_iff.1 u).1;omega
 have f:=Lib.hid l;have b:=Lib.hid t;have v:=Lib.hid J;have z:=Lib.hid I;have x:=Lib.hid i;have y:=Lib.hid d;clear h H B t I i d l J j;go_enter Tryz.func149,Tryz.ntmps149;go_wp2_with fail
 rw [x.out,y.out];refine L.out.mono ?_;rintro e U ⟨rfl,N,c⟩;go_wp2_with fail
 refine bodyPost_end (results_none rfl _ _ _) rfl ?_;have Q:g.heap.size=w.heap.size:=f.out.1;refine ⟨rfl,N,(c.2 a (Ne.symm q)).trans v.out,(c.2 _ (Ne.symm A)).trans z.out,fun k T M O=>(c.2 k O).trans ((b.out.block k (by omega)).trans (f.out.2 k M)),(f.out.3.trans ⟨b.out.1,b.out.2,b.out.3⟩).trans c.3,?_⟩;rw [c.1];have:=b.out.size;omega
def jy (l:List UInt8):List UInt8:=aB 1 l.length++l
def fi (l:List UInt8):List UInt8:=aB 4 l.length++(aB 4 (yj l)++l)
def fj (l:List Nat):List UInt8:=l.flatMap (aB 1)
theorem xO (l:List Nat) (k:Nat) (h:k < l.length):fj (l.take (k+1))=fj (l.take k)++aB 1 l[k]:=by
 unfold fj;rw [List.take_succ_eq_append_getElem h,List.flatMap_append];simp
theorem iI (l:List Nat):(fj l).length=l.length:=by
 induction l with
 | nil=>rfl
 | cons a l ih=>show (aB 1 a++fj l).length=_;rw [List.length_append,bq,ih,List.length_cons];omega
def aY (id:Nat) (l:List Nat):List UInt8:=aB 4 id++(aB 1 l.length++fj l)
def aX (l:List Nat):List Value:=l.map fun (n:Nat)=>Value.int .i64 (n:Int)
structure aR where
 id:Nat
 time:Nat
 frm:List UInt8
 tos:List (List UInt8)
 body:List UInt8
def fo (l:List (List UInt8)):List UInt8:=l.flatMap jy
theorem Am (l:List (List UInt8)) (k:Nat) (h:k < l.length):fo (l.take (k+1))=fo (l.take k)++jy l[k]:=by
 unfold fo;rw [List.take_succ_eq_append_getElem h,List.flatMap_append];simp
theorem wm (l:List UInt8):(jy l).length=1+l.length:=by rw [jy,List.length_append,bq]
def dd (m:aR):List UInt8:=77::(aB 4 m.id++(aB 4 m.time++(jy m.frm++(aB 1 m.tos.length++(fo m.tos++(aB 2 m.body.length++m.body))))))
def aV (m:aR) (v:Value):Array Value:=#[.int .i64 m.id,.int .i64 m.time,.string (bs m.frm),v,.string (bs m.body)]
def dq (m:aR):Prop:=m.id≤4294967295∧m.time≤4294967295∧m.frm.length≤255∧m.tos.length≤255∧(∀t∈m.tos,t.length≤255)∧m.body.length≤1048576
def az (l:List (List UInt8)):List Value:=l.map fun t=>Value.string (bs t)
def H8:Obj→Option TypeId
 | .cells _ t _=>some t
 | _=>none
structure cE (ts:List TypeId) (w w':World):Prop where
 size:w.heap.size≤w'.heap.size
 block:∀(b:Nat) (o:Obj),w.heap[b]? =some o→(∀t∈ts,H8 o≠some t)→w'.heap[b]? =some o
 still:dI w w'
theorem cE.refl (ts:List TypeId) (w:World):cE ts w w:=⟨Nat.le_refl _,fun _ _ h _=>h,dI.refl w⟩
theorem cE.trans {ts:List TypeId} {a b c:World} (h:cE ts a b) (d:cE ts b c):cE ts a c:=⟨Nat.le_trans h.1 d.1,fun k o e n=>d.2 k o (h.2 k o e n) n,h.3.trans d.3⟩
theorem cE.mono {ts us:List TypeId} {a b:World} (h:cE ts a b) (c:∀t∈ts,t∈us):cE us a b:=⟨h.1,fun k o e n=>h.2 k o e (fun t d=>n t (c t d)),h.3⟩
theorem cE.below {ts:List TypeId} {a b:World} (h:Below a.heap.size a b):cE ts a b:=⟨h.size,fun k o e _=>(h.block k (by
 rcases Nat.lt_or_ge k a.heap.size with c | c
 ·exact c
 ·rw [Array.getElem?_eq_none c] at e;cases e)).trans e,dI.of_below h⟩
theorem cE.drewN {c:List TypeId} {a b:World} (h:cE c a b) (n:Nat):cE c a (b.drewN n):=⟨by simpa using h.1,fun k o e m=>by simpa using h.2 k o e m,h.3.trans (kl n b)⟩
theorem cE.alloc {ts:List TypeId} {a b:World} (h:cE ts a b) (o:Obj):cE ts a (b.alloc o):=h.trans (cE.below ((Below.refl _ _).alloc (Nat.le_refl _) o))
theorem cE.same {g:List TypeId} {a b c:World} {k:Nat} {A:Array Value} {t:TypeId} {z:Nat×Nat} (h:cE g a b) (i:b.heap[k]? =some (.cells A t z)) (l:t∈g) (f:aH k b c):cE g a c:=by
 refine h.trans ⟨by rw [f.1];exact Nat.le_refl _,fun j o e n=>?_,f.3⟩
 rcases Nat.decEq j k with d | rfl
 ·rw [f.2 j d];exact e
 ·rw [i] at e;injection e with e;subst e;exact absurd rfl (n t l)
theorem cE.grown {i:List TypeId} {a b c:World} {d:Option Nat} (h:cE i a b) (f:b.grownBy c d) (r:∀k,d=some k→∃A t z,b.heap[k]? =some (.cells A t z)∧t∈i):cE i a c:=by
 refine h.trans ⟨f.size,fun j o e n=>?_,f.os,f.tape,f.output⟩
 have p:j < b.heap.size:=by
  rcases Nat.lt_or_ge j b.heap.size with g | g
  ·exact g
  ·rw [Array.getElem?_eq_none g] at e;cases e
 by_cases l:d=some j
 ·obtain ⟨A,t,z,m,q⟩:=r j l;rw [m] at e;injection e with e;subst e;exact absurd rfl (n t q)
 ·rw [f.block j p (fun k=>l k.symm)];exact e
theorem cE.cells {c:List TypeId} {a b:World} (h:cE c a b) {k:Nat} {A:Array Value} {t:TypeId} {z:Nat×Nat} (d:a.heap[k]? =some (.cells A t z)) (f:t ∉ c):b.heap[k]? =some (.cells A t z):=
 h.2 k _ d (fun u g e=>by simp only [H8,Option.some.injEq] at e;exact f (e ▸ g))
theorem DG:(Tryz.prog.info? 3).map (fun i=>(i.zero,i.size,i.bytes))=some (some (.int .i64 0),1,8):=by kernel_rfl
def ky (n:Nat) (l:List UInt8):List Nat:=(List.range n).map fun i=>be ((l.drop i).take 1)
theorem BP (n:Nat) (l:List UInt8):(ky n l).length=n:=by simp [ky]
structure fE where
 m:aR
 out:List Bool
structure aa where
 items:List fE
 time:Nat
def Df (l:List Bool):List Value:=l.map Value.bool
def Ay (base:Nat) (w:World) (x:fE×Value×Nat):Prop:=
 w.ownsRow base 9 1 x.2.1 x.1.m.tos.length (az x.1.m.tos)∧base≤x.2.2∧w.heap[x.2.2]? =some (.cells (Df x.1.out).toArray 4 (0,0))∧x.1.out.length=x.1.m.tos.length∧1≤x.1.m.tos.length∧dq x.1.m
theorem dw {ts:List TypeId} {w f:World} {a d n:Nat} {e:TypeId} {v:Value} {i:List Value} (p:cE ts w f) (o:e ∉ ts) (h:w.ownsRow a e d v n i):f.ownsRow a e d v n i:=by
 refine ⟨h.1,?_⟩
 rcases h.2 with h | ⟨g,b,c,j,k,l,m⟩
 ·exact .inl h
 ·exact .inr ⟨g,b,c,j,k,p.cells l o,m⟩
theorem Ay.touch {b:List TypeId} {w d:World} {a:Nat} {x:fE×Value×Nat} (c:cE b w d) (e:9 ∉ b) (f:4 ∉ b) (h:Ay a w x):Ay a d x:=
 ⟨dw c e h.1,h.2.1,c.cells h.2.2.1 f,h.2.2.2⟩
theorem rE {w:World} {b:Nat} {o:Obj} (h:w.heap[b]? =some o):b < w.heap.size:=by
 rcases Nat.lt_or_ge b w.heap.size with a | a
 ·exact a
 ·rw [Array.getElem?_eq_none a] at h;cases h
def xN (out:List Bool) (l:List Nat) (i:Nat):Bool:=decide (l.getD i 0 < out.length) && !(out.getD (l.getD i 0) false) && (decide (i=0) || decide (l.getD (i - 1) 0 < l.getD i 0))
def wh (S:aa) (id:Nat) (l:List Nat):Bool:=decide (1≤id) && decide (id≤S.items.length) && decide (1≤l.length) && (List.range l.length).all (xN ((S.items.map (·.out)).getD (id - 1) []) l)
def FW:List UInt8:=[78,111,116,32,100,101,108,105,118,101,114,101,100,58]
def yK (tos:List (List UInt8)) (ps:List Nat):List UInt8:=FW++ps.flatMap fun x=>13::10::tos.getD x []
def aa.failed (S:aa) (m:aR) (ps:List Nat) (time:Nat):aa:=
 if m.frm=[] then ⟨S.items,time⟩ else ⟨S.items++[⟨⟨S.items.length+1,time,[],[m.frm],yK m.tos ps⟩,[false]⟩],time⟩
def yk (l:List UInt8):List UInt8×List UInt8:=((l.drop 1).take (be (l.take 1)),(l.drop 1).drop (be (l.take 1)))
def rj:Nat→List UInt8→List (List UInt8)×List UInt8
 | 0,l=>([],l)
 | n+1,l=>((yk l).1::(rj n (yk l).2).1,(rj n (yk l).2).2)
theorem tZ:∀(n:Nat) (l:List UInt8),(rj n l).1.length=n
 | 0,_=>rfl
 | n+1,l=>by rw [rj,List.length_cons,tZ n]
theorem Gz (l:List UInt8):(yk l).1.length < 256:=by
 have h:=rp l;unfold yk;rw [List.length_take];omega
theorem CV:∀(n:Nat) (l:List UInt8),∀t∈(rj n l).1,t.length < 256
 | 0,_,t,h=>by cases h
 | n+1,l,t,h=>by
  rw [rj] at h
  rcases List.mem_cons.1 h with rfl | h
  ·exact Gz l
  ·exact CV n _ t h
def ig (l:List UInt8):aR:=
 ⟨be (l.take 4),be ((l.drop 4).take 4),(yk (l.drop 8)).1,(rj (be ((yk (l.drop 8)).2.take 1)) ((yk (l.drop 8)).2.drop 1)).1,
  ((rj (be ((yk (l.drop 8)).2.take 1)) ((yk (l.drop 8)).2.drop 1)).2.drop 2).take (be ((rj (be ((yk (l.drop 8)).2.take 1)) ((yk (l.drop 8)).2.drop 1)).2.take 2))⟩
def fU (k:Nat) (l:List UInt8):Option (Nat×List UInt8):=if k≤l.length then some (be (l.take k),l.drop k) else none
def bg (k:Nat) (l:List UInt8):Option (List UInt8×List UInt8):=if k≤l.length then some (l.take k,l.drop k) else none
def ue (k:Nat) (l:List UInt8):Option (List UInt8×List UInt8):=(fU k l).bind fun a=>bg a.1 a.2
def uZ:Nat→List UInt8→Option (List (List UInt8)×List UInt8)
 | 0,l=>some ([],l)
 | n+1,l=>(ue 1 l).bind fun a=>(uZ n a.2).bind fun r=>some (a.1::r.1,r.2)
def nF:Nat→List UInt8→Option (List Nat×List UInt8)
 | 0,l=>some ([],l)
 | n+1,l=>(fU 1 l).bind fun a=>(nF n a.2).bind fun r=>some (a.1::r.1,r.2)
def mq (l:List UInt8):Option aR:=
 (fU 4 l).bind fun a=>(fU 4 a.2).bind fun b=>(ue 1 b.2).bind fun f=>(fU 1 f.2).bind fun n=>(uZ n.1 n.2).bind fun t=>(ue 2 t.2).bind fun d=>if d.2=[] then some ⟨a.1,b.1,f.1,t.1,d.1⟩ else none
def qx (l:List UInt8):Option (Nat×List Nat):=
 (fU 4 l).bind fun a=>(fU 1 a.2).bind fun n=>(nF n.1 n.2).bind fun t=>if t.2=[] then some (a.1,t.1) else none
theorem sb {α β:Type} (a:α) (f:α→Option β):(some a).bind f=f a:=rfl
theorem jv {k n:Nat} (r:List UInt8) (h:n < 256 ^ k):fU k (aB k n++r)=some (n,r):=by
 have a:=bq k n;unfold fU;rw [if_pos (by rw [List.length_append];omega),List.take_append_of_le_length (by omega),List.drop_append_of_le_length (by omega),List.take_of_length_le (by omega),List.drop_eq_nil_of_le (by omega),sg,Nat.mod_eq_of_lt h];rfl
theorem AI (a r:List UInt8):bg a.length (a++r)=some (a,r):=by
 unfold bg;rw [if_pos (by simp)];simp
theorem yd {k:Nat} (a r:List UInt8) (h:a.length < 256 ^ k):ue k (aB k a.length++(a++r))=some (a,r):=by
 unfold ue;rw [jv _ h];exact AI a r
theorem Ap:∀(a:List (List UInt8)) (r:List UInt8),(∀t∈a,t.length < 256)→uZ a.length (fo a++r)=some (a,r)
 | [],r,_=>rfl
 | t::a,r,h=>by
  have b:t.length < 256 ^ 1:=h t (by simp);show uZ (a.length+1) ((jy t++fo a)++r)=_;rw [uZ,jy,List.append_assoc,List.append_assoc,yd t _ b];show (uZ a.length (fo a++r)).bind _=_;rw [Ap a r (fun x c=>h x (by simp [c]))];rfl
theorem we:∀(a:List Nat) (r:List UInt8),(∀x∈a,x < 256)→nF a.length (fj a++r)=some (a,r)
 | [],r,_=>rfl
 | x::a,r,h=>by
  have b:x < 256 ^ 1:=h x (by simp);show nF (a.length+1) ((aB 1 x++fj a)++r)=_;rw [nF,List.append_assoc,jv _ b];show (nF a.length (fj a++r)).bind _=_;rw [we a r (fun y c=>h y (by simp [c]))];rfl
def rP (m:aR):Prop:=m.id < 256 ^ 4∧m.time < 256 ^ 4∧m.frm.length < 256∧m.tos.length < 256∧(∀t∈m.tos,t.length < 256)∧m.body.length < 256 ^ 2
theorem vY {m:aR} (h:rP m) {l:List UInt8} (a:dd m=77::l):mq l=some m:=by
 obtain ⟨b,c,d,e,f,g⟩:=h;unfold dd at a;injection a with _ a;subst a;unfold mq;rw [jv _ b];simp only [sb];rw [jv _ c];simp only [sb];rw [jy,List.append_assoc,yd m.frm _ d];simp only [sb];rw [jv _ (show m.tos.length < 256 ^ 1 from e)];simp only [sb];rw [Ap m.tos _ f];simp only [sb];have:=yd (k:=2) m.body [] g;rw [List.append_nil] at this;rw [this];rfl
theorem vR {b:Nat} {a:List Nat} (c:b < 256 ^ 4) (d:a.length < 256) (e:∀x∈a,x < 256):qx (aY b a)=some (b,a):=by
 unfold qx aY;rw [jv _ c];simp only [sb];rw [jv _ (show a.length < 256 ^ 1 from d)];simp only [sb];have:=we a [] e;rw [List.append_nil] at this;rw [this];rfl
theorem j5 {k n:Nat} {l r:List UInt8} (h:fU k l=some (n,r)):l=aB k n++r∧n=be (l.take k)∧r=l.drop k∧n < 256 ^ k:=by
 unfold fU at h
 split at h
 ·rename_i c
  injection h with h;injection h with h1 h2;have a:(l.take k).length=k:=by rw [List.length_take];omega
  have e:=se (l.take k);have b:=yF (l.take k);rw [a] at e b;subst h1 h2;exact ⟨by rw [e,List.take_append_drop],rfl,rfl,b⟩
 ·cases h
theorem jf {k:Nat} {l a r:List UInt8} (h:bg k l=some (a,r)):l=a++r∧a=l.take k∧r=l.drop k∧a.length=k:=by
 unfold bg at h
 split at h
 ·rename_i b
  injection h with h;injection h with h1 h2;subst h1 h2;exact ⟨by rw [List.take_append_drop],rfl,rfl,by rw [List.length_take];omega⟩
 ·cases h
theorem b9 {α β:Type} {o:Option α} {f:α→Option β} {b:β} (h:o.bind f=some b):∃a,o=some a∧f a=some b:=by
 cases o with
 | none=>cases h
 | some a=>exact ⟨a,rfl,h⟩
theorem rK {k:Nat} {l a r:List UInt8} (h:ue k l=some (a,r)):l=aB k a.length++(a++r)∧a=(l.drop k).take (be (l.take k))∧r=(l.drop k).drop (be (l.take k))∧a.length < 256 ^ k:=by
 obtain ⟨⟨n,p⟩,m,o⟩:=b9 h;obtain ⟨i,c,d,j⟩:=j5 m;obtain ⟨e,f,g,b⟩:=jf o;simp only at e f g b;refine ⟨by rw [b,←e];exact i,?_,?_,by rw [b];exact j⟩
 ·rw [←d,←c];exact f
 ·rw [←d,←c];exact g
theorem Ao:∀{n:Nat} {l:List UInt8} {b:List (List UInt8)} {r:List UInt8},uZ n l=some (b,r)→l=fo b++r∧rj n l=(b,r)
 | 0,l,b,r,h=>by
  injection h with h;injection h with c d;subst c d;exact ⟨rfl,rfl⟩
 | n+1,l,b,r,h=>by
  obtain ⟨⟨a,q⟩,c,d⟩:=b9 h;obtain ⟨⟨f,s⟩,o,e⟩:=b9 d;injection e with e;injection e with h5 h6;subst h5 h6;obtain ⟨j,k,m,_⟩:=rK c;obtain ⟨g,i⟩:=Ao o;simp only at g i;have p:yk l=(a,q):=by unfold yk;rw [←k,←m]
  refine ⟨?_,by rw [rj,p,i]⟩
  show l=(jy a++fo f)++s;rw [jy,List.append_assoc,List.append_assoc,←g];exact j
theorem DT {l:List UInt8} {m:aR} (h:mq l=some m):dd m=77::l∧ig l=m:=by
 obtain ⟨⟨M,N⟩,B,h⟩:=b9 h;obtain ⟨⟨z,y⟩,C,h⟩:=b9 h;obtain ⟨⟨d,K⟩,D,h⟩:=b9 h;obtain ⟨⟨n,L⟩,E,h⟩:=b9 h;obtain ⟨⟨f,O⟩,F,h⟩:=b9 h;obtain ⟨⟨p,P⟩,G,h⟩:=b9 h;obtain ⟨g,i,a,_⟩:=j5 B;obtain ⟨j,k,o,_⟩:=j5 C;obtain ⟨q,r,s,_⟩:=rK D;obtain ⟨t,u,v,_⟩:=j5 E;obtain ⟨w,b⟩:=Ao F;obtain ⟨c,x,A,_⟩:=rK G;simp only at g i a j k o q r s t u v w b c x A h
 split at h
 ·rename_i e
  injection h with h;subst h e;have H:n=f.length:=by have:=tZ n L;rw [b] at this;exact this.symm
  rw [List.append_nil] at c;have I:l.drop 8=y:=by rw [o,a,List.drop_drop]
  have J:yk y=(d,K):=by unfold yk;rw [←r,←s]
  refine ⟨?_,?_⟩
  ·unfold dd;simp only;rw [g,j,q,t,w,c,←H];simp only [jy,List.append_assoc]
  ·unfold ig;rw [I,J];simp only;rw [←u,←v,b];simp only;rw [←i,←a,←k,←x]
 ·cases h
theorem wc:∀{n:Nat} {l:List UInt8} {b:List Nat} {r:List UInt8},nF n l=some (b,r)→l=fj b++r∧b=ky n l∧b.length=n
 | 0,l,b,r,h=>by
  injection h with h;injection h with c d;subst c d;exact ⟨rfl,rfl,rfl⟩
 | n+1,l,b,r,h=>by
  obtain ⟨⟨a,t⟩,c,d⟩:=b9 h;obtain ⟨⟨f,s⟩,q,e⟩:=b9 d;injection e with e;injection e with h5 h6;subst h5 h6;obtain ⟨g,j,k,_⟩:=j5 c;obtain ⟨m,o,p⟩:=wc q;simp only at g j k m o p;refine ⟨?_,?_,by rw [List.length_cons,p]⟩
  ·show l=(aB 1 a++fj f)++s;rw [List.append_assoc,←m];exact g
  ·rw [o,j,k];simp only [ky,List.range_succ_eq_map,List.map_cons,List.map_map,List.drop_zero]
   congr 1
   apply List.map_congr_left;intro i _;simp
theorem DS {l:List UInt8} {i:Nat} {c:List Nat} (h:qx l=some (i,c)):l=aY i c∧i=be (l.take 4)∧c=ky (be ((l.drop 4).take 1)) (l.drop 5)∧c.length=be ((l.drop 4).take 1):=by
 obtain ⟨⟨a,w⟩,q,h⟩:=b9 h;obtain ⟨⟨n,v⟩,r,h⟩:=b9 h;obtain ⟨⟨t,x⟩,s,h⟩:=b9 h;obtain ⟨j,k,b,_⟩:=j5 q;obtain ⟨m,d,o,_⟩:=j5 r;obtain ⟨e,p,f⟩:=wc s;simp only at j k b m d o e p f h
 split at h
 ·rename_i g
  injection h with h;injection h with h4 h5;subst h4 h5 g;rw [List.append_nil] at e;have u:l.drop 5=v:=by rw [o,b,List.drop_drop]
  refine ⟨?_,k,?_,?_⟩
  ·unfold aY;rw [f,←e,←m];exact j
  ·rw [←b,←d,u];exact p
  ·rw [←b,←d];exact f
 ·cases h
theorem BA (l:List UInt8):rP (ig l):=by
 have a:∀x:List UInt8,be (x.take 4) < 256 ^ 4:=fun x=>by
  have:=rq (l:=x.take 4) (by rw [List.length_take];omega);have d:256 ^ 4=4294967296:=by decide
  omega
 refine ⟨a _,a _,Gz _,?_,CV _ _,?_⟩
 ·unfold ig;simp only;rw [tZ];exact rp _
 ·unfold ig;simp only;rw [List.length_take]
  generalize (rj (be ((yk (l.drop 8)).2.take 1)) ((yk (l.drop 8)).2.drop 1)).2=x
  have b:=yF (x.take 2);have c:256 ^ (x.take 2).length≤256 ^ 2:=Nat.pow_le_pow_right (by decide) (by rw [List.length_take];omega);omega
theorem DU (l:List UInt8):mq l=if dd (ig l)=77::l then some (ig l) else none:=by
 by_cases h:dd (ig l)=77::l
 ·rw [if_pos h];exact vY (BA l) h
 ·rw [if_neg h]
  cases e:mq l with
  | none=>rfl
  | some m=>
   obtain ⟨a,b⟩:=DT e;subst b;exact absurd a h
theorem D4 (n:Nat) (l:List UInt8):∀x∈ky n l,x < 256:=by
 intro x a;obtain ⟨i,_,rfl⟩:=List.mem_map.1 a;exact rp _
theorem vT (l:List UInt8):qx l=if aY (be (l.take 4)) (ky (be ((l.drop 4).take 1)) (l.drop 5))=l then some (be (l.take 4),ky (be ((l.drop 4).take 1)) (l.drop 5)) else none:=by
 by_cases h:aY (be (l.take 4)) (ky (be ((l.drop 4).take 1)) (l.drop 5))=l
 ·rw [if_pos h]
  have d:be (l.take 4) < 256 ^ 4:=by
   have:=rq (l:=l.take 4) (by rw [List.length_take];omega);have a:256 ^ 4=4294967296:=by decide
   omega
  have:=vR d (by rw [BP];exact rp _) (D4 (be ((l.drop 4).take 1)) (l.drop 5));rw [h] at this;exact this
 ·rw [if_neg h]
  cases e:qx l with
  | none=>rfl
  | some x=>
   obtain ⟨f,g⟩:=x;obtain ⟨b,c,a,_⟩:=DS e;rw [←c,←a] at h;exact absurd b.symm h
def fY (w:World) (q id t:Nat) (f:List UInt8) (v:Value) (b:List UInt8):Prop:=w.heap[q]? =some (.cells #[.int .i64 id,.int .i64 t,.string (bs f),v,.string (bs b)] 45 (0,0))
theorem fY.same {w d:World} {q c t s:Nat} {f b:List UInt8} {v:Value} (h:fY w q c t f v b) (e:aH s w d) (a:q≠s):fY d q c t f v b:=by
 unfold fY at h ⊢;rw [e.2 q a];exact h
theorem fY.cell {w:World} {q a t:Nat} {f b:List UInt8} {v:Value} (h:fY w q a t f v b) (j:Nat):w.cell? ⟨q,j,none⟩=(#[.int .i64 a,.int .i64 t,.string (bs f),v,.string (bs b)]:Array Value)[j]? ∧w.frozen? ⟨q,j,none⟩=false:=
 ⟨Lib.cell_of_heap h j,Lib.frozen_of_heap h j⟩
theorem mQ:(Tryz.prog.info? 9).map (fun i=>(i.zero,i.size,i.bytes))=some (some (.string ⟨#[]⟩),1,16):=by kernel_rfl
theorem dy {w i:World} {a f n b:Nat} {e:TypeId} {v:Value} {j:List Value} (h:w.ownsRow a e f v n j) (p:aH b w i) (q:b < a):i.ownsRow a e f v n j:=by
 refine ⟨h.1,?_⟩
 rcases h.2 with h | ⟨g,c,d,k,l,m,o⟩
 ·exact .inl h
 ·exact .inr ⟨g,c,d,k,l,(p.2 g (by omega)).trans m,o⟩
def ix (out:List Bool) (k:Nat):List Nat:=(List.range k).filter fun i=> !(out.getD i false)
theorem sZ (a:List Bool) (k:Nat):(ix a k).length≤k:=by
 unfold ix;have:=List.length_filter_le (fun i=> !(a.getD i false)) (List.range k);simpa using this
theorem cE.toBelow {a b:World} {B:Nat} (h:cE [] a b) (d:B≤a.heap.size):Below B a b:=
 ⟨h.still.1,h.still.2.1,h.still.2.2,h.size,fun k f=>by
  have c:k < a.heap.size:=by omega
  have e:=Array.getElem?_eq_getElem c;rw [e]
  exact h.block k _ e (by simp)⟩
theorem uM (l:List Nat) (n:Nat):aX (l++[n])=aX l++[.int .i64 (n:Int)]:=by simp [aX]
def i7 (verb:Int) (greeted:Bool) (tx:Option Nat):Bool:=
 if verb=5 then (match tx with | none=>false | some n=>decide (0 < n)) && greeted
 else if verb=10 then tx.isSome && greeted
 else if verb=8∨verb=9 then greeted else true
theorem BZ (sb k:Nat) (C:Array Value) (o:List (List UInt8)) (a:Int) (g:Bool) (w:World) (h:bP w sb k C o) (l:C[5]? =some (.bool g)) (m:C[8]? =some (.pointer none)):
  Calls Tryz.prog 141 #[.pointer (some ⟨sb,0,none⟩),.int .i64 a] w fun e i=>e= .returned (.bool (i7 a g none))∧w=i:=by
 have q:=(h.cell 5).trans l;have r:=(h.cell 8).trans m;have j:=Lib.hid (ob w);clear h
 by_cases c:a=5
 ·subst c;go_enter Tryz.func141,Tryz.ntmps141;go_wp2_with fail
  refine j.out.mono ?_;rintro e i ⟨rfl,rfl⟩;go_wp2_with fail
  go_ret;exact ⟨rfl,rfl⟩
 ·by_cases b:a=10
  ·subst b;go_enter Tryz.func141,Tryz.ntmps141;go_wp2_with fail
   go_ret;exact ⟨rfl,rfl⟩
  ·by_cases d:a=8
   ·subst d;go_enter Tryz.func141,Tryz.ntmps141;go_wp2_with fail
    go_ret;exact ⟨rfl,rfl⟩
   ·by_cases f:a=9
    ·subst f;go_enter Tryz.func141,Tryz.ntmps141;go_wp2_with fail
     go_ret;exact ⟨rfl,rfl⟩
    ·have s:(a == 5)=false:=by rw [beq_eq_false_iff_ne];exact c
     have p:(a == 10)=false:=by rw [beq_eq_false_iff_ne];exact b
     have t:(a == 8)=false:=by rw [beq_eq_false_iff_ne];exact d
     have u:(a == 9)=false:=by rw [beq_eq_false_iff_ne];exact f
     have n:i7 a g none=true:=by unfold i7;rw [if_neg c,if_neg b,if_neg (by omega)]
     rw [n];go_enter Tryz.func141,Tryz.ntmps141;go_wp2_with fail
     go_ret;exact ⟨rfl,rfl⟩
theorem B7 (sb r k n c:Nat) (a:Option Addr) (C:Array Value) (u:List (List UInt8)) (b:Int) (g:Bool) (w:World) (h:bP w sb r C u) (s:C[5]? =some (.bool g)) (t:C[8]? =some (.pointer (some ⟨k,0,none⟩))) (q:w.cell? ⟨k,1,none⟩=some (.slice a n c)):
  Calls Tryz.prog 141 #[.pointer (some ⟨sb,0,none⟩),.int .i64 b] w fun e l=>e= .returned (.bool (i7 b g (some n)))∧w=l:=by
 have x:=(h.cell 5).trans s;have y:=(h.cell 8).trans t;have i:=Lib.hid (oT k n c a w q);clear h q
 by_cases j:b=5
 ·subst j;have f:i7 5 g (some n)=(decide (0 < n) && g):=rfl;rw [f]
  by_cases p:0 < n
  ·rw [decide_eq_true p] at i ⊢;go_enter Tryz.func141,Tryz.ntmps141;go_wp2_with fail
   refine i.out.mono ?_;rintro e l ⟨rfl,rfl⟩;go_wp2_with fail
   go_ret;exact ⟨by simp,rfl⟩
  ·rw [decide_eq_false p] at i ⊢;go_enter Tryz.func141,Tryz.ntmps141;go_wp2_with fail
   refine i.out.mono ?_;rintro e l ⟨rfl,rfl⟩;go_wp2_with fail
   go_ret;exact ⟨by simp,rfl⟩
 ·by_cases d:b=10
  ·subst d;have f:i7 10 g (some n)=g:=by cases g <;> rfl
   rw [f];go_enter Tryz.func141,Tryz.ntmps141;go_wp2_with fail
   go_ret;exact ⟨rfl,rfl⟩
  ·by_cases m:b=8
   ·subst m;go_enter Tryz.func141,Tryz.ntmps141;go_wp2_with fail
    go_ret;exact ⟨rfl,rfl⟩
   ·by_cases o:b=9
    ·subst o;go_enter Tryz.func141,Tryz.ntmps141;go_wp2_with fail
     go_ret;exact ⟨rfl,rfl⟩
    ·have z:(b == 5)=false:=by rw [beq_eq_false_iff_ne];exact j
     have v:(b == 10)=false:=by rw [beq_eq_false_iff_ne];exact d
     have A:(b == 8)=false:=by rw [beq_eq_false_iff_ne];exact m
     have B:(b == 9)=false:=by rw [beq_eq_false_iff_ne];exact o
     have f:i7 b g (some n)=true:=by unfold i7;rw [if_neg j,if_neg d,if_neg (by omega)]
     rw [f];go_enter Tryz.func141,Tryz.ntmps141;go_wp2_with fail
     go_ret;exact ⟨rfl,rfl⟩
open Go.RowKit Go.Shelf
def lN (l:List Nat):List Nat:=l.mergeSort (fun x y=>decide (x≤y))
theorem pg (l:List Nat):aX l=(l.map fun (n:Nat)=>(n:Int)).map (Value.int .i64):=by unfold aX;rw [List.map_map];rfl
theorem Er (l:List Nat):(l.map fun (n:Nat)=>(n:Int)).mergeSort (fun x y=>decide (x≤y))=(lN l).map fun (n:Nat)=>(n:Int):=by
 unfold lN;rw [List.map_mergeSort (s:=fun x y=>decide (x≤y))];intro a _ b _;rw [Bool.eq_iff_iff];simp only [decide_eq_true_eq];omega
theorem wj (B:Nat) (v:Value) (l:List Nat) (w:World) (h:w.ownsRow B 3 1 v l.length (aX l)) (x:l.length≤1000):
  Calls Tryz.prog 94 #[v] w fun e d=>e= .returned (.tuple #[])∧d.ownsRow B 3 1 v l.length (aX (lN l))∧aF (fun k=>v.ownBlock=some k) w d:=by
 have c:(lN l).length=l.length:=List.length_mergeSort _
 rcases h.2 with ⟨rfl,o⟩ | ⟨g,a,b,rfl,t,f,p,q,r,s⟩
 ·have i:l=[]:=List.eq_nil_of_length_eq_zero o;subst i;refine (AnyM.slices_Sort_int_none Tryz.sortA none 0 w).mono ?_;rintro e d ⟨rfl,rfl⟩;exact ⟨rfl,by simpa [lN] using h,aF.refl _ _⟩
 ·have u:Go.Sort.Holds (Value.int .i64) w g 0 (l.map fun (n:Nat)=>(n:Int)).toArray:=holds_of_blockI f (by rw [List.length_map,←pg,←s,Nat.mul_one]);have j:=AnyM.slices_Sort_int Tryz.sortA g 0 a (l.map fun (n:Nat)=>(n:Int)) w u (ah f) (by rw [List.length_map];omega);rw [List.length_map] at j;refine j.mono ?_;rintro e d ⟨rfl,n,m,rfl⟩;rw [Er];refine ⟨rfl,?_,(aF.grown (grownBy_sortedI _)).mono (fun k _ e=>by rw [show (Value.slice (some ⟨g,0,none⟩) l.length a).ownBlock=some g from rfl];exact e)⟩;have:=ownsRow_sortedI (w:=w) (base:=B) (g:=g) (cap:=a) (n:=n) (e:=3) (os:=m) (cur:=b) (ss:=l.map fun (n:Nat)=>(n:Int)) (ts:=(lN l).map fun (n:Nat)=>(n:Int)) (by rw [List.length_map,List.length_map,c]) t f (by rw [List.length_map];exact p) q r;rw [List.length_map] at this;rw [pg];exact this
end Go.Proofs.YtofpegbpgkkgkaaGreatDoor
