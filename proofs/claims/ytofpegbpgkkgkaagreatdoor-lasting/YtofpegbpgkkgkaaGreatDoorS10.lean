import Derived.Test.YtofpegbpgkkgkaaGreatDoorS08
import Derived.Test.YtofpegbpgkkgkaaGreatDoorS06
namespace Go.Proofs.YtofpegbpgkkgkaaGreatDoor
set_option maxHeartbeats 8000000
set_option maxRecDepth 1000000
open Go.RowKit
def mL (base pb mb:Nat) (q:Nat→Nat) (vr:Value) (S:aa) (o:Option aa) (w:World) (e:Ending) (w':World):Prop:=
 ((o=none∧e= .returned (.bool false)∧bh base w' pb mb q vr S)∨∃S' q',o=some S'∧e= .returned (.bool true)∧bh base w' pb mb q' vr S')∧Below base w w'
theorem bh.drewN {a c b:Nat} {q:Nat→Nat} {d:Value} {S:aa} {w:World} (h:bh a w c b q d S) (n:Nat):bh a (w.drewN n) c b q d S:=h.keep (bA n _ _)
theorem zA (a l t:Nat) (q:Nat→Nat) (u:Value) (S:aa) (m:aX) (v:Value) (w:World) (h:bh a w l t q u S) (B:Nat) (y:w.ownsRow B 9 1 v m.tos.length (aB m.tos)) (I:dQ m) (H:1≤m.tos.length) (G:S.items.length < 4294967295):
  Calls Tryz.prog 115 #[.pointer (some ⟨l,0,none⟩),.agg (aY m v)] w (mL a l t q u S (S.takesM m) w):=by
 have k:=h.le;obtain ⟨b,c⟩:∃b:World,w.alloc (.cells #[.int .i64 m.id,.int .i64 m.time,.string (bs m.frm),v,.string (bs m.body)] 45)=b:=⟨_,rfl⟩;have r:Below w.heap.size w b:=by rw [←c];exact (Below.refl _ _).alloc (Nat.le_refl _) _
 have p:bh a b l t q u S:=h.keep r;have n:b.heap[w.heap.size]? =some (.cells #[.int .i64 m.id,.int .i64 m.time,.string (bs m.frm),v,.string (bs m.body)] 45 (0,0)):=by rw [←c];exact heap_alloc_new w _
 have L:b.cell? ⟨l,1,none⟩=some (.int .i64 S.time):=by rw [Lib.cell_of_heap p.bag];rfl
 have M:b.cell? ⟨l,2,none⟩=some (.int .i64 S.items.length):=by rw [Lib.cell_of_heap p.bag];rfl
 have N:b.cell? ⟨w.heap.size,0,none⟩=some (.int .i64 m.id):=by rw [Lib.cell_of_heap n];rfl
 have O:b.cell? ⟨w.heap.size,1,none⟩=some (.int .i64 m.time):=by rw [Lib.cell_of_heap n];rfl
 have P:b.cell? ⟨w.heap.size,2,none⟩=some (.string (bs m.frm)):=by rw [Lib.cell_of_heap n];rfl
 have Q:b.cell? ⟨w.heap.size,3,none⟩=some v:=by rw [Lib.cell_of_heap n];rfl
 have R:b.cell? ⟨w.heap.size,4,none⟩=some (.string (bs m.body)):=by rw [Lib.cell_of_heap n];rfl
 have f:=Lib.hid p;have i:=Lib.hid r;have j:=Lib.hid c;have E:=Lib.hid (aA y fun g x e _=>ae r e);have F:=Lib.hid I;unfold aY;clear p n r h c y;have T:IntKind.i64.wrap ((S.items.length:Int)+1)=(S.items.length:Int)+1:=by rw [IntKind.wrap_i64];omega
 by_cases d:m.id=S.items.length+1
 ·by_cases s:S.time≤m.time
  ·have o:Hid (S.takesM m=some (S.plus m)):=Lib.hid (by unfold aa.takesM aa.plus;rw [decide_eq_true d,decide_eq_true s];rfl);have z:((m.id:Int) != (S.items.length:Int)+1)=false:=by rw [d];simp
   have K:¬m.time < S.time:=by omega
   have D:=Lib.hid d;clear d s;go_enter Tryz.func115,Tryz.ntmps115;go_wp2_with fail
   rw [j.out];go_quiet (fail)
   go_wp2_with fail
   refine (tG a l t q u S m v _ (f.out.drewN _) B (aA E.out fun g x e _=>ae (bA _ _ _) e) F.out D.out H G).mono ?_;rintro e U ⟨rfl,J,A,C⟩;go_wp2_with fail
   go_ret;exact ⟨.inr ⟨_,J,o.out,rfl,A⟩,((i.out.mono k).trans (bA _ _ _)).trans C⟩
  ·have o:Hid (S.takesM m=none):=Lib.hid (by unfold aa.takesM;rw [decide_eq_false s,Bool.and_false];rfl);have z:((m.id:Int) != (S.items.length:Int)+1)=false:=by rw [d];simp
   have K:m.time < S.time:=by omega
   clear d s;go_enter Tryz.func115,Tryz.ntmps115;go_wp2_with fail
   rw [j.out];go_quiet (fail)
   go_wp2_with fail
   go_ret;exact ⟨.inl ⟨o.out,rfl,f.out.drewN _⟩,(i.out.mono k).trans (bA _ _ _)⟩
 ·have o:Hid (S.takesM m=none):=Lib.hid (by unfold aa.takesM;rw [decide_eq_false d,Bool.false_and];rfl);have z:((m.id:Int) != (S.items.length:Int)+1)=true:=by rw [bne_iff_ne];omega
  clear d;go_enter Tryz.func115,Tryz.ntmps115;go_wp2_with fail
  rw [j.out];go_quiet (fail)
  go_wp2_with fail
  go_ret;exact ⟨.inl ⟨o.out,rfl,f.out.drewN _⟩,(i.out.mono k).trans (bA _ _ _)⟩
theorem zz (a j s:Nat) (q:Nat→Nat) (t g:Value) (S:aa) (b:Nat) (f:List Nat) (w:World) (h:bh a w j s q t S) (p:S.Ok) (F:bg w g f.length 1 (aZ f)) (D:b≤4294967295) (L:1≤f.length) (r:f.length≤255) (M:S.items.length≤4294967295):
  Calls Tryz.prog 117 #[.pointer (some ⟨j,0,none⟩),.agg #[.int .i64 b,g]] w (mL a j s q t S (S.takesG b f) w):=by
 have E:=h.le;obtain ⟨i,c⟩:∃i:World,w.alloc (.cells #[.int .i64 b,g] 193)=i:=⟨_,rfl⟩;have k:Below w.heap.size w i:=by rw [←c];exact (Below.refl _ _).alloc (Nat.le_refl _) _
 have u:bh a i j s q t S:=h.keep k;have B:i.heap[w.heap.size]? =some (.cells #[.int .i64 b,g] 193 (0,0)):=by rw [←c];exact heap_alloc_new w _
 have R:∀o:Obj,o= .cells #[.int .i64 b,g] 193→(w.alloc o).cell? ⟨w.heap.size,0,none⟩=some (.int .i64 b):=fun o T=>by rw [T,c,Lib.cell_of_heap B];rfl
 have P:=Lib.hid (j8 a j s q t g S b f i u p (F.below k) D L r M);have l:=Lib.hid u;have v:=Lib.hid k;have z:=Lib.hid c;have A:=Lib.hid B;have x:=Lib.hid (F.below k);clear u k c B F h R;go_enter Tryz.func117,Tryz.ntmps117;go_wp2_with fail
 rw [z.out];refine P.out.mono ?_;rintro e G ⟨rfl,d⟩;have H:=ae d A.out;have W:G.cell? ⟨w.heap.size,0,none⟩=some (.int .i64 b):=by rw [Lib.cell_of_heap H];rfl
 have X:G.cell? ⟨w.heap.size,1,none⟩=some g:=by rw [Lib.cell_of_heap H];rfl
 have I:=Lib.hid (l.out.keep d);have Q:=Lib.hid (x.out.below d);have J:=Lib.hid (((v.out.mono E)).trans (d.mono l.out.le));clear H d
 cases n:bt S b f with
 | false=>
  have y:Hid (S.takesG b f=none):=Lib.hid (by unfold aa.takesG;rw [n];rfl);clear n;go_wp2_with fail
  go_ret;exact ⟨.inl ⟨y.out,rfl,I.out⟩,J.out⟩
 | true=>
  have y:Hid (S.takesG b f=some (S.outs (b - 1) f)):=Lib.hid (by unfold aa.takesG;rw [n];rfl);rw [db L,Bool.and_eq_true,decide_eq_true_eq] at n;obtain ⟨⟨C,m⟩,_⟩:=n;have K:=Lib.hid (pz a j s q t g S (b - 1) f G I.out p Q.out m r M);rw [show ((b - 1:Nat):Int)+1=(b:Int) by omega] at K
  clear C m;go_wp2_with fail
  refine K.out.mono ?_;rintro e V ⟨U,rfl,_,N,O⟩;go_wp2_with fail
  go_ret;exact ⟨.inr ⟨_,q,y.out,rfl,N⟩,J.out.trans O⟩
def iZ (addr:Int) (x:Int×Int):Bool:=decide (addr / 2 ^ (32 - x.2).toNat=x.1 / 2 ^ (32 - x.2).toNat)
theorem AK (c:bX) (O P Q R:Value) (a:Int) (w:World) (h:jZ w c O P Q R) (hn:c.nets.length≤5) (K:∀x∈c.nets,0≤x.2∧x.2≤32):
  Calls Tryz.prog 61 #[.agg #[.string c.host,O,P,Q,.int .i64 c.most,.int .i64 c.size,R,.int .i64 c.life,.int .i64 c.room],.int .i64 a] w fun e B=>e= .returned (.bool (c.nets.any (iZ a)))∧Below w.heap.size w B:=by
 obtain ⟨U,Y,eD⟩:=aE h.1;obtain ⟨W,cU,eU⟩:=aE h.2.2.1;obtain ⟨X,cW,eW⟩:=aE h.2.2.2;obtain ⟨V,Z,eN,J⟩:=h.2.1.shape;subst eD eN eU eW;obtain ⟨y,m⟩:∃y:World,w.alloc (.cells #[.string c.host,.slice U c.doms.length Y,.slice V c.nets.length Z,.slice W c.users.length cU,.int .i64 c.most,.int .i64 c.size,.slice X c.waits.length cW,.int .i64 c.life,.int .i64 c.room] 30)=y:=⟨_,rfl⟩;have C:Below w.heap.size w y:=by rw [←m];exact (Below.refl _ _).alloc (Nat.le_refl _) _
 have F:=Lib.hid J;have S:=Lib.hid K;have s:=Lib.hid C;have v:=Lib.hid m;clear h J K C m;go_enter Tryz.func61,Tryz.ntmps61;go_wp2_with fail
 rw [v.out];go_loopw [6,7,11] (fun _ _ i B=>∃k:Nat,k≤c.nets.length∧i= .int .i64 k∧Hid ((c.nets.take k).any (iZ a)=false)∧Hid (Below w.heap.size w B)) (fun _ _ i _=>c.nets.length - (intOf i).toNat)
 case atStart=>exact ⟨0,Nat.zero_le _,rfl,Lib.hid rfl,s⟩
 case round=>
  obtain ⟨k,hk,rfl,t,o⟩:=hrel
  by_cases g:k < c.nets.length
  ·have L:(k:Int) < (c.nets.length:Int):=by omega
   obtain ⟨b,r,rfl,p,f⟩:=F.out k 0 g (by omega);obtain ⟨b',N,z,_,d⟩:=F.out k 1 g (by omega);injection z with z;injection z with e1 e2 _;subst e1 e2;rw [Nat.add_zero,Hw c.nets k g] at f;rw [Eo c.nets k g] at d;have q:=S.out c.nets[k] (List.getElem_mem g);have G:Hid ((c.nets.take (k+1)).any (iZ a)=iZ a c.nets[k]):=Lib.hid (by rw [List.take_succ_eq_append_getElem g,List.any_append,t.out];simp);have E:Hid (iZ a c.nets[k]=true→c.nets.any (iZ a)=true):=Lib.hid (fun e=>List.any_eq_true.2 ⟨_,List.getElem_mem g,e⟩);obtain ⟨x,H⟩:∃x,c.nets[k]=x:=⟨_,rfl⟩;rw [H] at f d q G E;obtain ⟨n,l⟩:=x;simp only at f d q;have d0:wr.cell? ⟨b,r+k * 2,none⟩=some (.int .i64 n):=(o.out.cell (by exact p)).trans f;have d1:wr.cell? ⟨b,r+k * 2+1,none⟩=some (.int .i64 l):=(o.out.cell (by exact p)).trans d;have a1:IntKind.i64.wrap (32 - l)=32 - l:=by rw [IntKind.wrap_i64];omega
   have a0:¬(32 - l < 0):=by omega
   have M:(0:Int)≤32 - l:=by omega
   clear H f d;go_wp2_with fail
   go_quiet (fail)
   have D:=Lib.hid ((o.out.alloc o.out.size (.cells #[.int .i64 n,.int .i64 l] 77)).trans (bA nq _ _))
   by_cases j:a / 2 ^ (32 - l).toNat=n / 2 ^ (32 - l).toNat
   ·have hb:(a / 2 ^ (32 - l).toNat == n / 2 ^ (32 - l).toNat)=true:=by rw [beq_iff_eq];exact j
    have T:=Lib.hid (E.out (by unfold iZ;simpa using j));clear j;go_wp2_with fail
    go_ret;exact ⟨by rw [T.out];rfl,D.out⟩
   ·have hb:(a / 2 ^ (32 - l).toNat == n / 2 ^ (32 - l).toNat)=false:=by rw [beq_eq_false_iff_ne];exact j
    have I:=G.out.trans (show iZ a (n,l)=false by unfold iZ;simpa using j);have u:=Lib.hid I;clear j I;go_wp2_with fail
    exact ⟨⟨k+1,by omega,by go_num,u,D⟩,by simp [intOf];omega⟩
  ·have A:k=c.nets.length:=by omega
   subst A;rw [List.take_length] at t;go_wp2_with fail
   go_ret;exact ⟨by rw [t.out];rfl,o.out⟩
end Go.Proofs.YtofpegbpgkkgkaaGreatDoor
