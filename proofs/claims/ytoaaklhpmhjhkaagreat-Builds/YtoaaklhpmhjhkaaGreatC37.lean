import Derived.Test.YtoaaklhpmhjhkaaGreatC36
set_option maxRecDepth 100000
set_option maxHeartbeats 4000000
set_option linter.all false
namespace Go.Proofs.YtoaaklhpmhjhkaaGreat
open Go.RowKit
open Bm
theorem q9T {t:Tq} (ht:TqOK t) (hs:isSuf t.t):∃c r,t.t.w=c::r/\((c=42/\t.t.kd=5)\/(c=43/\t.t.kd=6)\/(c=63/\t.t.kd=7)\/(c=123/\t.t.kd=8)):=by
 unfold isSuf at hs;rcases ht.1 with h|h|h|h|h|h|h|h
 ·exact absurd h.1 (by omega)
 ·exact absurd h.1 (by omega)
 ·exact absurd h.1 (by omega)
 ·exact absurd h.1 (by omega)
 ·exact⟨42,[],h.2,Or.inl ⟨rfl,h.1⟩⟩
 ·exact⟨43,[],h.2,Or.inr (Or.inl ⟨rfl,h.1⟩)⟩
 ·exact⟨63,[],h.2,Or.inr (Or.inr (Or.inl ⟨rfl,h.1⟩))⟩
 rcases h.2 with ⟨x,a,_⟩|⟨x,z,a,_⟩
 ·exact⟨123,_,a,Or.inr (Or.inr (Or.inr ⟨rfl,h.1⟩))⟩
 exact⟨123,_,a,Or.inr (Or.inr (Or.inr ⟨rfl,h.1⟩))⟩
theorem q9J {t:Tq} (ht:TqOK t) (h8:t.t.kd=8):3<=t.t.w.length/\Rf.most t.t.w=some t.t.mo/\LeW t.t.w t.le/\0<=t.t.mo/\t.t.mo<=9/\0<=t.le/\t.le<=9:=by
 have f:=(q8b ht.1 h8).2;have a:=q5r f;obtain⟨b,c,d⟩:=Rf.most_bd a;have e:=ht.2.2 h8;obtain⟨x,r,_,g,h,i⟩:=ht.2.2 h8;exact⟨d,a,e,b,c,by omega,by omega⟩
variable {ks rs : List Nat}{M N N' P R base cap f g gb i k n sb tb : Nat}{nl : Nat → Bool}{Ns cp ix : Nat → Nat}{E : Nat → Nat → Bool}{nx : Nat → Nat → Int}{S S' X : Nat → Prop}{row : Option Nat}{e0 : Rx}{v v' vk vr vw : Value}{w w' w0 w1 w2 w5 : World}
theorem q9j {q:List Tq}{t:Tq} (hq:Pp f 0 q e0) (ht:TqOK t) (hsf:isSuf t.t) (hPc:PcOK q e0) (h:Pp (f+1) 0 (q++[t]) (Rx.suf t.t.kd t.le.toNat t.t.mo.toNat e0).nz) (hz:(Rx.suf t.t.kd t.le.toNat t.t.mo.toNat e0).nz.sz≠0):PcOK (q++[t]) (Rx.suf t.t.kd t.le.toNat t.t.mo.toNat e0).nz:=by
 have ak:(Rx.suf t.t.kd t.le.toNat t.t.mo.toNat e0).nz=Rx.suf t.t.kd t.le.toNat t.t.mo.toNat e0:=by
  rw[Rx.nz_sz]at hz;unfold Rx.nz;rw[if_neg hz]
 intro tb base s T N v vr S w r hs hp;obtain⟨G,hG⟩:=q7S h;rw[ak]at hG hz hp ⊢;have ab:tx (q++[t])=tx q++t.t.w:=by rw[q2a,q3H,q8z,List.append_nil]
 rw[ab]at r;have M:=y1p hq ht hsf;rw[<-r]at M;obtain⟨a,l⟩:=nam ((tx q).length);rw[<-l]at M;obtain⟨c,us,V,ap⟩:=q9T ht hsf;have hx:(s.extract 0 a).data.toList=tx q:=by rw[y2o,r,l,List.take_left]
 have hu:(s.extract a s.size).data.toList=t.t.w:=by rw[q3u,r,l,List.drop_left]
 have al:s.size=a+t.t.w.length:=by
  have:s.data.toList.length=a+t.t.w.length:=by rw[r,List.length_append,l]
  simpa using this
 have ao:(s.extract 0 a).size=a:=by
  have:(s.extract 0 a).data.toList.length=a:=by rw[hx,l]
  simpa using this
 have p:Hid (∀w',Calls Tryz.prog 164 #[.string s] w' λe w''=>e=.returned (.tuple #[.string (s.extract 0 a),.string (s.extract a s.size)])/\Below w'.heap.size w' w''):=λw'=>q2u s a w' hs M
 have aq:0<(s.extract a s.size).size:=by
  have:(s.extract a s.size).data.toList.length=us.length+1:=by rw[hu,V];rfl
  simp at this;simp;omega
 have i:(s.extract a s.size)[0]=c:=by
  have:=q6v (s.extract a s.size) 0 aq;rw[this,hu,V];rfl
 have ax:(s.extract a s.size).toList.isEmpty=false:=by rw[ByteArray.toList_eq,hu,V];rfl
 have an:(s.extract a s.size).size<=40:=q1v s _ _ hs;have B:(s.extract 0 a).size<=40:=q1v s _ _ hs;rw[<-ab]at r;rw[<-r]at hG;have HS:=hyd ((q6D G).2 s _ w hs hG);have O:=hp.t.c.lt;have D:=hyd hp;generalize s.extract a s.size=ub at *;generalize s.extract 0 a=xb at *;obtain⟨z,ae⟩:=nam ((Rx.suf t.t.kd t.le.toNat t.t.mo.toNat e0).sz);rw[<-ae]at HS D hz ⊢;have aw:((z:Int)==0)=false:=by simp;omega
 have C:=hyd ae;obtain⟨K,hK⟩:=nam (ndB s.size z);have R:=hyd hK;rw[<-hK]at D ⊢;have x:=hyd3 hx ao al;have Hu:=hyd hu;have ac:1<=t.t.w.length:=by rw[V];simp
 have ag:=D.out.n;have am:=D.out.b;clear h hG r hp M hx hu al ao ab ak hK ae l;rcases ap with ⟨rfl,y⟩|⟨rfl,y⟩|⟨rfl,y⟩|⟨rfl,y⟩
 ·have b1:((ub[0].toNat:Int)==42)=true:=by rw[i];rfl
  have b2:((ub[0].toNat:Int)==43)=false:=by rw[i];rfl
  have U:Rx.suf t.t.kd t.le.toNat t.t.mo.toNat e0=.star e0:=by unfold Rx.suf;rw[if_pos y]
  rw[U]at C ⊢;have o:ndB xb.size e0.sz+1<=K:=by
   have:=q6j (L:=xb.size) (P:=e0.sz) ac;rw[R.out,C.out,x.out.2.2,<-x.out.2.1];show _<=ndB _ e0.sz;omega
  have E:Hid (∀w',Below w.heap.size w w'->Calls Tryz.prog 147 #[.pointer (some ⟨tb,0,none⟩),.string xb] w' (GrPost tb base T N v vr S e0 (ndB xb.size e0.sz) w')):=λw' j=>hPc tb base xb T N v vr S w' x.out.1 B ((D.out.below j).less (by omega))
  generalize ndB xb.size e0.sz=Kx at *;clear i R C x Hu V hPc hq ht hsf;go_enter Tryz.func147,Tryz.ntmps147;go_wp2_with fail;refine HS.out.mono ?_;rintro ee w1 ⟨rfl,j⟩;go_wp2_with fail;refine(p.out _).mono ?_;rintro ee w2 ⟨rfl,k⟩;have d:=j.trans (k.mono j.size);have m:=hyd (E.out w2 d);clear E HS p j k;go_wp2_with fail;refine m.out.mono ?_;rintro ee w4 ⟨T4,n4,v4,S4,rfl,J,H,I,Y,u,av⟩;have HL:Hid (Calls Tryz.prog 182 #[.pointer (some ⟨tb,0,none⟩),.int .i64 3,.int .i64 n4] w4 (GrPost tb base T N v vr S (.star e0) K w2)):=
   q8B tb base T N v vr S w2 T4 n4 v4 S4 w4 e0 K ((GS.first (D.out.below d)).made J H I Y u) Y am (D.out.below d).s (by omega) ag true
  clear J H I Y u m;go_wp2_with fail;refine HL.out.mono ?_;rintro ee w5 ⟨X,n5,v5,W,rfl,g⟩;go_wp2_with fail;go_ret;exact GrPost.from ⟨X,n5,v5,W,rfl,g⟩ d O
 ·have b1:((ub[0].toNat:Int)==42)=false:=by rw[i];rfl
  have b2:((ub[0].toNat:Int)==43)=true:=by rw[i];rfl
  have U:Rx.suf t.t.kd t.le.toNat t.t.mo.toNat e0=.plus e0:=by unfold Rx.suf;rw[if_neg (by omega),if_pos y]
  rw[U]at C ⊢;have o:ndB xb.size e0.sz+1<=K:=by
   have:=q6j (L:=xb.size) (P:=e0.sz) ac;rw[R.out,C.out,x.out.2.2,<-x.out.2.1];show _<=ndB _ e0.sz;omega
  have E:Hid (∀w',Below w.heap.size w w'->Calls Tryz.prog 147 #[.pointer (some ⟨tb,0,none⟩),.string xb] w' (GrPost tb base T N v vr S e0 (ndB xb.size e0.sz) w')):=λw' j=>hPc tb base xb T N v vr S w' x.out.1 B ((D.out.below j).less (by omega))
  generalize ndB xb.size e0.sz=Kx at *;clear i R C x Hu V hPc hq ht hsf;go_enter Tryz.func147,Tryz.ntmps147;go_wp2_with fail;refine HS.out.mono ?_;rintro ee w1 ⟨rfl,j⟩;go_wp2_with fail;refine(p.out _).mono ?_;rintro ee w2 ⟨rfl,k⟩;have d:=j.trans (k.mono j.size);have m:=hyd (E.out w2 d);clear E HS p j k;go_wp2_with fail;refine m.out.mono ?_;rintro ee w4 ⟨T4,n4,v4,S4,rfl,J,H,I,Y,u,av⟩;have HL:Hid (Calls Tryz.prog 182 #[.pointer (some ⟨tb,0,none⟩),.int .i64 4,.int .i64 n4] w4 (GrPost tb base T N v vr S (.plus e0) K w2)):=
   q8B tb base T N v vr S w2 T4 n4 v4 S4 w4 e0 K ((GS.first (D.out.below d)).made J H I Y u) Y am (D.out.below d).s (by omega) ag false
  clear J H I Y u m;go_wp2_with fail;refine HL.out.mono ?_;rintro ee w5 ⟨X,n5,v5,W,rfl,g⟩;go_wp2_with fail;go_ret;exact GrPost.from ⟨X,n5,v5,W,rfl,g⟩ d O
 ·have b1:((ub[0].toNat:Int)==42)=false:=by rw[i];rfl
  have b2:((ub[0].toNat:Int)==43)=false:=by rw[i];rfl
  have b3:((ub[0].toNat:Int)==63)=true:=by rw[i];rfl
  have U:Rx.suf t.t.kd t.le.toNat t.t.mo.toNat e0=.opt e0:=by unfold Rx.suf;rw[if_neg (by omega),if_neg (by omega),if_pos y]
  rw[U]at C ⊢;have o:ndB xb.size e0.sz+2<=K:=by
   have:=q6j (L:=xb.size) (P:=e0.sz) ac;rw[R.out,C.out,x.out.2.2,<-x.out.2.1];exact this
  have E:Hid (∀w',Below w.heap.size w w'->Calls Tryz.prog 183 #[.pointer (some ⟨tb,0,none⟩),.string xb] w' (GrPost tb base T N v vr S (.opt e0) K w')):=λw' j=>(q8K hPc tb base xb T N v vr S w' x.out.1 B ((D.out.below j).less o)).mono (λee w'' h=>h.eq (SemEq.refl _) o)
  clear i R C x Hu V hPc hq ht hsf o;go_enter Tryz.func147,Tryz.ntmps147;go_wp2_with fail;refine HS.out.mono ?_;rintro ee w1 ⟨rfl,j⟩;go_wp2_with fail;refine(p.out _).mono ?_;rintro ee w2 ⟨rfl,k⟩;have d:=j.trans (k.mono j.size);have m:=hyd (E.out w2 d);clear E HS p j k;go_wp2_with fail;refine m.out.mono ?_;rintro ee w5 ⟨X,n5,v5,W,rfl,g⟩;go_wp2_with fail;go_ret;exact GrPost.from ⟨X,n5,v5,W,rfl,g⟩ d O
 have b1:((ub[0].toNat:Int)==42)=false:=by rw[i];rfl
 have b2:((ub[0].toNat:Int)==43)=false:=by rw[i];rfl
 have b3:((ub[0].toNat:Int)==63)=false:=by rw[i];rfl
 have U:Rx.suf t.t.kd t.le.toNat t.t.mo.toNat e0=Rx.rowOf (Rx.copies e0 t.le.toNat t.t.mo.toNat):=by unfold Rx.suf;rw[if_neg (by omega),if_neg (by omega),if_neg (by omega)]
 rw[U]at C ⊢;obtain⟨l3,A,F,m0,m9,ar,au⟩:=q9J ht y;obtain⟨mo,aa⟩:∃mo:Nat,t.t.mo=mo:=⟨t.t.mo.toNat,by omega⟩;obtain⟨le,Z⟩:∃le:Nat,t.le=le:=⟨t.le.toNat,by omega⟩;rw[aa]at A m9 m0;rw[Z]at F au ar;rw[aa,Z,Int.toNat_natCast,Int.toNat_natCast]at C ⊢;have o:mo*(ndB xb.size e0.sz+2)+1<=K:=by
  have Q:=C.out;rw[Rx.copies_sz]at Q;have aj:1<=mo/\1<=e0.sz:=by
   rcases Nat.eq_zero_or_pos mo with h0|h0
   ·rw[h0,Nat.zero_mul]at Q;omega
   rcases Nat.eq_zero_or_pos e0.sz with h1|h1
   ·rw[h1,Nat.mul_zero]at Q;omega
   exact⟨h0,h1⟩
  have:=y0r (L:=xb.size) l3 aj.2 aj.1;rw[R.out,Q,x.out.2.2,<-x.out.2.1];exact this
 have E:Hid (∀w',Below w.heap.size w w'->Calls Tryz.prog 184 #[.pointer (some ⟨tb,0,none⟩),.string xb,.int .i64 le,.int .i64 mo] w' (GrPost tb base T N v vr S (Rx.rowOf (Rx.copies e0 le mo)) K w')):=λw' j=>(q7R hPc le mo (by omega) (by omega) tb base xb T N v vr S w' x.out.1 B ((D.out.below j).less o)).mono (λee w'' h=>h.eq (SemEq.refl _) o)
 have af:Hid (∀w',Calls Tryz.prog 165 #[.string ub] w' λe w''=>e=.returned (.tuple #[.int .i64 le,.int .i64 mo])/\Below w'.heap.size w' w''):=λw'=>q8s ub mo le w' an (by rw[Hu.out];exact A) (by rw[Hu.out];exact F)
 clear i R C x Hu V hPc hq ht hsf o A F aa Z U;go_enter Tryz.func147,Tryz.ntmps147;go_wp2_with fail;refine HS.out.mono ?_;rintro ee w1 ⟨rfl,j⟩;go_wp2_with fail;refine(p.out _).mono ?_;rintro ee w2 ⟨rfl,k⟩;have d:=j.trans (k.mono j.size);clear HS p j k;go_wp2_with fail;refine(af.out _).mono ?_;rintro ee w3 ⟨rfl,ah⟩;have ai:=d.trans (ah.mono d.size);have m:=hyd (E.out w3 ai);clear E af d ah;go_wp2_with fail;refine m.out.mono ?_;rintro ee w5 ⟨X,n5,v5,W,rfl,g⟩;go_wp2_with fail;go_ret;exact GrPost.from ⟨X,n5,v5,W,rfl,g⟩ ai O
variable {ts : List Tq}{e : Rx}
theorem y2l (h:Pp g 1 ts e):∃(g':Nat) (L:List (List Tq × Rx)),g'<g/\ts=((L.map (·.1)).flatten)/\(∀x∈L,Pp g' 0 x.1 x.2)/\e=Rx.rowOf (L.map (·.2)):=by
 cases g with
 |zero=>exact absurd h (by simp[Pp])
 |succ g=>
  obtain⟨L,a,b,c⟩:=h;exact⟨g,L,by omega,a,b,c⟩
theorem y2E (h:Pp g 2 ts e):∃(g':Nat) (L:List (List Tq × Rx)) (rest:List UInt8),g'<g/\tx ts=tx ((L.map (·.1)).flatten)++rest/\(∀x∈L,Pp g' 0 x.1 x.2)/\((rest=[]/\e=Rx.rowOf (L.map (·.2)))\/∃q e2 g2,g2<g/\rest=124::tx q/\Pp g2 2 q e2/\e=.alt (Rx.rowOf (L.map (·.2))) e2):=by
 cases g with
 |zero=>exact absurd h (by simp[Pp])
 |succ g=>
  rcases h with h|⟨r,b,q,k,e2,rfl,c,d,f,i,rfl⟩
  ·obtain⟨g',L,j,rfl,a,rfl⟩:=y2l h;exact⟨g',L,[],by omega,by simp,a,Or.inl ⟨rfl,rfl⟩⟩
  obtain⟨g',L,j,rfl,a,rfl⟩:=y2l f;exact⟨g',L,124::tx q,by omega,by rw[q2a,q3H,y3N c d];rfl,a,Or.inr ⟨q,e2,g,by omega,rfl,i,rfl⟩⟩
theorem PL.keep (h:PL w0 v S vk ks w) (hg:w.grownBy w5 row) (hn:∀k,vk.ownBlock=some k->row≠some k):PL w0 v S vk ks w5:=⟨h.o.grown hg hn,h.s⟩
theorem PL.below (h:PL w0 v S vk ks w) (hW:Below w.heap.size w w5):PL w0 v S vk ks w5:=⟨h.o.below hW,h.s⟩
theorem y1O (l:List Rx) (e:Rx):(l.foldr .alt e).sz=(l.map Rx.sz).sum+e.sz:=by
 induction l with
 |nil=>simp
 |cons x l ih=>simp only[List.foldr_cons,Rx.sz,ih,List.map_cons,List.sum_cons];omega
def strSz:Value->Nat
 |.string b=>b.size
 |_=>0
structure PtS (tb base:Nat) (T:Nat->Nd) (N:Nat) (v vr:Value) (S:Nat->Prop) (w:World) (f P Kt L:Nat) (e:Rx) (p:ByteArray) (vw:Value) (rs:List Nat) (es:List Rx) (T':Nat->Nd) (N':Nat) (v':Value) (S':Nat->Prop) (w':World):Prop where
 gs:GS tb base T N v vr S w T' N' v' S' w'
 pl:PL w v' S' vw rs w'
 ch:Chain T' N' N rs es N'
 fi:Chain.FineL T' rs es
 tk:∃g ts e',g<=f/\p.data.toList=tx ts/\Pp g 2 ts e'/\es.foldr .alt e'=e
 ln:p.size<=40
 bd:N'+ndB p.size P<=N+Kt
 nr:rs.length+p.size<=L
structure RwS (tb base:Nat) (T:Nat->Nd) (N:Nat) (v vr:Value) (S:Nat->Prop) (w:World) (P i:Nat) (A:List (List Tq × Rx)) (T':Nat->Nd) (N':Nat) (vw:Value) (rs:List Nat) (vk:Value) (ks:List Nat) (T2:Nat->Nd) (N2:Nat) (v2:Value) (S2:Nat->Prop) (w2:World):Prop where
 gs:GS tb base T N v vr S w T2 N2 v2 S2 w2
 pk:PL w v2 S2 vk ks w2
 pr:PL w v2 S2 vw rs w2
 ds:∀k,vw.ownBlock=some k->vk.ownBlock≠some k
 ch:Chain T2 N2 N' ks (A.map (·.2)) N2
 od:∀j,j<N'->T2 j=T' j
 ix:i=(tx ((A.map (·.1)).flatten)).length
 bd:N2<=N'+ndB i P
 le:N'<=N2
variable {T T' : Nat → Nd}
theorem RwS.first (P:Nat) (g:GS tb base T N v vr S w T' N' v' S' w') (p:PL w v' S' vw rs w'):RwS tb base T N v vr S w P 0 [] T' N' vw rs (.slice none 0 0) [] T' N' v' S' w':=
 ⟨g,PL.nil _ _ _ _,p,λk _ e=>(by cases e),Chain.nil N',λ_ _=>rfl,rfl,by omega,Nat.le_refl _⟩
theorem RwS.more {tb base:Nat}{T:Nat->Nd}{N:Nat}{v vr:Value}{S:Nat->Prop}{w:World}{P i:Nat}{A:List (List Tq × Rx)}{T':Nat->Nd}{N':Nat}{vw:Value}{rs:List Nat}{vk:Value}{ks:List Nat}{T2:Nat->Nd}{N2:Nat}{v2:Value}{S2:Nat->Prop}{w2:World} (h:RwS tb base T N v vr S w P i A T' N' vw rs vk ks T2 N2 v2 S2 w2) (htw:tb<w.heap.size)
  {x:List Tq × Rx}{T3:Nat->Nd}{n:Nat}{v3:Value}{S3:Nat->Prop}{w3 w4 w5:World} (h1:TW tb base T3 (n+1) (n+1) v3 vr S3 w3) (h2:TF tb v2 v3 S2 S3 w2 w3) (h3:Tre T3 (n+1)) (h4:Fine T3 (n+1) N2 n x.2) (h5:∀i,i<N2->T3 i=T2 i) (h6:n+1<=N2+ndB (tx x.1).length P) (hW:Below w3.heap.size w3 w4)
  {g len cap:Nat} (hg:w4.grownBy w5 vk.ownBlock) (ho:OwnL w.heap.size (.slice (some ⟨g,0,none⟩) len cap) (ks.map (λx:Nat=>(x:Int))++[(n:Int)]) w5) (hb:vk.ownBlock=some g\/g=w4.heap.size):
  RwS tb base T N v vr S w P (i+(tx x.1).length) (A++[x]) T' N' vw rs (.slice (some ⟨g,0,none⟩) len cap) (ks++[n]) T3 (n+1) v3 S3 w5:=by
 have d:=(h.gs.made h1 h2 h3 h4 h5).below hW;have f:=(h.pk.tf htw h2).below hW;have b:=(h.pr.tf htw h2).below hW;obtain⟨G5,l⟩:=f.app d htw hg ho hb;refine⟨G5,l,b.keep hg (λk a e=>h.ds k a e),λk a e=>?_,?_,λj m=>?_,?_,?_,?_⟩
 ·have e':g=k:=Option.some.inj e;rcases hb with c|c
  ·exact h.ds k a (e'▸c)
  have:=(b.o.blk k a).2;omega
 ·rw[List.map_append];exact h.ch.more h.gs.r.w h5 h4
 ·rw[h5 j (by have:=h.le;omega)];exact h.od j m
 ·rw[h.ix,List.map_append,List.flatten_append,q2a,List.length_append];simp
 ·have:=h.bd;rw[q4F];omega
 have:=h.le;have:=h4.ge;omega
theorem y1J {p:ByteArray}{L:List (List Tq × Rx)}{A B:List (List Tq × Rx)}{x:List Tq × Rx}{rest:List UInt8} (hp:p.data.toList=tx ((L.map (·.1)).flatten)++rest) (hL:L=A++x::B) {i n:Nat} (hi:i=(tx ((A.map (·.1)).flatten)).length) (hn:n=(tx ((L.map (·.1)).flatten)).length):
  (p.extract i n).data.toList=tx x.1++tx ((B.map (·.1)).flatten)/\(p.extract i (i+(tx x.1).length)).data.toList=tx x.1/\i+(tx x.1).length<=n/\n<=p.size:=by
 have e:tx ((L.map (·.1)).flatten)=tx ((A.map (·.1)).flatten)++(tx x.1++tx ((B.map (·.1)).flatten)):=by
  rw[hL,List.map_append,List.flatten_append,q2a,q4r]
 have a:n=i+((tx x.1).length+(tx ((B.map (·.1)).flatten)).length):=by rw[hn,e,hi];simp
 have b:p.size=n+rest.length:=by
  have:p.data.toList.length=n+rest.length:=by rw[hp,List.length_append,hn]
  simpa using this
 refine⟨?_,?_,by omega,by omega⟩
 ·rw[q2J,hp,hn,List.take_left,e,hi,List.drop_left]
 rw[y0M,hp,e,hi,List.append_assoc,List.drop_left,List.append_assoc,List.take_left]
theorem q9q (ih:∀g,g<f->∀ts e,Pp g 0 ts e->PcOK ts e) {ts:List Tq}{e:Rx} (h:Pp f 2 ts e):PtOK ts e:=by
 intro tb base s T N v vr S w aY hs hp;obtain⟨P,hP⟩:=nam e.sz;rw[<-hP]at hp ⊢;have a5:=hyd hP;have ae:=hp.t.c.lt;have aG:=hp.b;have hb:=hp.s;have hN:=hp.n;have a3:=hyd ih;obtain⟨Kt,ay⟩:=nam (ndB s.size P);obtain⟨sL,hsL⟩:=nam s.size;have aN:Hid (PtS tb base T N v vr S w f P Kt sL e s (.slice none 0 0) [] [] T N v S w):=⟨GS.first hp,PL.nil _ _ _ _,Chain.nil N,λj k x h=>by simp at h,⟨f,ts,e,Nat.le_refl _,aY,h,rfl⟩,hs,by rw[ay];omega,by simp[hsL]⟩;rw[<-ay]at hN ⊢;have bo:sL<=40:=by omega
 clear ih h aY hp hP ay hsL;go_enter Tryz.func91,Tryz.ntmps91;go_wp2_with fail
 go_loopw [1,5] (λpv rv w'=>∃(p:ByteArray) (ra:Option Addr) (M rc:Nat) (rs:List Nat) (es:List Rx) (T':Nat->Nd) (N':Nat) (v':Value) (S':Nat->Prop),pv=.string p/\rv=.slice ra M rc/\Hid (M=rs.length)/\PtS tb base T N v vr S w f P Kt sL e p (.slice ra M rc) rs es T' N' v' S' w') (λpv _ _=>strSz pv)
 ·exact⟨s,none,0,0,[],[],T,N,v,S,rfl,rfl,rfl,aN.out⟩
 clear aN;obtain⟨p,ra,M,rc,rs,es,T',N',v',S',rfl,rfl,aw,PS⟩:=hrel;obtain⟨g,ts,e',hg,Z,aV,aB⟩:=PS.tk;obtain⟨g',L,rest,bx,aZ,hL,D⟩:=y2E aV;rw[aZ]at Z;have an:=PS.ln;obtain⟨n,hn⟩:=nam ((tx ((L.map (·.1)).flatten)).length);have aX:p.size=n+rest.length:=by
  have:p.data.toList.length=n+rest.length:=by rw[Z,List.length_append,hn]
  simpa using this
 have aa:∀c r',rest=c::r'->c=124:=λc r' e1=>by
  rcases D with ⟨h1,_⟩|⟨q,e2,g2,_,h1,_⟩
  ·rw[h1]at e1;cases e1
  rw[h1]at e1;exact(List.cons.inj e1).1.symm
 have ac:=y3o L hL p.data.toList 0 (L.length+1) rest (by rw[List.drop_zero];exact Z) aa (by omega);rw[Nat.zero_add,<-hn]at ac;have HR:Hid (∀w',Calls Tryz.prog 146 #[.string p] w' λe w''=>e=.returned (.int .i64 n)/\Below w'.heap.size w' w''):=λw'=>y2z p n _ w' an ac
 have C:=hyd PS;have bw:=PS.bd;have ap:∀x∈L,x.2.sz<=P:=λx hx=>by
  rw[a5.out,<-aB,y1O];have h1:x.2.sz<=((L.map (·.2)).map Rx.sz).sum:=y3l (List.mem_map.2 ⟨x,hx,rfl⟩);have h2:=Rx.rowOf_sz (L.map (·.2));rcases D with ⟨_,h3⟩|⟨q,e2,g2,_,_,_,h3⟩
  ·rw[h3];omega
  rw[h3];simp only[Rx.sz];omega
 have HL:Hid (∀x∈L,PcOK x.1 x.2/\Pp g' 0 x.1 x.2/\x.2.sz<=P):=λx hx=>⟨a3.out g' (by omega) _ _ (hL x hx),hL x hx,ap x hx⟩
 have R:=hyd2 Z hn;have av:=hyd D;have aO:=hyd aB;have bp:n<=40:=by omega
 have be:ndB p.size P=ndB n P+ndB rest.length P:=by rw[aX,q4F]
 have ao:(p.size:Int)=(n:Int)+(rest.length:Int):=by omega
 obtain⟨rL,aF⟩:=nam rest.length;rw[<-aF]at aX be ao;have aQ:=hyd aF;clear PS Z aV aB hL D hn ac aa aZ ap aF;go_wp2_with fail;refine(HR.out _).mono ?_;rintro ee w1 ⟨rfl,aA⟩;have aI:=hyd (RwS.first P (C.out.gs.below aA) (C.out.pl.below aA));clear HR;go_wp2_with fail
 go_loopw [7,8] (λkv iv w2=>∃(i:Nat) (ka:Option Addr) (kl kc:Nat) (A B:List (List Tq × Rx)) (ks:List Nat) (T2:Nat->Nd) (d:Nat) (v2:Value) (S2:Nat->Prop),iv=.int .i64 i/\kv=.slice ka kl kc/\Hid ((ks.map (λx:Nat=>(x:Int))).length=kl)/\Hid (L=A++B)/\RwS tb base T N v vr S w P i A T' N' (.slice ra M rc) rs (.slice ka kl kc) ks T2 d v2 S2 w2) (λ_ iv _=>41-(intOf iv).toNat)
 ·exact⟨0,none,0,0,[],L,[],T',N',v',S',rfl,rfl,rfl,rfl,aI.out⟩
 clear aI aA;obtain⟨i,ka,kl,kc,A,B,ks,T2,d,v2,S2,rfl,rfl,Q,z,RS⟩:=hrel;rcases B with _|⟨x,B⟩
 ·have ax:L=A:=by have:=z.out;simpa using this
  have bb:i=n:=by rw[RS.ix,R.out.2,ax]
  subst bb;have bA:¬(i:Int)<i:=by omega
  have ak:=RS.ch.le;have bv:=C.out.gs.l;have ab:=C.out.ch.le;have bi:=RS.bd;have a8:d<=1000000:=by omega
  have aT:ks.length<=1000:=by
   rw[ak.2.1,List.length_map];have h2:=q4O (f:=g') (L:=A) (λy hy=>(HL.out y (by rw[z.out];simp[hy])).2.1);rw[<-RS.ix]at h2;omega
  have aJ:Hid (Calls Tryz.prog 148 #[.pointer (some ⟨tb,0,none⟩),.int .i64 (1:Nat),.slice ka kl kc] wr λe w'=>∃v3,e=.returned (.int .i64 (d:Int))/\GS tb base T N v vr S w (addN T2 d 1 ks (λ_=>false)) (d+1) v3 (λk=>S2 k\/(Value.slice ka kl kc).ownBlock=some k) w'/\TF tb v2 v3 S2 S2 wr w'):=
   RS.gs.node (KiL.of RS.pk.o) (λk I=>⟨(RS.pk.o.blk k I).1,(RS.pk.o.blk k I).2,(RS.pk.s k I).1⟩) aG hb 1 (by omega) (by omega) (λk I=>by have:=ak.2.2.1 k I;omega) RS.ch.nodup a8 aT
  have hF:=q5V RS.gs.r.w RS.ch;have Y:∀j,j<N'->addN T2 d 1 ks (λ_=>false) j=T' j:=λj hj=>by
   rw[q1g (by have:=RS.le;omega) (λhm=>by have:=(ak.2.2.1 j hm).1;omega)];exact RS.od j hj
  obtain⟨er,aC⟩:=nam (Rx.rowOf (A.map (·.2)));rw[<-aC]at hF;have ag:=hyd (C.out.ch.more C.out.gs.r.w Y hF);have aH:=hyd (q5x (λk I=>(ab.2.2.1 k I).2) ab.2.1 C.out.fi Y hF);have au:=hyd2 RS.pr RS.ds;have aj:Hid ((rs.map (λx:Nat=>(x:Int))).length=M):=by show _=_;rw[List.length_map,aw.out]
  have aU:=C.out.nr;have bm:M<=40:=by rw[aw.out];omega
  have aP:Hid (er=Rx.rowOf (L.map (·.2))):=by show _=_;rw[aC,ax]
  have aK:=hyd aU;clear RS ak hF Y aC aT ab aU Q z ax C;go_wp2_with fail;refine aJ.out.mono ?_;rintro ee O ⟨v4,rfl,G4,af⟩;have E:=box_bel O (.cells #[.int .i64 (d:Int)] 3);have G5:=G4.below E;have P5:=((au.out.1.tf ae af).add (λk I=>au.out.2 k I)).below E;have U:=P5.o;have X:(O.alloc (.cells #[.int .i64 (d:Int)] 3)).cell? ⟨O.heap.size,0,none⟩=some (.int .i64 (d:Int)):=by rw[World.cell?_alloc_new];rfl
  have V:=G5.f.b.size;have ah:=hyd2 G5 P5;clear aJ G4 af G5 P5 E au;rcases av.out with ⟨J,W⟩|⟨q,e2,g2,bz,J,aW,W⟩
  ·have bf:rL=0:=by rw[aQ.out,J];rfl
   subst bf;have He:Hid (es.foldr .alt er=e):=by show _=_;rw[<-aO.out,W,aP.out]
   clear J W ao;go_wp2_with (first|(at_builtin;refine Bm.wpList_append_int (by rfl) _ _ (by rfl) w.heap.size (.slice ra M rc) _ (by rfl) U (by rw[aj.out];omega) O.heap.size (d:Int) (by rfl) X V _ rfl ?_;rw[aj.out];intro g cap w5 G u H aD;refine Stop.out ?_));refine⟨?_⟩;obtain⟨G6,P6⟩:=ah.out.2.app ah.out.1 ae u G H;have bn:=aK.out;have a4:Hid (Calls Tryz.prog 148 #[.pointer (some ⟨tb,0,none⟩),.int .i64 (2:Nat),.slice (some ⟨g,0,none⟩) (M+1) cap] w5 λe w'=>∃v3,e=.returned (.int .i64 ((d+1:Nat):Int))/\GS tb base T N v vr S w (addN (addN T2 d 1 ks (λ_=>false)) (d+1) 2 (rs++[d]) (λ_=>false)) (d+1+1) v3 (λk=>(S2 k\/(Value.slice ka kl kc).ownBlock=some k)\/(Value.slice (some ⟨g,0,none⟩) (M+1) cap).ownBlock=some k) w'/\TF tb v4 v3 (λk=>S2 k\/(Value.slice ka kl kc).ownBlock=some k) (λk=>S2 k\/(Value.slice ka kl kc).ownBlock=some k) w5 w'):=
    G6.node (KiL.of P6.o) (λk I=>⟨(P6.o.blk k I).1,(P6.o.blk k I).2,(P6.s k I).1⟩) aG hb 2 (by omega) (by omega) ag.out.le.2.2.1 ag.out.nodup (by omega) (by simp;omega)
   have a2:Hid (Fine (addN (addN T2 d 1 ks (λ_=>false)) (d+1) 2 (rs++[d]) (λ_=>false)) (d+1+1) N (d+1) e):=by
    show Fine _ _ _ _ _;rw[<-He.out];exact(q4T G6.r.w ag.out aH.out (by simp)).eq (q8x es er)
   clear G6 P6 G u H aD U X V bn;go_wp2_with fail;refine a4.out.mono ?_;rintro ee w6 ⟨v6,rfl,G6,_⟩;go_wp2_with fail;go_ret;exact G6.post a2.out (by omega)
  have bj:rL=(tx q).length+1:=by rw[aQ.out,J];simp
  have bE:ndB rL P=ndB (tx q).length P+ndB 1 P:=by rw[bj,q4F]
  have bF:=q8a (P:=P) (Nat.le_refl 1);have hx:(p.extract (i+1) p.size).data.toList=tx q:=by
   rw[q3u,R.out.1,J,R.out.2,<-List.drop_drop,List.drop_left];rfl
  have K:(p.extract (i+1) p.size).size=(tx q).length:=by simp;omega
  have HX:=hyd2 hx K;have He:Hid ((es++[er]).foldr .alt e2=e):=by
   show _=_;rw[List.foldr_append,<-aO.out,W,aP.out];rfl
  have a6:=hyd aW;clear J W aW hx K;go_wp2_with (first|(at_builtin;refine Bm.wpList_append_int (by rfl) _ _ (by rfl) w.heap.size (.slice ra M rc) _ (by rfl) U (by rw[aj.out];omega) O.heap.size (d:Int) (by rfl) X V _ rfl ?_;rw[aj.out];intro g cap w5 G u H aD));obtain⟨G6,P6⟩:=ah.out.2.app ah.out.1 ae u G H;go_roundw
  ·refine⟨p.extract (i+1) p.size,some ⟨g,0,none⟩,M+1,cap,rs++[d],es++[er],addN T2 d 1 ks (λ_=>false),d+1,v4,_,?_,rfl,by show _=_;have:=aw.out;simp[this],⟨G6,P6,ag.out,aH.out,⟨g2,q,e2,by omega,HX.out.1,a6.out,He.out⟩,by rw[HX.out.2];omega,by rw[HX.out.2];omega,by rw[HX.out.2];have:=aK.out;simp;omega⟩⟩
   first|rfl|(congr 2;omega)
  show(p.extract (i+1) _).size<p.size;simp;omega
 obtain⟨s1,s2,s3,s4⟩:=y1J R.out.1 z.out RS.ix R.out.2;obtain⟨aR,az,am⟩:=HL.out x (by rw[z.out];simp);obtain⟨m,hm⟩:=nam ((tx x.1).length);have bc:=q8F az;rw[<-hm]at s2 s3 bc;have bD:(i:Int)<n:=by omega
 have aE:=q8E az (tx ((B.map (·.1)).flatten)) (by
  have:=q5w (f:=g') (L:=B) (r:=[]) (λy hy=>(HL.out y (by rw[z.out];simp[hy])).2.1) (λc r' e=>by cases e);have h':NoSuf (tx ((B.map (·.1)).flatten)):=by simpa using this
  exact h')
 rw[<-s1,<-hm]at aE;have aM:Hid (∀w',Calls Tryz.prog 112 #[.string (p.extract i n)] w' λe w''=>e=.returned (.int .i64 m)/\Below w'.heap.size w' w''):=λw'=>q4y _ m w' (q1v p _ _ an) aE
 have K:(p.extract i (i+m)).size=m:=by simp;omega
 have bq:=q4F i m P;have br:ndB (i+m) P<=ndB n P:=by
  obtain⟨dd,a9⟩:∃dd,n=i+m+dd:=⟨n-(i+m),by omega⟩;have:=q4F (i+m) dd P;rw[a9];omega
 have bt:=y1B (L:=m) am;have bi:=RS.bd;have aL:Hid (∀w',Below wr.heap.size wr w'->Calls Tryz.prog 147 #[.pointer (some ⟨tb,0,none⟩),.string (p.extract i (i+m))] w' (GrPost tb base T2 d v2 vr S2 x.2 (ndB m x.2.sz) w')):=λw' hW=>by
  have:=aR tb base (p.extract i (i+m)) T2 d v2 vr S2 w' s2 (by omega) (by rw[K];exact(RS.gs.below hW).pre aG hb (by omega));rw[K]at this;exact this
 have ai:=hyd RS;have Hm:=hyd hm;have bu:(i:Int)+(m:Int)<=(p.size:Int):=by omega
 have bB:(i:Int)<=n:=by omega
 have bC:kl<=40:=by
  have h1:=Q.out;rw[List.length_map,RS.ch.le.2.1,List.length_map]at h1;have h2:=q4O (f:=g') (L:=A) (λy hy=>(HL.out y (by rw[z.out];simp[hy])).2.1);rw[<-RS.ix]at h2;omega
 generalize ndB m x.2.sz=Kx at *;clear s1 s2 aR az am aE K RS hm;go_wp2_with fail;refine(aM.out _).mono ?_;rintro ee w3 ⟨rfl,aS⟩;have al:=hyd (aL.out w3 aS);clear aM aL;go_wp2_with fail;refine al.out.mono ?_;rintro ee O ⟨T3,a,v3,S3,rfl,a1,af,a0,f4,aq,bG⟩;have E:=box_bel O (.cells #[.int .i64 (a:Int)] 3);have F:=(TF.of v2 S2 (Nat.le_of_lt ai.out.gs.t.c.lt) aS).trans af;have U:=(ai.out.pk.tf ae F).o.below E;have X:(O.alloc (.cells #[.int .i64 (a:Int)] 3)).cell? ⟨O.heap.size,0,none⟩=some (.int .i64 (a:Int)):=by rw[World.cell?_alloc_new];rfl
 have V:w.heap.size<=(O.alloc (.cells #[.int .i64 (a:Int)] 3)).heap.size:=by
  have h1:=ai.out.gs.f.b.size;have h2:=F.b.size;have h3:=E.size;omega
 have ar:Hid (∀g cap w5,OwnL w.heap.size (.slice (some ⟨g,0,none⟩) (kl+1) cap) (ks.map (λx:Nat=>(x:Int))++[(a:Int)]) w5->(O.alloc (.cells #[.int .i64 (a:Int)] 3)).grownBy w5 (Value.slice ka kl kc).ownBlock->((Value.slice ka kl kc).ownBlock=some g\/g=(O.alloc (.cells #[.int .i64 (a:Int)] 3)).heap.size) ->
   RwS tb base T N v vr S w P (i+m) (A++[x]) T' N' (.slice ra M rc) rs (.slice (some ⟨g,0,none⟩) (kl+1) cap) (ks++[a]) T3 (a+1) v3 S3 w5):=λg cap w5 h1 h2 h3=>by
  have:=ai.out.more ae a1 F a0 f4 aq (by rw[<-Hm.out];omega) E h2 h1 h3;rw[<-Hm.out]at this;exact this
 clear al a1 af a0 f4 aq F E;go_wp2_with (first|(at_builtin;refine Bm.wpList_append_int (by rfl) _ _ (by rfl) w.heap.size (.slice ka kl kc) _ (by rfl) U (by rw[Q.out];omega) O.heap.size (a:Int) (by rfl) X V _ rfl ?_;rw[Q.out];intro g cap w5 G u H aD));have a7:=ar.out g cap w5 G u H;go_roundw
 ·exact⟨i+m,some ⟨g,0,none⟩,kl+1,cap,A++[x],B,ks++[a],T3,a+1,v3,S3,by go_num,rfl,by show _=_;have:=Q.out;simp at this;simp[this],by show _=_;rw[z.out];simp,a7⟩
 simp[intOf];omega
theorem y0l (ih:∀g,g<f->(∀ts e,Pp g 0 ts e->PcOK ts e)/\(∀ts e,Pp g 2 ts e->PtOK ts e)) {ts:List Tq}{e:Rx} (h:Pp f 0 ts e):PcOK ts e:=by
 by_cases i:e.sz=0
 ·exact q7K h i
 cases f with
 |zero=>exact absurd h (by simp[Pp])
 |succ f=>
  have j:=h;rcases h with ⟨q,rfl,m,r,rfl⟩|⟨a,inn,b,e0,rfl,ha,n,u,o,k,rfl⟩|⟨q,t,e0,rfl,m,y,hs,rfl⟩
  ·have c:tx [q]=q.t.w:=by rw[q3H,q8z,List.append_nil]
   refine q4v j i (by rw[c];exact q7n m r) (λtb base s T N v vr S w d hs k=>?_);have x:1<=s.size:=by
    have:=q8F j;rw[<-d]at this;simpa using this
   have z:=q8a (P:=(Rx.lit q.f).sz) x;exact(y0x m r tb base s T N v vr S w (by rw[d,c]) hs (k.less (by omega))).mono (λee w' h=>h.eq (SemEq.refl _) (by omega))
  ·have p:e0.nz=e0:=by
    rw[Rx.nz_sz]at i;unfold Rx.nz;rw[if_neg i]
   have c:tx (a::(inn++[b]))=40::(tx inn++[41]):=by rw[q3H,q2a,q3H,q8z,y3u ha n,y3n u o];simp
   rw[p]at j i ⊢;refine q4v j i (by rw[c];exact q8l k) (λtb base s T N v vr S w d hs l=>?_);exact y1M ((ih f (by omega)).2 _ _ k) tb base s T N v vr S w (by rw[d,c]) hs l k
  exact q9j m y hs ((ih f (by omega)).1 _ _ m) j i
theorem y1L:∀f,(∀ts e,Pp f 0 ts e->PcOK ts e)/\(∀ts e,Pp f 2 ts e->PtOK ts e):=by
 intro f
 induction f using Nat.strongRecOn with
 |ind f ih=>exact⟨λts e h=>y0l ih h,λts e h=>q9q (λg a=>(ih g a).1) h⟩
theorem TW.root (h:TW tb base T N M v vr S w) (htb:tb<base) (vr':Value):TW tb base T N M v vr' S (w.setCell ⟨tb,1,none⟩ vr'):=by
 obtain⟨m,d,g⟩:=h.o;have b:∀q,q≠tb->(w.setCell ⟨tb,1,none⟩ vr').heap[q]?=w.heap[q]?:=λq f=>Below.heap_setCell w ⟨tb,1,none⟩ _ q (λe=>f e)
 exact⟨h.c.set 1 (by simp) vr',⟨m,q0R d (λk a=>b k (by have:=(d.lt k a).1;omega)),g.move (λk a=>b k (h.s k a).2.1) (λ_ h=>h)⟩,λk a=>⟨by rw[World.size_setCell];exact(h.s k a).1,(h.s k a).2⟩⟩
structure TRm (tb:Nat) (T:Nat->Nd) (N g cap:Nat) (m:Lie) (w:World):Prop where
 c:w.cell? ⟨tb,0,none⟩=some (.slice (some ⟨g,0,none⟩) N cap)
 r:w.cell? ⟨tb,1,none⟩=some (.int .i64 ((N:Int)-1))
 n:∀i,i<N->w.rangeAt g (i*5) (ndL T m i)/\(m.vin i).oneCell'=true/\IL (m.ka i) (fun k=>(((T i).kids.getD k 0:Nat):Int)) (T i).kids.length w/\((T i).kind=0->∃ia ic,m.vin i=.slice ia 256 ic/\BR ia (T i).inn 256 w)
theorem TRm.tr {m:Lie} (h:TRm tb T N g cap m w):TR tb T N w:=
 ⟨_,cap,h.c,λi a=>⟨g,0,m.vin i,m.ka i,m.kc i,rfl,by rw[Nat.zero_add];exact(h.n i a).1,(h.n i a).2.1,(h.n i a).2.2.1,(h.n i a).2.2.2⟩⟩
structure TRX (X:Nat->Prop) (tb:Nat) (T:Nat->Nd) (N g cap:Nat) (m:Lie) (w:World):Prop where
 s:∀k,X k->k<w.heap.size
 t:∀w',AgX X w w'->w.heap.size<=w'.heap.size->TRm tb T N g cap m w'
theorem TRX.keep {m:Lie} (h:TRX X tb T N g cap m w) (ha:AgX X w w') (hs:w.heap.size<=w'.heap.size):TRX X tb T N g cap m w':=
 ⟨λk b=>by have:=h.s k b;omega,λw2 a c=>h.t w2 (ha.trans a) (by omega)⟩
theorem q9Z (w:World):(Instr.build 116 #[]).run Tryz.prog w=.ok (.agg #[.slice none 0 0,.int .i64 0]) w:=by kernel_rfl
def GwPost (w:World) (e:Rx) (ee:Ending) (w':World):Prop:=
 ∃T N X g cap m,ee=.returned (.pointer (some ⟨w.heap.size,0,none⟩))/\Tre T N/\1<=N/\N<=20000/\Good T N 0 (N-1) e/\TRX X w.heap.size T N g cap m w'/\(∀k,X k->w.heap.size<=k)/\Below w.heap.size w w'/\w.heap.size<w'.heap.size
theorem y1K (h:Pp f 2 ts e) (s:ByteArray) (hts:s.data.toList=tx ts) (hs:s.size<=40) (he:e.sz<=96) (w:World):
  Calls Tryz.prog 39 #[.string s] w (GwPost w e):=by
 have V:=q9Z;obtain⟨W,t⟩:=nam (w.alloc (.cells #[.slice none 0 0,.int .i64 0] 116));have L:=hyd t;have Y:W.heap.size=w.heap.size+1:=by rw[t];simp
 have Q:Below w.heap.size w W:=by rw[t];exact box_bel _ _
 have r:TC w.heap.size [.slice none 0 0,.int .i64 0] W:=by rw[t];exact TC.boxed w [.slice none 0 0,.int .i64 0] _
 have U:ndB s.size e.sz+2<=20000:=by
  unfold ndB;have l:s.size*max e.sz 1<=40*96:=Nat.mul_le_mul hs (by omega);omega
 have H:=(y1L f).2 ts e h w.heap.size (w.heap.size+1) s (λ_=>newN 0 []) 0 (.slice none 0 0) (.int .i64 0) (λ_=>False) W hts hs ⟨TW.new _ _ _ _ r _,Tre.zero _,by omega,by omega,by omega⟩;generalize ndB s.size e.sz+2=K at *;have E:Hid (Calls Tryz.prog 91 #[.pointer (some ⟨w.heap.size,0,none⟩),.string s] W (GrPost w.heap.size (w.heap.size+1) (λ_=>newN 0 []) 0 (.slice none 0 0) (.int .i64 0) (λ_=>False) e K W)):=H;clear H t hts h r;go_enter Tryz.func39,Tryz.ntmps39;go_wp2_with fail;rw[<-L.out];refine E.out.mono ?_;rintro ee w1 ⟨T,n,v,S,rfl,D,tf,tr,G,_,ln⟩;have c1:=D.c 1 _ rfl;have q:Hid (TW w.heap.size (w.heap.size+1) T (n+1) (n+1) v (.int .i64 (n:Int)) S (w1.setCell ⟨w.heap.size,1,none⟩ (.int .i64 (n:Int)))):=D.root (by omega) _;have F:Hid (Tre T (n+1)/\Good T (n+1) 0 n e):=⟨tr,G.toGood⟩;have d:Hid (TF w.heap.size (.slice none 0 0) v (λ_=>False) S W w1):=tf;obtain⟨M,N⟩:=c1;clear D tf tr G E V;go_wp2_with fail;go_ret;have X:=d.out.b.size;have hs2:(w1.setCell ⟨w.heap.size,1,none⟩ (.int .i64 (n:Int))).heap.size=w1.heap.size:=World.size_setCell ..;obtain⟨g,cap,x⟩:=q.out.form;obtain⟨m,o1,C⟩:=q.out.o;refine⟨T,n+1,λk=>k=w.heap.size\/v.ownBlock=some k\/S k,g,cap,m,rfl,F.out.1,by omega,by omega,F.out.2,⟨λk a=>?_,λw' B z=>?_⟩,λk a=>?_,?_,by omega⟩
 ·rcases a with h|h|h
  ·omega
  ·exact(q.out.blk k h).2
  exact(q.out.s k h).1
 ·have I:=q.out.keep z (λk a=>B k a);have A:=q0R o1 (λk a=>B k (Or.inr (Or.inl a)));rw[x]at A;have c0:=(I.c 0 _ rfl).1;rw[x]at c0;refine⟨c0,?_,λi y=>⟨λj u J=>?_,C.o i y,C.k i y w' (λk a=>B k (Or.inr (Or.inr a))),λP=>?_⟩⟩
  ·rw[(I.c 1 _ rfl).1];congr 2;omega
  ·have R:j<5:=(List.getElem?_eq_some_iff.1 J).1;rw[A.cellAt (i*5+j) (by omega),q2q (q2V T m) i j y R];exact J
  obtain⟨Z,ic,O,e2⟩:=C.i i y y P;exact⟨Z,ic,O,e2 w' (λk a=>B k (Or.inr (Or.inr a)))⟩
 ·rcases a with h|h|h
  ·omega
  ·rcases d.out.o k h with l|l
   ·cases l
   omega
  rcases d.out.s k h with l|l
  ·exact l.elim
  omega
 exact(Q.trans (d.out.b)).setCell (p:=⟨w.heap.size,1,none⟩) (Nat.le_refl _) _
structure SF (sb:Nat) (w w':World):Prop where
 b:Below sb w w'
 k:∀k,k<w.heap.size->k≠sb->w'.heap[k]?=w.heap[k]?
theorem SF.of (hb:sb<=w.heap.size) (h:Below w.heap.size w w'):SF sb w w':=⟨h.mono hb,λk a _=>h.block k a⟩
theorem SF.trans (a:SF sb w w1) (b:SF sb w1 w2):SF sb w w2:=
 ⟨a.b.trans b.b,λk d c=>by rw[b.k k (by have:=a.b.size;omega) c,a.k k d c]⟩
theorem SF.set (h:SF sb w w') (q:Nat) (u:Value):SF sb w (w'.setCell ⟨sb,q,none⟩ u):=
 ⟨h.b.setCell (p:=⟨sb,q,none⟩) (Nat.le_refl _) u,λk c a=>by
  rw[Below.heap_setCell w' ⟨sb,q,none⟩ _ k (λe=>a e)];exact h.k k c a⟩
def ixI (es:Nat->Rx) (Ts:Nat->Nat->Nd) (r m:Nat):Int:=if (Ts r m).kind=0 then (ixR es Ts r m:Int) else 0
structure GX (X:Nat->Prop) (gb P R:Nat) (tr ad cp:Nat->Nat) (ms:Nat->Lie) (Ts:Nat->Nat->Nd) (Ns:Nat->Nat) (es:Nat->Rx) (w:World):Prop where
 s:∀k,X k->k<w.heap.size
 t:∀w',AgX X w w'->w.heap.size<=w'.heap.size->∃a c,w'.cell? ⟨gb,0,none⟩=some (.slice a R c)/\∀r,r<R->∃b o,a=some ⟨b,o,none⟩/\w'.cell? ⟨b,o+r,none⟩=some (.pointer (some ⟨tr r,0,none⟩))/\TRm (tr r) (Ts r) (Ns r) (ad r) (cp r) (ms r) w'
 p:∀w',AgX X w w'->w.heap.size<=w'.heap.size->∃a c,w'.cell? ⟨gb,1,none⟩=some (.slice a P c)
 i:∀w',AgX X w w'->w.heap.size<=w'.heap.size->∃a c,w'.cell? ⟨gb,3,none⟩=some (.slice a R c)/\∀r,r<R->∃b o ra rc,a=some ⟨b,o,none⟩/\w'.cell? ⟨b,o+r,none⟩=some (.slice ra (Ns r) rc)/\IL ra (ixI es Ts r) (Ns r) w'
variable {ms : Nat → Lie}{tr : Nat → Nat}{Ts : Nat → Nat → Nd}{es : Nat → Rx}
theorem GX.keep {ad:Nat->Nat} (h:GX X gb P R tr ad cp ms Ts Ns es w) (ha:AgX X w w') (hs:w.heap.size<=w'.heap.size):GX X gb P R tr ad cp ms Ts Ns es w':=
 ⟨λk c=>by have:=h.s k c;omega,λw2 a b=>h.t w2 (ha.trans a) (by omega),λw2 a b=>h.p w2 (ha.trans a) (by omega),λw2 a b=>h.i w2 (ha.trans a) (by omega)⟩
theorem GX.below {ad:Nat->Nat} (h:GX X gb P R tr ad cp ms Ts Ns es w) (hW:Below w.heap.size w w'):GX X gb P R tr ad cp ms Ts Ns es w':=
 h.keep (λk a=>hW.block k (h.s k a)) hW.size
theorem q8Q (T:Nat->Nd) (N:Nat) (ix:Nat->Nat) (h k:Nat->Bool) (q:Nat):(jnR T N ix h q || jnR T N ix k q)=jnR T N ix (λm=>h m || k m) q:=by
 rw[Bool.eq_iff_iff,Bool.or_eq_true,q1X,q1X,q1X];constructor
 ·rintro (⟨m,a,b,c,d⟩|⟨m,a,b,c,d⟩)
  ·exact⟨m,a,b,by simp[c],d⟩
  exact⟨m,a,b,by simp[c],d⟩
 rintro ⟨m,a,b,c,d⟩;rcases (by simpa using c:h m=true\/k m=true)with c|c
 ·exact Or.inl ⟨m,a,b,c,d⟩
 exact Or.inr ⟨m,a,b,c,d⟩
theorem q0S {h k:Nat->Bool} (e:∀m,h m=k m) (q:Nat):jnR T N ix h q=jnR T N ix k q:=by
 rw[show h=k from funext e]
theorem q6r (q:Nat):jnR T N ix (λ_=>false) q=false:=by
 rw[Bool.eq_false_iff];intro h;obtain⟨m,_,_,c,_⟩:=q1X.1 h;cases c
def kdB (row:Bool) (b:Nat->Nat->Bool) (nl:Nat->Bool) (ks:List Nat) (m:Nat):Bool:=if row then rowB (λk=>b k m) nl ks else ks.any (λk=>b k m)
theorem y0B (row:Bool) (b:Nat->Nat->Bool) (nl:Nat->Bool) (m:Nat):kdB row b nl [] m=false:=by unfold kdB;cases row<;>rfl
theorem q8P {row:Bool}{b:Nat->Nat->Bool} (h:row=true->ks.all nl=true) (k m:Nat):kdB row b nl (ks++[k]) m=(kdB row b nl ks m || b k m):=by
 unfold kdB;cases row
 ·simp
 simp only[if_true,q2S,rowB,h rfl,Bool.true_and,Bool.and_false,Bool.or_false]
theorem q8O {b:Nat->Nat->Bool} (h:(ks.take i).all nl=false) (m:Nat):kdB true b nl ks m=kdB true b nl (ks.take i) m:=by
 unfold kdB;have:=q2S (λk=>b k m) nl (ks.take i) (ks.drop i);rw[List.take_append_drop]at this;simp only[if_true];rw[this,h];simp
theorem q1W {f g:Nat->Bool} (h:∀q,f q=g q):bl f n=bl g n:=q0o (λq _=>h q)
theorem q9R {f:Nat->Bool} (h:TC sb (bl f n) w) {j:Nat} (hj:j<n):TC sb (bl (λq=>f q || decide (q=j)) n) (w.setCell ⟨sb,j,none⟩ (.bool true)):=by
 have b:=h.set j (by rw[q0c];exact hj) (.bool true);have e:(bl f n).set j (.bool true)=bl (λq=>f q || decide (q=j)) n:=by
  refine List.ext_getElem? (λi=>?_);by_cases a:i<n
  ·rw[q0x _ a];by_cases e:i=j
   ·subst e;rw[List.getElem?_set_self (by rw[q0c];exact a)];simp
   rw[List.getElem?_set_ne (λx=>e x.symm),q0x _ a];simp[e]
  rw[List.getElem?_eq_none (by simp[q0c];omega),List.getElem?_eq_none (by rw[q0c];omega)]
 rw[e]at b;exact b
end Go.Proofs.YtoaaklhpmhjhkaaGreat
namespace Go.Proofs.YtoaaklhpmhjhkaaGreat
open Bm
structure Pn (A:Aut) (E:Nat->Nat->Bool) (nx:Nat->Nat->Int):Prop where
 e:Eqv E 256
 k:A.K=(reps E 256).length
 x:∀i b,i<A.N->b<256->nx i b=A.to i (idx E b)
 g:A.Good
 b:Bfs A
variable {A : Aut}{i k n : Nat}{E : Nat → Nat → Bool}{nx : Nat → Nat → Int}
theorem Pn.kk (h:Pn A E nx) {b:Nat} (hb:b<256):idx E b<A.K:=by
 rw[h.k];exact idx_lt h.e hb
theorem Pn.lt (h:Pn A E nx) {i b:Nat} (hi:i<A.N) (hb:b<256):nx i b<A.N:=by
 rw[h.x i b hi hb];exact(h.g.rng i _ hi (h.kk hb)).2
theorem Pn.to (h:Pn A E nx) {i b:Nat} (hi:i<=A.N) (hb:b<256):toR A.N nx i b<=A.N/\st A (toR A.N nx i b)=if i=A.N then -1 else A.to i (idx E b):=by
 have d:=q6M (λc=>h.lt c hb) hi;refine⟨d,?_⟩;unfold toR;by_cases c:i=A.N
 ·rw[if_pos (Or.inl c),if_pos c];unfold st;rw[if_pos rfl]
 have a:i<A.N:=by omega
 have j:=h.g.rng i _ a (h.kk hb);rw[if_neg c];by_cases e:nx i b<0
 ·rw[if_pos (Or.inr e)];have:=h.x i b a hb;unfold st;rw[if_pos rfl];omega
 rw[if_neg (by omega)];have f:=h.x i b a hb;unfold st;rw[if_neg (by omega)];omega
theorem y3r (hk:k<(reps E 256).length):∃b,(reps E 256)[k]?=some b/\b<256/\idx E b=k:=by
 refine⟨_,List.getElem?_eq_getElem hk,?_⟩;obtain⟨a,c,d⟩:=reps_mem (List.getElem?_eq_getElem hk);exact⟨a,by rw[idx_rep c];exact d⟩
theorem q8T (_hi:i<=A.N):ext A (st A i) []=ofR A.N A.vd i:=by
 unfold st ofR;by_cases h:i=A.N
 ·rw[if_pos h,if_pos h,ext_none _ _ (by omega)]
 rw[if_neg h,if_neg h,ext_nil]
theorem q5N (h:Pn A E nx) {t:Nat->Nat->Bool} (hT:AptT A.N A.vd nx (reps E 256) t) (hC:Clo A.N nx (reps E 256) t (A.N+1) 0) {i j:Nat} (hi:i<=A.N) (hj:j<=A.N):t i j=false<->Al A (st A i) (st A j):=by
 have r:∀k,k<A.K->∃b,(reps E 256)[k]?=some b/\b<256/\idx E b=k:=λk n=>y3r (by rw[<-h.k];exact n)
 let toN:Nat->Nat->Nat:=λi k=>toR A.N nx i ((reps E 256).getD k 0)
 have d:∀i k b,(reps E 256)[k]?=some b->toN i k=toR A.N nx i b:=λi k b x=>by
  show toR A.N nx i ((reps E 256).getD k 0)=_;rw[List.getD_eq_getElem?_getD,x];rfl
 have v:∀i k,i<=A.N->k<A.K->toN i k<=A.N/\st A (toN i k)=if i=A.N then -1 else A.to i k:=λi k hi n=>by
  obtain⟨b,p,q,F⟩:=r k n;rw[d i k b p];have:=h.to hi q;rw[F]at this;exact this
 constructor
 ·intro l w D;refine pairs_al v (λi j hi hj l=>?_) (λi j k hi hj n l=>?_) w i j D hi hj l
  ·rw[q8T hi,q8T hj];by_cases e:ofR A.N A.vd i=ofR A.N A.vd j
   ·exact e
   have:=hT.base i j hi hj (by unfold t0;exact bne_iff_ne.2 e);rw[l]at this;cases this
  obtain⟨b,p,q,_⟩:=r k n;rw[d i k b p,d j k b p];have m:∀a c,c<a->a<=A.N->t a c=false->t (toR A.N nx a b) (toR A.N nx c b)=false:=λa c y ha l=>by
   have g:=hC a c y ha (Or.inl (by omega)) l;unfold partR at g;rw[List.take_length]at g;have G:=List.any_eq_false.1 g b (List.mem_of_getElem? p);simpa using G
  rcases Nat.lt_trichotomy i j with C|H|z
  ·have g:=m j i C hj (by rw[hT.sym j i hj hi];exact l);rw[hT.sym _ _ (h.to hi q).1 (h.to hj q).1];exact g
  ·subst H;exact hT.irr _ (h.to hi q).1
  exact m i j z hi l
 intro f;cases l:t i j
 ·rfl
 exfalso;have o:=hT.sub i j hi hj l;have m:∀i j,Apt A.N A.vd nx (reps E 256) i j->¬Al A (st A i) (st A j):=λi j o=>by
  induction o with
  |base hi hj h0=>
   intro f;have:=f [] (Kd.nil A);rw[q8T hi,q8T hj]at this;unfold t0 at h0;exact(bne_iff_ne.1 h0) this
  |step hi hj x hx ih=>
   rename_i i j b;clear hx;obtain⟨k,n,B⟩:=List.mem_iff_getElem.1 x;have s:(reps E 256)[k]?=some b:=by rw[List.getElem?_eq_getElem n,B]
   have u:k<A.K:=by rw[h.k];exact n
   intro f;refine ih (λw D=>?_);have e:∀i,i<=A.N->ext A (st A i) (k::w)=ext A (st A (toN i k)) w:=λi hi=>by
    rw[(v i k hi u).2];unfold st;by_cases g:i=A.N
    ·rw[if_pos g,if_pos g,ext_none _ _ (by omega),ext_none _ _ (by omega)]
    rw[if_neg g,if_neg g];simp only[ext,Int.toNat_natCast];rw[if_neg (by omega)]
   have:=f (k::w) (D.cons u);rw[e i hi,e j hj,d i k b s,d j k b s]at this;exact this
 exact m i j o f
noncomputable def frsF (A:Aut) (i:Nat):Nat:=if i=A.N then A.N else least (alB A) i
theorem y3C (h:Pn A E nx) {t:Nat->Nat->Bool} (hT:AptT A.N A.vd nx (reps E 256) t) (hC:Clo A.N nx (reps E 256) t (A.N+1) 0) {i f:Nat} (hi:i<=A.N) (hf:f<=i) (h1:t i f=false) (h2:∀j,j<f->t i j=true):f=frsF A i:=by
 unfold frsF;by_cases e:i=A.N
 ·rw[if_pos e];rcases Nat.lt_or_ge f A.N with k|k
  ·exfalso;have d:=(q5N h hT hC hi (by omega)).1 h1;unfold st at d;rw[if_pos e,if_neg (by omega)]at d;exact h.g.live f k d.symm
  omega
 rw[if_neg e];have a:∀x,x<A.N->st A x=(x:Int):=λx l=>by unfold st;rw[if_neg (by omega)]
 have c:i<A.N:=by omega
 refine(least_eq ((alB_iff A f i).2 ?_) (λb m=>?_) (least_like (alB_eqv A A.N) c)).symm
 ·have:=(q5N h hT hC hi (by omega)).1 h1;rw[a i c,a f (by omega)]at this;exact this.symm
 cases l:alB A b i
 ·rfl
 exfalso;have k:=(alB_iff A b i).1 l;have d:=(q5N h hT hC hi (show b<=A.N by omega)).2 (by rw[a i c,a b (by omega)];exact k.symm);rw[h2 b m]at d;cases d
theorem y2n (hi:i<A.N):frsF A i<A.N:=by
 unfold frsF;rw[if_neg (by omega)];have:=least_le (alB A) i;omega
theorem q6x (A:Aut):frsF A A.N=A.N:=by unfold frsF;rw[if_pos rfl]
def numF (O:List Nat) (x:Nat):Int:=if x∈O then (O.idxOf x:Int) else -1
structure Or (A:Aut) (E:Nat->Nat->Bool) (O:List Nat) (i r b:Nat):Prop where
 o:O=reps (alB A) (kn A (r*A.K+cnt E b))
 i:O[i]?=some r
 r:r<A.N
theorem q9n (E:Nat->Nat->Bool) (n:Nat):(reps E n).Nodup:=List.Pairwise.filter _ List.nodup_range
theorem q3m {x:Nat}:x∈reps E n<->x<n/\least E x=x:=by
 unfold reps;rw[List.mem_filter];simp
theorem Or.step (h:Pn A E nx) {O:List Nat}{i r b:Nat} (hO:Or A E O i r b) (hb:b<256):
  (toR A.N nx r b=A.N/\Or A E O i r (b+1))\/(∃m,toR A.N nx r b=m/\m<A.N/\((least (alB A) m∈O/\Or A E O i r (b+1))\/(least (alB A) m ∉ O/\Or A E (O++[least (alB A) m]) i r (b+1)))):=by
 have c:=h.to (Nat.le_of_lt hO.r) hb;rw[if_neg (by have:=hO.r;omega)]at c;have a:=h.kk hb;have l:least E b≠b->cnt E (b+1)=cnt E b:=λx=>by rw[cnt_succ,if_neg x,Nat.add_zero]
 have g:least E b=b->idx E b=cnt E b:=λf=>idx_rep f
 by_cases y:toR A.N nx r b=A.N
 ·refine Or.inl ⟨y,⟨?_,hO.i,hO.r⟩⟩;rw[y]at c;have j:A.to r (idx E b)<0:=by
   have:=c.2;unfold st at this;rw[if_pos rfl]at this;omega
  by_cases f:least E b=b
  ·rw[cnt_succ,if_pos f,<-Nat.add_assoc];rw[g f]at j a;rw[step_none a j];exact hO.o
  rw[l f];exact hO.o
 have v:toR A.N nx r b<A.N:=by omega
 refine Or.inr ⟨_,rfl,v,?_⟩;obtain⟨m,w⟩:=nam (toR A.N nx r b);rw[<-w]at c v ⊢;have d:A.to r (idx E b)=(m:Int):=by
  have:=c.2;unfold st at this;rw[if_neg (by omega)]at this;exact this.symm
 have s:=least_idem (alB_eqv A A.N) v;have u:∀k,k<A.K->A.to r k=(m:Int)->least (alB A) m<kn A (r*A.K+k+1):=λk z q=>by
  rcases step_rep h.b hO.r z q with ⟨n,_⟩|⟨n,t,_⟩
  ·have:=kn_mono A (show r*A.K+k<=r*A.K+k+1 by omega);omega
  rw[kn,fl_at A z,q,if_pos (by omega)];omega
 by_cases f:least E b=b
 ·have p:cnt E (b+1)=cnt E b+1:=by rw[cnt_succ,if_pos f]
  rw[g f]at d a;rcases step_rep h.b hO.r a d with ⟨n,t⟩|⟨n,t,B⟩
  ·refine Or.inl ⟨by rw[hO.o,q3m];exact⟨n,s⟩,⟨?_,hO.i,hO.r⟩⟩;rw[p,<-Nat.add_assoc,t];exact hO.o
  refine Or.inr ⟨by rw[hO.o,q3m];intro C;omega,⟨?_,?_,hO.r⟩⟩
  ·rw[p,<-Nat.add_assoc,B,n,<-hO.o]
  rw[List.getElem?_append_left (List.getElem?_eq_some_iff.1 hO.i).1];exact hO.i
 refine Or.inl ⟨?_,⟨by rw[l f];exact hO.o,hO.i,hO.r⟩⟩;rw[hO.o,q3m];refine⟨?_,s⟩;have n:=u _ a d;have t:idx E b<cnt E b:=cnt_lt (least_idem h.e hb) (by have:=least_le E b;omega);have:=kn_mono A (show r*A.K+idx E b+1<=r*A.K+cnt E b by omega);omega
theorem Or.first (h:Pn A E nx):Or A E [0] 0 0 0:=by
 refine⟨?_,rfl,h.b.pos⟩;have:cnt E 0=0:=rfl;rw[this,Nat.zero_mul];rfl
theorem Or.next (h:Pn A E nx) {O:List Nat}{i r:Nat} (hO:Or A E O i r 256):(∃r',O[i+1]?=some r'/\Or A E O (i+1) r' 0)\/(O.length=i+1/\O=reps (alB A) A.N):=by
 have d:=hO.o;have e:r*A.K+cnt E 256=(r+1)*A.K:=by
  have:cnt E 256=A.K:=by rw[h.k];rfl
  rw[this,Nat.succ_mul]
 rw[e]at d;have j:=hO.i;have m:=(List.getElem?_eq_some_iff.1 j).1;rw[d]at j;by_cases l:i+1<O.length
 ·obtain⟨r',c⟩:∃r',O[i+1]?=some r':=⟨_,List.getElem?_eq_getElem l⟩;have f:=c;rw[d]at f;obtain⟨q,n,s,p⟩:=next_rep h.g h.b hO.r j f;refine Or.inl ⟨r',c,⟨?_,c,n⟩⟩;have:cnt E 0=0:=rfl;rw[this,Nat.add_zero,<-p];exact d
 have a:O.length=i+1:=by omega
 refine Or.inr ⟨a,?_⟩;rw[<-last_rep h.g h.b hO.r j (by rw[<-d];exact a)];exact d
end Go.Proofs.YtoaaklhpmhjhkaaGreat
