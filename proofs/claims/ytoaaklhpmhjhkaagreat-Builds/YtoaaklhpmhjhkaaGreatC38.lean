import Derived.Test.YtoaaklhpmhjhkaaGreatC37
set_option maxRecDepth 100000
set_option maxHeartbeats 4000000
set_option linter.all false
namespace Go.Proofs.YtoaaklhpmhjhkaaGreat
open Go.RowKit
open Bm
def JnPost (sb n:Nat) (f g:Nat->Bool) (w:World) (e:Ending) (w':World):Prop:=e=.returned (.tuple #[])/\TC sb (bl (λq=>f q || g q) n) w'/\SF sb w w'
theorem q3Q (X:Nat->Prop) (gb R:Nat) (tr ad cp:Nat->Nat) (ms:Nat->Lie) (Ts:Nat->Nat->Nd) (Ns:Nat->Nat) (es:Nat->Rx) (ti nd:Nat->Nat) (hGm:Gm R Ts Ns es ti nd) (hR:R<=1000) (hP:netN es R<=1000) (hNs:∀r,r<R->Ns r<=20000) (r:Nat) (hr:r<R) (sb sc:Nat) (hsb:¬X sb):
  ∀(fu n:Nat) (f:Nat->Bool) (w:World),n<fu->n<Ns r->GX X gb (netN es R) R tr ad cp ms Ts Ns es w->TC sb (bl f (netN es R+R)) w->Calls Tryz.prog 114 #[.pointer (some ⟨gb,0,none⟩),.int .i64 r,.int .i64 n,.slice (some ⟨sb,0,none⟩) (netN es R+R) sc] w (JnPost sb (netN es R+R) f (jnR (Ts r) (Ns r) (ixR es Ts r) (bgT (Ts r) n)) w)
 |0,n,f,w,Y,_,_,_=>by omega
 |fu+1,n,f,w,Y,hn,hG,hS=>by
  have hz:=q1Z;have a:=(hGm.t r hr).1;have W:=q2r a.w a.u;obtain⟨P,ac⟩:=nam (netN es R);have HI:Hid (∀(k:Nat) (f':Nat->Bool) (w':World),k∈(Ts r n).kids->GX X gb P R tr ad cp ms Ts Ns es w'->TC sb (bl f' (P+R)) w'->Calls Tryz.prog 114 #[.pointer (some ⟨gb,0,none⟩),.int .i64 r,.int .i64 k,.slice (some ⟨sb,0,none⟩) (P+R) sc] w' (JnPost sb (P+R) f' (jnR (Ts r) (Ns r) (ixR es Ts r) (bgT (Ts r) k)) w')):=λk f' w' z E h2=>by
   have aP:=a.w n hn k z;rw[ac]at E h2 ⊢;exact q3Q X gb R tr ad cp ms Ts Ns es ti nd hGm hR hP hNs r hr sb sc hsb fu k f' w' (by omega) (by omega) E h2
  have L:Hid (∀(k:Nat) (w':World),k∈(Ts r n).kids->TR (tr r) (Ts r) (Ns r) w'->Calls Tryz.prog 115 #[.pointer (some ⟨tr r,0,none⟩),.int .i64 k] w' λe w''=>e=.returned (.bool (nlT (Ts r) k))/\Below w'.heap.size w' w''):=λk w' z E=>by
   have aP:=a.w n hn k z;exact q1R (tr r) (Ts r) (Ns r) (by have:=hNs r hr;omega) a.w (λi hi=>(a.k i hi).1) (nlT (Ts r)) W.nl0 W.nl1 W.nl2 W.nl3 (k+1) k w' (by omega) (by omega) E (λi hi=>by have:=(a.k i hi).2;omega)
  have O:(Ts r n).kind=0->ixR es Ts r n<netN es R:=λh0=>by
   have E:=(hGm.ixlt hr hn h0).2;have h2:=q0M es (show r+1<=R from hr);omega
  rw[<-ac]at hG hS hP O ⊢;obtain⟨N,hN⟩:=nam (Ns r);have aM:=hNs r hr;have g0:=λm=>W.bg0 n m hn
  have g1:=λm=>W.bg1 n m hn
  have g2:=λm=>W.bg2 n m hn
  obtain⟨d,hd⟩:=nam (Ts r n);have aQ:=(a.k n hn).1;have aO:=(a.k n hn).2;have am:=hyd hG;have HS:=hyd hS;obtain⟨ta,tc,ct,aD⟩:=hG.t w (AgX.refl _ _) (Nat.le_refl _);obtain⟨a6,a7,et,aw,af⟩:=aD r hr;subst et;have c0:=af.c;obtain⟨rr,o,il,_⟩:=af.n n hn;have v:Hid (∀w',AgX X w w'->w.heap.size<=w'.heap.size->IL ((ms r).ka n) (λk=>(((Ts r n).kids.getD k 0:Nat):Int)) (Ts r n).kids.length w'/\TR (tr r) (Ts r) (Ns r) w'):=λw' E h2=>by
   obtain⟨_,_,_,h3⟩:=am.out.t w' E h2;obtain⟨_,_,_,_,h4⟩:=h3 r hr;exact⟨(h4.n n hn).2.2.1,h4.tr⟩
  have aF:=hyd hG.s;unfold ndL at rr;obtain⟨vin,I⟩:=nam ((ms r).vin n);obtain⟨ka,ai⟩:=nam ((ms r).ka n);obtain⟨kc,az⟩:=nam ((ms r).kc n);rw[<-I,<-ai,<-az]at rr;rw[<-I]at o;rw[<-ai]at il v;obtain⟨nb,aA⟩:=nam (ad r);obtain⟨nc,aB⟩:=nam (cp r);obtain⟨tp,aC⟩:=nam (tr r);rw[<-aA]at rr c0;rw[<-aB]at c0;rw[<-aC]at c0 aw L v;obtain⟨ia,ic,ci,ax⟩:=hG.i w (AgX.refl _ _) (Nat.le_refl _);obtain⟨ib,io,ra,rc,ei,M,ay⟩:=ax r hr;subst ei;obtain⟨ix,j⟩:=nam (ixR es Ts r n);have ah:d.kind=0->∃xb xo,ra=some ⟨xb,xo,none⟩/\w.cell? ⟨xb,xo+n,none⟩=some (.int .i64 (ix:Int)):=λh0=>by
   obtain⟨xb,xo,e1,e2⟩:=ay n hn;refine⟨xb,xo,e1,?_⟩;rw[e2];unfold ixI;rw[if_pos (by rw[<-hd];exact h0),j]
  rw[<-hd]at rr il HI L v g0 g1 g2 aQ aO O;rw[<-hN]at c0 M hn aM v L;have a3:=hS;have a2:(r:Int)<R:=by omega
  have⟨hR',hP'⟩:(R:Int)<=1000/\(P:Int)<=1000:=by omega
  have⟨hn',hN'⟩:(n:Int)<N/\(N:Int)<=20000:=by omega
  obtain⟨m,hm⟩:=nam d.kids.length;have a1:(m:Int)<=1000:=by omega
  have Hm:=hyd hm;have H:sb<w.heap.size:=by
   have:=(hS 0 (.bool (f 0)) (q0x _ (by omega))).1;exact World.block_lt_of_cell? w _ this
  have Hg:=hyd3 g0 g1 g2;have aW:Hid (∀w',Below w.heap.size w w'->IL ka (λk=>((d.kids.getD k 0:Nat):Int)) d.kids.length w'):=λw' h=>il.below h
  have Hd:Hid (d=Ts r n/\N=Ns r/\ix=ixR es Ts r n/\n<Ns r):=⟨hd,hN,j,by omega⟩;have aH:Hid (d.kind=0->ix<P):=by rw[j];exact O
  clear hG hS hGm a W aD af ax ay g0 g1 g2 il hNs hd j ac O hN I ai az aA aB aC;go_enter Tryz.func114,Tryz.ntmps114;go_wp2_with (first|(with_reducible refine gld 118 ?_;refine Stop.out ?_));refine⟨?_⟩;refine wpList_load_mid rfl 118 _ rfl nb (n*5) rfl (ndC d vin ka kc) _ rr Tryz.underlying118 rfl q1y ?_
  (try simp only[psm])
  go_wp2_with (first|(with_reducible refine gst 118 ?_;refine Stop.out ?_));refine⟨?_⟩;obtain⟨w2,Q⟩:=nam ((w.alloc (.cells nodZ.toArray 118)).setCells w.heap.size 0 (ndC d vin ka kc));have ag:=q1o w nodZ (ndC d vin ka kc) 118 rfl;have C:TC w.heap.size (ndC d vin ka kc) w2:=by rw[Q];exact q4s ag.2.2.2
  rw[<-Q]at ag;obtain⟨S,_,s2,t2⟩:=ag;refine wpList_store_mid rfl 118 _ _ rfl w.heap.size 0 (ndC d vin ka kc).toArray rfl rfl t2 q1y (by simp only[ndC,List.all_toArray,List.all_cons,o];rfl) ?_;rw[List.toList_toArray];have Z:w2=(w.alloc (.cells #[.int .i64 0,.slice none 0 0,.slice none 0 0,.int .i64 0,.int .i64 0] 118)).setCells w.heap.size 0 (ndC d vin ka kc):=Q;rw[<-Z];have ck:=(C 0 _ rfl).1;clear Q Z t2 rr;by_cases e0:d.kind=0
  ·have q0:((d.kind:Int)==0)=true:=by simp[e0]
   obtain⟨xb,xo,ex,cx⟩:=ah e0;subst ex;have aU:=aH.out e0;have aX:w2.cell? ⟨gb,3,none⟩=some (.slice (some ⟨ib,io,none⟩) R ic):=by rw[S.cell (p:=⟨gb,3,none⟩) (World.block_lt_of_cell? w _ ci)];exact ci
   have aT:w2.cell? ⟨ib,io+r,none⟩=some (.slice (some ⟨xb,xo,none⟩) N rc):=by rw[S.cell (p:=⟨ib,io+r,none⟩) (World.block_lt_of_cell? w _ M)];exact M
   have aZ:w2.cell? ⟨xb,xo+n,none⟩=some (.int .i64 (ix:Int)):=by rw[S.cell (p:=⟨xb,xo+n,none⟩) (World.block_lt_of_cell? w _ cx)];exact cx
   have ae:=HS.out.block (S.block sb H);obtain⟨k1,k2⟩:=ae ix _ (q0x _ (by omega));have aN:(ix:Int)<P+(R:Int):=by omega
   have HR:Hid (JnPost sb (P+R) f (jnR (Ts r) (Ns r) (ixR es Ts r) (bgT (Ts r) n)) w (.returned (.tuple #[])) (w2.setCell ⟨sb,ix,none⟩ (.bool true))):=by
    refine⟨rfl,?_,(SF.of (by omega) S).set _ _⟩;have E:=q9R ae (show ix<P+R by omega);rw[q1W (g:=λq=>f q || decide (q=ix)) (λq=>?_)]
    ·exact E
    congr 1;rw[Bool.eq_iff_iff,q1X];simp only[decide_eq_true_eq];obtain⟨d1,d2,d3,d4⟩:=Hd.out;constructor
    ·rintro ⟨m,m1,m2,m3,m4⟩;rw[Hg.out.1 m e0]at m3;rw[m4,d3,(beq_iff_eq.1 m3)]
    intro e;exact⟨n,d4,by rw[<-d1];exact e0,by rw[Hg.out.1 n e0];simp,by rw[e,d3]⟩
   clear C ah ae;go_wp2_with fail
   ((try simp only[Exit.inBlock,Exit.then]);refine bodyPost_ret (results_none rfl _ _ _) rfl ?_)
   exact HR.out
  have q0:((d.kind:Int)==0)=false:=by simp;omega
  obtain⟨row,l⟩:=nam (decide (d.kind=1));have q1:((d.kind:Int)==1)=row:=by
   rw[l];by_cases e:d.kind=1
   ·simp[e]
   have:¬(d.kind:Int)=1:=by omega
   simp[e,this]
  have ao:Hid (∀y,bgT (Ts r) n y=kdB row (bgT (Ts r)) (nlT (Ts r)) d.kids y):=λy=>by
   unfold kdB;by_cases e:d.kind=1
   ·rw[Hg.out.2.1 y e,l];simp[e]
   rw[Hg.out.2.2 y (by omega),l];simp[e]
  have K:Hid (SF sb w w2/\TC w.heap.size (ndC d vin ka kc) w2/\TC sb (bl f (P+R)) w2):=⟨SF.of (by omega) S,C,HS.out.block (S.block sb H)⟩;have cK:=(C 2 _ rfl).1;rw[<-Hm.out]at cK;have B:=hyd H;have ab:Hid (∀w',SF sb w w'->IL ka (λk=>((d.kids.getD k 0:Nat):Int)) d.kids.length w'/\TR tp (Ts r) N w'/\GX X gb P R tr ad cp ms Ts Ns es w'):=λw' Y=>by
   have hA:AgX X w w':=λk z=>Y.k k (aF.out k z) (λe=>hsb (e▸z))
   exact⟨(v.out w' hA Y.b.size).1,(v.out w' hA Y.b.size).2,am.out.keep hA Y.b.size⟩
  clear C ah l S ci M ct aw c0;have A:Hid (row=true->((d.kids.take 0).all (nlT (Ts r)))=true):=λ_=>by simp
  go_wp2_with fail
  go_loopw [10] (λx w'=>∃i:Nat,i<=m/\x=.int .i64 i/\Hid (row=true->((d.kids.take i).all (nlT (Ts r)))=true)/\SF sb w w'/\TC w.heap.size (ndC d vin ka kc) w'/\TC sb (bl (λq=>f q || jnR (Ts r) (Ns r) (ixR es Ts r) (kdB row (bgT (Ts r)) (nlT (Ts r)) (d.kids.take i)) q) (P+R)) w'/\w.heap.size+1<=w'.heap.size) (λx _=>m-(intOf x).toNat)
  ·refine⟨0,by omega,rfl,A,K.out.1,K.out.2.1,?_,s2⟩;rw[q1W (g:=f) (λq=>?_)]
   ·exact K.out.2.2
   rw[q0S (k:=λ_=>false) (λy=>by rw[List.take_zero,y0B]),q6r,Bool.or_false]
  clear ck cK K s2 A;obtain⟨i,hi,rfl,ap,F,C,TS,sz⟩:=hrel;have ck:=(C 0 _ rfl).1;have cK:=(C 2 _ rfl).1;rw[<-Hm.out]at cK;by_cases a0:i<m
  ·have aV:(i:Int)<m:=by omega
   obtain⟨k,z⟩:∃k,d.kids[i]?=some k:=⟨d.kids[i]'(by have:=Hm.out;omega),List.getElem?_eq_getElem _⟩;obtain⟨il,aS,gx⟩:=ab.out wr F;obtain⟨g,og,eg,cg⟩:=il i (by have:=Hm.out;omega);subst eg;simp only[List.getD_eq_getElem?_getD,z,Option.getD_some]at cg;have G:=List.mem_of_getElem? z;have ak:d.kids.take (i+1)=d.kids.take i++[k]:=by rw[List.take_add_one,z];rfl
   have al:=hyd (HI.out k _ wr G gx TS);have aq:Hid (∀q,((f q || jnR (Ts r) (Ns r) (ixR es Ts r) (kdB row (bgT (Ts r)) (nlT (Ts r)) (d.kids.take i)) q) || jnR (Ts r) (Ns r) (ixR es Ts r) (bgT (Ts r) k) q)=(f q || jnR (Ts r) (Ns r) (ixR es Ts r) (kdB row (bgT (Ts r)) (nlT (Ts r)) (d.kids.take (i+1))) q)):=λq=>by
    rw[Bool.or_assoc,q8Q,ak,q0S (λy=>(q8P ap.out k y).symm)]
   have HF:=hyd2 F C;have aa:Hid (∀w',TR tp (Ts r) N w'->Calls Tryz.prog 115 #[.pointer (some ⟨tp,0,none⟩),.int .i64 k] w' λe w''=>e=.returned (.bool (nlT (Ts r) k))/\Below w'.heap.size w' w''):=λw' E=>L.out k w' G E
   have aI:=hyd ak;obtain⟨V,hV⟩:=nam (nlT (Ts r) k);rw[<-hV]at aa;have HV:=hyd hV;have aG:Hid (∀w',SF sb w w'->w'.cell? ⟨g,og+i,none⟩=some (.int .i64 (k:Int))):=λw' Y=>by
    obtain⟨aR,_,_⟩:=ab.out w' Y;obtain⟨g',a4,aL,av⟩:=aR i (by have:=Hm.out;omega);cases aL;simp only[List.getD_eq_getElem?_getD,z,Option.getD_some]at av;exact av
   clear F C TS il aS gx z G ak hV;go_wp2_with fail;refine al.out.mono ?_;rintro e w3 ⟨rfl,D,F3⟩;have J:=HF.out.1.trans F3;have T3:TC w.heap.size (ndC d vin (some ⟨g,og,none⟩) kc) w3:=HF.out.2.block (F3.k _ (by omega) (by have:=B.out;omega));have a5:w.heap.size+1<=w3.heap.size:=by have:=F3.b.size;omega
   have aK:=(T3 0 _ rfl).1;have au:=(T3 2 _ rfl).1;rw[<-Hm.out]at au;have aJ:=aG.out w3 J;have an:=hyd (aa.out w3 (ab.out w3 J).2.1);have H3:Hid (SF sb w w3/\TC w.heap.size (ndC d vin (some ⟨g,og,none⟩) kc) w3/\TC sb (bl (λq=>f q || jnR (Ts r) (Ns r) (ixR es Ts r) (kdB row (bgT (Ts r)) (nlT (Ts r)) (d.kids.take (i+1))) q) (P+R)) w3):=⟨J,T3,by rw[<-q1W aq.out];exact D⟩;clear al F3 D T3 ck cK cg aa J HF;go_wp2_with fail;refine an.out.mono ?_;rintro e w4 ⟨rfl,B4⟩;obtain⟨F3,T3,D⟩:=H3.out;have F4:SF sb w w4:=F3.trans (SF.of (by have:=B.out;omega) B4);have T4:TC w.heap.size (ndC d vin (some ⟨g,og,none⟩) kc) w4:=T3.block (B4.block _ (by omega));have ar:TC sb (bl (λq=>f q || jnR (Ts r) (Ns r) (ixR es Ts r) (kdB row (bgT (Ts r)) (nlT (Ts r)) (d.kids.take (i+1))) q) (P+R)) w4:=D.block (B4.block _ (by have:=B.out;omega));have aY:=(T4 0 _ rfl).1;have aE:w.heap.size+1<=w4.heap.size:=by have:=B4.size;omega
   have T:=hyd3 F4 T4 ar;have U:Hid ((d.kids.take (i+1)).all (nlT (Ts r))=((d.kids.take i).all (nlT (Ts r))&&V)):=by
    show _=_;rw[aI.out,HV.out];simp
   clear F3 T3 D F4 T4 ar H3 an aK au aJ B4;cases row
   ·have aj:Hid (false=true->((d.kids.take (i+1)).all (nlT (Ts r)))=true):=λh=>by cases h
    cases V<;>(go_wp2_with fail;go_roundw;(case rel=>exact⟨i+1,by omega,by go_num,aj,T.out.1,T.out.2.1,T.out.2.2,aE⟩);(case measure=>simp[intOf];omega))
   cases V
   ·have HR:Hid (JnPost sb (P+R) f (jnR (Ts r) (Ns r) (ixR es Ts r) (bgT (Ts r) n)) w (.returned (.tuple #[])) w4):=by
     refine⟨rfl,?_,T.out.1⟩;rw[q1W (g:=λq=>f q || jnR (Ts r) (Ns r) (ixR es Ts r) (kdB true (bgT (Ts r)) (nlT (Ts r)) (d.kids.take (i+1))) q) (λq=>?_)]
     ·exact T.out.2.2
     congr 1;refine q0S (λy=>?_) q;rw[ao.out y];exact q8O (by rw[U.out,Bool.and_false]) y
    go_wp2_with fail
    ((try simp only[Exit.inBlock,Exit.then]);refine bodyPost_ret (results_none rfl _ _ _) rfl ?_)
    exact HR.out
   have aj:Hid (true=true->((d.kids.take (i+1)).all (nlT (Ts r)))=true):=λ_=>by rw[U.out,ap.out rfl];rfl
   go_wp2_with fail;go_roundw
   ·exact⟨i+1,by omega,by go_num,aj,T.out.1,T.out.2.1,T.out.2.2,aE⟩
   simp[intOf];omega
  have⟨hge,him⟩:¬(i:Int)<m/\i=m:=by omega
  subst him;have ht:d.kids.take i=d.kids:=by rw[Hm.out,List.take_length]
  rw[ht]at TS;have HR:Hid (JnPost sb (P+R) f (jnR (Ts r) (Ns r) (ixR es Ts r) (bgT (Ts r) n)) w (.returned (.tuple #[])) wr):=by
   refine⟨rfl,?_,F⟩;rw[q1W (λq=>by rw[q0S (λy=>ao.out y)])];exact TS
  clear TS C ht F;go_wp2_with fail;go_end0;exact HR.out
variable {a : Act}{ops : Array Oper}{Q : Exit → Act → World → Prop}{rest : List Oper}{N P R base cap g gb i n tb : Nat}{ls : Nat → List Value}{Ns cp tr : Nat → Nat}{T : Nat → Nd}{X X' : Nat → Prop}{vs : Nat → Value}{o : Oper}{v : Value}{w w' : World}
theorem q7z (hu:Upf T N) {n u:Nat} (hn:n<N) (h:(T n).up=(u:Int)) (h1:(T u).kind≠1) (h3:(T u).kind≠3) (h4:(T u).kind≠4) (q:Option Nat):bhT T N n q=bhT T N u q:=by
 have a:=hu n hn;have e:bhF T (N-n-1) u q=bhT T N u q:=y2q hu q N u _ _ (by omega) (by omega) (by omega) (by omega);unfold bhT;rw[show N-n=(N-n-1)+1 by omega];simp only[bhF];rw[if_neg (by omega),h,Int.toNat_natCast,if_neg h1,if_neg (by omega),e];rfl
section
variable {T : Nat → Nd} {N : Nat} {ix : Nat → Nat} {P r n u : Nat}
theorem y1X (hw:Wf T N) (hu:Upf T N) (hn:n<N) (h:(T n).up<0) (q:Nat):bhS T N ix P r n q=decide (q=P+r):=by
 have a:=q2r hw hu;unfold bhS;rw[q0S (k:=λ_=>false) (λm=>by rw[a.bhR n _ hn h];rfl),q6r,a.bhR n _ hn h];simp
theorem y3c (hw:Wf T N) (hu:Upf T N) (hn:n<N) (h:(T n).up=(u:Int)) (h1:(T u).kind=1) (ha:((T u).kids.drop ((T n).at_+1)).all (nlT T)=true) (q:Nat):bhS T N ix P r n q=(jnR T N ix (kdB true (bgT T) (nlT T) ((T u).kids.drop ((T n).at_+1))) q || bhS T N ix P r u q):=by
 have a:=q2r hw hu;unfold bhS;rw[<-Bool.or_assoc,q8Q,q0S (λm=>by rw[a.bh1 n u _ hn h h1,ha])];congr 1;rw[a.bh1 n u none hn h h1,ha];simp
theorem q7A (hw:Wf T N) (hu:Upf T N) (hn:n<N) (h:(T n).up=(u:Int)) (h1:(T u).kind=1) (ha:((T u).kids.drop ((T n).at_+1)).all (nlT T)=false) (q:Nat):bhS T N ix P r n q=jnR T N ix (kdB true (bgT T) (nlT T) ((T u).kids.drop ((T n).at_+1))) q:=by
 have a:=q2r hw hu;unfold bhS;rw[q0S (k:=kdB true (bgT T) (nlT T) ((T u).kids.drop ((T n).at_+1))) (λm=>by rw[a.bh1 n u _ hn h h1,ha];simp[kdB]),a.bh1 n u none hn h h1,ha];simp
theorem y1Y (hw:Wf T N) (hu:Upf T N) (hn:n<N) (h:(T n).up=(u:Int)) (h1:(T u).kind=3\/(T u).kind=4) (q:Nat):bhS T N ix P r n q=(jnR T N ix (bgT T n) q || bhS T N ix P r u q):=by
 have a:=q2r hw hu;unfold bhS;rw[<-Bool.or_assoc,q8Q,q0S (λm=>by rw[a.bh3 n u _ hn h h1])];congr 1;rw[a.bh3 n u none hn h h1];simp
theorem y0U (hu:Upf T N) (hn:n<N) (h:(T n).up=(u:Int)) (h1:(T u).kind≠1) (h3:(T u).kind≠3) (h4:(T u).kind≠4) (q:Nat):bhS T N ix P r n q=bhS T N ix P r u q:=by
 unfold bhS;rw[q0S (λm=>q7z hu hn h h1 h3 h4 _),q7z hu hn h h1 h3 h4 none]
end
theorem q5B (X:Nat->Prop) (gb R:Nat) (tr ad cp:Nat->Nat) (ms:Nat->Lie) (Ts:Nat->Nat->Nd) (Ns:Nat->Nat) (es:Nat->Rx) (ti nd:Nat->Nat) (hGm:Gm R Ts Ns es ti nd) (hR:R<=1000) (hP:netN es R<=1000) (hNs:∀r,r<R->Ns r<=20000) (r:Nat) (hr:r<R) (sb sc:Nat) (hsb:¬X sb):
  ∀(fu n:Nat) (f:Nat->Bool) (w:World),Ns r<fu+n->n<Ns r->GX X gb (netN es R) R tr ad cp ms Ts Ns es w->TC sb (bl f (netN es R+R)) w->Calls Tryz.prog 53 #[.pointer (some ⟨gb,0,none⟩),.int .i64 r,.int .i64 n,.slice (some ⟨sb,0,none⟩) (netN es R+R) sc] w (JnPost sb (netN es R+R) f (bhS (Ts r) (Ns r) (ixR es Ts r) (netN es R) r n) w)
 |0,n,f,w,hf,_,_,_=>by omega
 |fu+1,n,f,w,hf,hn,hG,hS=>by
  have hz:=q1Z;have y:=(hGm.t r hr).1;have hE:=q2r y.w y.u;obtain⟨P,U⟩:=nam (netN es R);have HI:Hid (∀(k:Nat) (f':Nat->Bool) (w':World),n<k->k<Ns r->GX X gb P R tr ad cp ms Ts Ns es w'->TC sb (bl f' (P+R)) w'->Calls Tryz.prog 53 #[.pointer (some ⟨gb,0,none⟩),.int .i64 r,.int .i64 k,.slice (some ⟨sb,0,none⟩) (P+R) sc] w' (JnPost sb (P+R) f' (bhS (Ts r) (Ns r) (ixR es Ts r) P r k) w')):=λk f' w' bc a2 B L=>by
   rw[U]at B L ⊢;exact q5B X gb R tr ad cp ms Ts Ns es ti nd hGm hR hP hNs r hr sb sc hsb fu k f' w' (by omega) a2 B L
  have ak:Hid (∀(k:Nat) (f':Nat->Bool) (w':World),k<Ns r->GX X gb P R tr ad cp ms Ts Ns es w'->TC sb (bl f' (P+R)) w'->Calls Tryz.prog 114 #[.pointer (some ⟨gb,0,none⟩),.int .i64 r,.int .i64 k,.slice (some ⟨sb,0,none⟩) (P+R) sc] w' (JnPost sb (P+R) f' (jnR (Ts r) (Ns r) (ixR es Ts r) (bgT (Ts r) k)) w')):=λk f' w' G B L=>by
   rw[U]at B L ⊢;exact q3Q X gb R tr ad cp ms Ts Ns es ti nd hGm hR hP hNs r hr sb sc hsb (k+1) k f' w' (by omega) G B L
  have az:Hid (∀(k:Nat) (w':World),k<Ns r->TR (tr r) (Ts r) (Ns r) w'->Calls Tryz.prog 115 #[.pointer (some ⟨tr r,0,none⟩),.int .i64 k] w' λe w''=>e=.returned (.bool (nlT (Ts r) k))/\Below w'.heap.size w' w''):=λk w' G B=>by
   exact q1R (tr r) (Ts r) (Ns r) (by have:=hNs r hr;omega) y.w (λi hi=>(y.k i hi).1) (nlT (Ts r)) hE.nl0 hE.nl1 hE.nl2 hE.nl3 (k+1) k w' (by omega) G B (λi hi=>by have:=(y.k i hi).2;omega)
  have a0:=hNs r hr;have I:=y.u n hn;have af:=y.a n hn;have aR:Hid (GX X gb P R tr ad cp ms Ts Ns es w):=by rw[U];exact hG
  have am:Hid (∀w',SF sb w w'->TRm (tr r) (Ts r) (Ns r) (ad r) (cp r) (ms r) w'/\GX X gb P R tr ad cp ms Ts Ns es w'):=λw' hf=>by
   have hA:AgX X w w':=λk G=>hf.k k (hG.s k G) (λe=>hsb (e▸G))
   obtain⟨_,_,_,h3⟩:=hG.t w' hA hf.b.size;obtain⟨_,_,_,_,h4⟩:=h3 r hr;exact⟨h4,aR.out.keep hA hf.b.size⟩
  obtain⟨ta,tc,ct,aO⟩:=hG.t w (AgX.refl _ _) (Nat.le_refl _);obtain⟨bn,bo,et,aG,ao⟩:=aO r hr;subst et;obtain⟨pa,pc,cP⟩:=hG.p w (AgX.refl _ _) (Nat.le_refl _);have c0:=ao.c;have rn:=(ao.n n hn).1;have cU:=rn 3 _ rfl;have cA:=rn 4 _ rfl;rw[<-U]at hG hS hP cP ⊢;have ai:sb<w.heap.size:=by
   have:=(hS 0 (.bool (f 0)) (q0x _ (by omega))).1;exact World.block_lt_of_cell? w _ this
  obtain⟨N,hN⟩:=nam (Ns r);obtain⟨nb,aL⟩:=nam (ad r);obtain⟨nc,aM⟩:=nam (cp r);obtain⟨tp,aN⟩:=nam (tr r);obtain⟨T,ap⟩:=nam (Ts r);obtain⟨mr,aK⟩:=nam (ms r);obtain⟨ix,ag⟩:=nam (ixR es Ts r);have h:Hid (Wf T N/\Upf T N/\n<N/\∀i,i<N->(T i).kind<=4/\(T i).kids.length<=1000):=by rw[ap,hN];exact⟨y.w,y.u,hn,y.k⟩
  simp only[<-hN,<-ap,<-ag,<-aN,<-aL,<-aM,<-aK]at HI ak az a0 I af am aG c0 cU cA hn ⊢;have HS:=hyd hS;have bf:(r:Int)<R:=by omega
  have⟨hR',hP'⟩:(R:Int)<=1000/\(P:Int)<=1000:=by omega
  have⟨hn',hN'⟩:(n:Int)<N/\(N:Int)<=20000:=by omega
  have S:=hyd ai;clear hG hGm y hE aO ao hNs U aL aM aN ap aK ag hN rn;by_cases H:(T n).up<0
  ·have aP:(T n).up=-1:=by omega
   obtain⟨k1,k2⟩:=hS (P+r) _ (q0x _ (by omega));rw[aP]at cU;have hq:(P:Int)+(r:Int)<P+(R:Int):=by omega
   have HR:Hid (JnPost sb (P+R) f (bhS T N ix P r n) w (.returned (.tuple #[])) (w.setCell ⟨sb,P+r,none⟩ (.bool true))):=by
    refine⟨rfl,?_,(SF.of (by omega) (Below.refl _ _)).set _ _⟩;rw[q1W (λq=>by rw[y1X h.out.1 h.out.2.1 h.out.2.2.1 H])];exact q9R HS.out (show P+r<P+R by omega)
   clear hS aP I H;go_enter Tryz.func53,Tryz.ntmps53;go_wp2_with fail
   ((try simp only[Exit.inBlock,Exit.then]);refine bodyPost_ret (results_none rfl _ _ _) rfl ?_)
   exact HR.out
  obtain⟨u,hu⟩:∃u:Nat,(T n).up=u:=⟨(T n).up.toNat,by omega⟩;rw[hu]at cU I;have a3:n<u:=by omega
  have⟨huN,huN'⟩:u<N/\(u:Int)<N:=by omega
  have bi:¬(u:Int)<0:=by omega
  obtain⟨aQ,_⟩:=am.out w (SF.of (by omega) (Below.refl _ _));obtain⟨rr,o,il,_⟩:=aQ.n u huN;unfold ndL at rr;obtain⟨d,hd⟩:=nam (T u);obtain⟨E,aq⟩:=nam ((T n).at_);obtain⟨vin,W⟩:=nam (mr.vin u);obtain⟨ka,au⟩:=nam (mr.ka u);obtain⟨kc,aJ⟩:=nam (mr.kc u);have O:Hid (∀w',SF sb w w'->IL ka (λk=>((d.kids.getD k 0:Nat):Int)) d.kids.length w'/\TR tp T N w'/\GX X gb P R tr ad cp ms Ts Ns es w'):=λw' hf=>by
   obtain⟨tm,gx⟩:=am.out w' hf;rw[au,hd];exact⟨(tm.n u huN).2.2.1,tm.tr,gx⟩
  rw[<-hd,<-W,<-au,<-aJ]at rr;rw[<-W]at o;rw[<-aq]at cA af;have av:=h.out.2.2.2 u huN;rw[<-hd]at av;obtain⟨m,hm⟩:=nam d.kids.length;have Hm:=hyd hm;have be:(m:Int)<=1000:=by omega
  have a7:(E:Int)<=1000:=by omega
  have Z:Hid ((T n).up=(u:Int)/\d=T u/\E=(T n).at_/\u<N/\∀k∈d.kids,k<N):=⟨hu,hd,aq,huN,λk G=>by
   rw[hd]at G;have:=h.out.1 u huN k G;omega⟩
  have a8:=av.1;clear hS hu hd aq W au aJ aQ il H I av hm;go_enter Tryz.func53,Tryz.ntmps53;go_wp2_with (first|(with_reducible refine gld 118 ?_;refine Stop.out ?_));refine⟨?_⟩;refine wpList_load_mid rfl 118 _ rfl nb (u*5) rfl (ndC d vin ka kc) _ rr Tryz.underlying118 rfl q1y ?_
  (try simp only[psm])
  go_wp2_with (first|(with_reducible refine gst 118 ?_;refine Stop.out ?_));refine⟨?_⟩;obtain⟨w2,ae⟩:=nam ((w.alloc (.cells nodZ.toArray 118)).setCells w.heap.size 0 (ndC d vin ka kc));have ar:=q1o w nodZ (ndC d vin ka kc) 118 rfl;have T2:TC w.heap.size (ndC d vin ka kc) w2:=by rw[ae];exact q4s ar.2.2.2
  rw[<-ae]at ar;obtain⟨B2,_,s2,t2⟩:=ar;refine wpList_store_mid rfl 118 _ _ rfl w.heap.size 0 (ndC d vin ka kc).toArray rfl rfl t2 q1y (by simp only[ndC,List.all_toArray,List.all_cons,o];rfl) ?_;rw[List.toList_toArray];have aj:w2=(w.alloc (.cells #[.int .i64 0,.slice none 0 0,.slice none 0 0,.int .i64 0,.int .i64 0] 118)).setCells w.heap.size 0 (ndC d vin ka kc):=ae;rw[<-aj];have ck:=(T2 0 _ rfl).1;have cK:=(T2 2 _ rfl).1;rw[<-Hm.out]at cK;have aC:TC sb (bl f (P+R)) w2:=HS.out.block (B2.block sb ai);have F2:SF sb w w2:=SF.of (by omega) B2;have aW:w2.cell? ⟨nb,n*5+4,none⟩=some (.int .i64 (E:Int)):=by rw[B2.cell (p:=⟨nb,n*5+4,none⟩) (World.block_lt_of_cell? w _ cA)];exact cA
  have aV:w2.cell? ⟨tp,0,none⟩=some (.slice (some ⟨nb,0,none⟩) N nc):=by rw[B2.cell (p:=⟨tp,0,none⟩) (World.block_lt_of_cell? w _ c0)];exact c0
  have Y:=hyd3 F2 T2 aC;clear ae aj t2 rr T2 aC F2 B2 c0 cA cU ct aG cP;have D:Hid (∀(g:Nat->Bool) (w':World),SF sb w w'->TC sb (bl (λq=>f q || g q) (P+R)) w'->(∀q,bhS T N ix P r n q=(g q || bhS T N ix P r u q))->Calls Tryz.prog 53 #[.pointer (some ⟨gb,0,none⟩),.int .i64 r,.int .i64 u,.slice (some ⟨sb,0,none⟩) (P+R) sc] w' (JnPost sb (P+R) f (bhS T N ix P r n) w)):=λg w' B L h3=>by
   refine(HI.out u _ w' a3 (Z.out.2.2.2.1) (O.out w' B).2.2 L).mono ?_;rintro e w'' ⟨h4,h5,h6⟩;refine⟨h4,?_,B.trans h6⟩;rw[q1W (g:=λq=>(f q || g q) || bhS T N ix P r u q) (λq=>by rw[h3 q,Bool.or_assoc])];exact h5
  clear HI;by_cases e1:d.kind=1
  ·have q1:((d.kind:Int)==1)=true:=by simp[e1]
   obtain⟨A,K⟩:=nam (d.kids.drop (E+1));have aA:=hyd K;have an:Hid (A.all (nlT T)=false->∀q,bhS T N ix P r n q=jnR T N ix (kdB true (bgT T) (nlT T) A) q):=λha q=>by
    obtain⟨u1,u2,u3,u4,_⟩:=Z.out;have:=q7A (ix:=ix) (P:=P) (r:=r) h.out.1 h.out.2.1 h.out.2.2.1 u1 (by rw[<-u2];exact e1) (by rw[<-u2,<-u3,<-K];exact ha) q;rw[<-u2,<-u3,<-K]at this;exact this
   have aT:Hid (A.all (nlT T)=true->∀q,bhS T N ix P r n q=(jnR T N ix (kdB true (bgT T) (nlT T) A) q || bhS T N ix P r u q)):=λha q=>by
    obtain⟨u1,u2,u3,u4,_⟩:=Z.out;have:=y3c (ix:=ix) (P:=P) (r:=r) h.out.1 h.out.2.1 h.out.2.2.1 u1 (by rw[<-u2];exact e1) (by rw[<-u2,<-u3,<-K];exact ha) q;rw[<-u2,<-u3,<-K]at this;exact this
   clear K e1;go_wp2_with fail
   go_loopw [11] (λx w'=>∃j:Nat,(j=0\/E+1+j<=m)/\x=.int .i64 ((E+1+j:Nat):Int)/\Hid ((A.take j).all (nlT T)=true)/\SF sb w w'/\TC w.heap.size (ndC d vin ka kc) w'/\TC sb (bl (λq=>f q || jnR T N ix (kdB true (bgT T) (nlT T) (A.take j)) q) (P+R)) w'/\w.heap.size+1<=w'.heap.size) (λx _=>m-(intOf x).toNat)
   ·refine⟨0,Or.inl rfl,by go_num,by show _=_;simp,Y.out.1,Y.out.2.1,?_,s2⟩;rw[q1W (g:=f) (λq=>?_)]
    ·exact Y.out.2.2
    rw[q0S (k:=λ_=>false) (λmm=>by rw[List.take_zero,y0B]),q6r,Bool.or_false]
   clear ck cK Y s2 aW aV;obtain⟨j,hj,rfl,ab,F,T2,TS,sz⟩:=hrel;have ck:=(T2 0 _ rfl).1;have cK:=(T2 2 _ rfl).1;rw[<-Hm.out]at cK;obtain⟨i,hi⟩:=nam (E+1+j);rw[<-hi]at hj ⊢;have Hi:=hyd hi;clear hi;by_cases bd:i<m
   ·have a9:(i:Int)<m:=by omega
    obtain⟨k,G⟩:∃k,d.kids[i]?=some k:=⟨d.kids[i]'(by have:=Hm.out;omega),List.getElem?_eq_getElem _⟩;obtain⟨il,a6,gx⟩:=O.out wr F;obtain⟨g,og,eg,cg⟩:=il i (by have:=Hm.out;omega);subst eg;simp only[List.getD_eq_getElem?_getD,G,Option.getD_some]at cg;have ah:=List.mem_of_getElem? G;have aI:=Z.out.2.2.2.2 k ah;have aH:A[j]?=some k:=by rw[aA.out,List.getElem?_drop,<-Hi.out];exact G
    have aw:A.take (j+1)=A.take j++[k]:=by rw[List.take_add_one,aH];rfl
    have ax:=hyd (ak.out k _ wr aI gx TS);have aB:Hid (∀q,((f q || jnR T N ix (kdB true (bgT T) (nlT T) (A.take j)) q) || jnR T N ix (bgT T k) q)=(f q || jnR T N ix (kdB true (bgT T) (nlT T) (A.take (j+1))) q)):=λq=>by
     rw[Bool.or_assoc,q8Q,aw,q0S (λmm=>(q8P (λ_=>ab.out) k mm).symm)]
    have HF:=hyd2 F T2;have al:Hid (∀w',TR tp T N w'->Calls Tryz.prog 115 #[.pointer (some ⟨tp,0,none⟩),.int .i64 k] w' λe w''=>e=.returned (.bool (nlT T k))/\Below w'.heap.size w' w''):=λw' B=>az.out k w' aI B
    have aU:=hyd aw;obtain⟨V,hV⟩:=nam (nlT T k);rw[<-hV]at al;have HV:=hyd hV;have aS:Hid (∀w',SF sb w w'->w'.cell? ⟨g,og+i,none⟩=some (.int .i64 (k:Int))):=λw' hf=>by
     obtain⟨a4,_,_⟩:=O.out w' hf;obtain⟨g',bj,aZ,aF⟩:=a4 i (by have:=Hm.out;omega);cases aZ;simp only[List.getD_eq_getElem?_getD,G,Option.getD_some]at aF;exact aF
    clear F T2 TS il a6 gx G ah aw hV aH;go_wp2_with fail;refine ax.out.mono ?_;rintro e M ⟨rfl,v,J⟩;have z:=HF.out.1.trans J;have T3:TC w.heap.size (ndC d vin (some ⟨g,og,none⟩) kc) M:=HF.out.2.block (J.k _ (by omega) (by have:=S.out;omega));have bm:w.heap.size+1<=M.heap.size:=by have:=J.b.size;omega
    have aY:=(T3 0 _ rfl).1;have aE:=(T3 2 _ rfl).1;rw[<-Hm.out]at aE;have aX:=aS.out M z;have ay:=hyd (al.out M (O.out M z).2.1);have H3:Hid (SF sb w M/\TC w.heap.size (ndC d vin (some ⟨g,og,none⟩) kc) M/\TC sb (bl (λq=>f q || jnR T N ix (kdB true (bgT T) (nlT T) (A.take (j+1))) q) (P+R)) M):=⟨z,T3,by rw[<-q1W aB.out];exact v⟩;clear ax J v T3 ck cK cg al z HF;go_wp2_with fail;refine ay.out.mono ?_;rintro e w4 ⟨rfl,B4⟩;obtain⟨J,T3,v⟩:=H3.out;have F4:SF sb w w4:=J.trans (SF.of (by have:=S.out;omega) B4);have T4:TC w.heap.size (ndC d vin (some ⟨g,og,none⟩) kc) w4:=T3.block (B4.block _ (by omega));have aD:TC sb (bl (λq=>f q || jnR T N ix (kdB true (bgT T) (nlT T) (A.take (j+1))) q) (P+R)) w4:=v.block (B4.block _ (by have:=S.out;omega));have a5:w.heap.size+1<=w4.heap.size:=by have:=B4.size;omega
    have H4:=hyd3 F4 T4 aD;have Q:Hid ((A.take (j+1)).all (nlT T)=V):=by
     show _=_;rw[aU.out,List.all_append,ab.out,HV.out];simp
    clear J T3 v F4 T4 aD H3 ay aY aE aX B4;cases V
    ·have HR:Hid (JnPost sb (P+R) f (bhS T N ix P r n) w (.returned (.tuple #[])) w4):=by
      refine⟨rfl,?_,H4.out.1⟩;have a1:A.all (nlT T)=false:=by
       have B:=Q.out;have L:A.all (nlT T)=((A.take (j+1)).all (nlT T)&&(A.drop (j+1)).all (nlT T)):=by rw[<-List.all_append,List.take_append_drop]
       rw[L,B];rfl
      rw[q1W (g:=λq=>f q || jnR T N ix (kdB true (bgT T) (nlT T) (A.take (j+1))) q) (λq=>?_)]
      ·exact H4.out.2.2
      congr 1;rw[an.out a1 q];exact q0S (λmm=>q8O Q.out mm) q
     go_wp2_with fail
     ((try simp only[Exit.inBlock,Exit.then]);refine bodyPost_ret (results_none rfl _ _ _) rfl ?_)
     exact HR.out
    go_wp2_with fail;go_roundw
    ·exact⟨j+1,Or.inr (by have:=Hi.out;omega),by have:=Hi.out;go_num,Q,H4.out.1,H4.out.2.1,H4.out.2.2,a5⟩
    simp[intOf];omega
   have bb:¬(i:Int)<m:=by omega
   have ht:A.take j=A:=by
    refine List.take_of_length_le ?_;have B:=Hi.out;have L:=Hm.out;rw[aA.out,List.length_drop];omega
   rw[ht]at TS ab;have C:=hyd (D.out _ wr F TS (aT.out ab.out));clear TS T2 ht F D;go_wp2_with fail;refine C.out.mono ?_;rintro e w4 ⟨rfl,l⟩;go_wp2_with fail;go_end0;exact⟨rfl,l⟩
  have q1:((d.kind:Int)==1)=false:=by simp;omega
  by_cases ac:d.kind=3\/d.kind=4
  ·have HC:=hyd (ak.out n f w2 hn (O.out w2 Y.out.1).2.2 Y.out.2.2);have aa:Hid (∀(w':World),SF sb w w'->TC sb (bl (λq=>f q || jnR T N ix (bgT T n) q) (P+R)) w'->Calls Tryz.prog 53 #[.pointer (some ⟨gb,0,none⟩),.int .i64 r,.int .i64 u,.slice (some ⟨sb,0,none⟩) (P+R) sc] w' (JnPost sb (P+R) f (bhS T N ix P r n) w)):=λw' B L=>D.out _ w' B L (λq=>y1Y h.out.1 h.out.2.1 h.out.2.2.1 Z.out.1 (by rw[<-Z.out.2.1];exact ac) q)
   by_cases e3:d.kind=3
   ·have q3:((d.kind:Int)==3)=true:=by simp[e3]
    clear D ac e3;go_wp2_with fail;refine HC.out.mono ?_;rintro e M ⟨rfl,v,J⟩;have z:=Y.out.1.trans J;have C:=hyd (aa.out M z v);clear v J z aa;go_wp2_with fail;refine C.out.mono ?_;rintro e w4 ⟨rfl,l⟩;go_wp2_with fail;go_end0;exact⟨rfl,l⟩
   have q3:((d.kind:Int)==3)=false:=by simp;omega
   have q4:((d.kind:Int)==4)=true:=by simp;omega
   clear D ac e3;go_wp2_with fail;refine HC.out.mono ?_;rintro e M ⟨rfl,v,J⟩;have z:=Y.out.1.trans J;have C:=hyd (aa.out M z v);clear v J z aa;go_wp2_with fail;refine C.out.mono ?_;rintro e w4 ⟨rfl,l⟩;go_wp2_with fail;go_end0;exact⟨rfl,l⟩
  have q3:((d.kind:Int)==3)=false:=by simp;omega
  have q4:((d.kind:Int)==4)=false:=by simp;omega
  have C:Hid (Calls Tryz.prog 53 #[.pointer (some ⟨gb,0,none⟩),.int .i64 r,.int .i64 u,.slice (some ⟨sb,0,none⟩) (P+R) sc] w2 (JnPost sb (P+R) f (bhS T N ix P r n) w)):=D.out (λ_=>false) w2 Y.out.1 (by rw[q1W (g:=f) (λq=>Bool.or_false _)];exact Y.out.2.2) (λq=>by
   rw[Bool.false_or];exact y0U h.out.2.1 h.out.2.2.1 Z.out.1 (by rw[<-Z.out.2.1];exact e1) (by rw[<-Z.out.2.1];omega) (by rw[<-Z.out.2.1];omega) q)
  clear D ac;go_wp2_with fail;refine C.out.mono ?_;rintro e w4 ⟨rfl,l⟩;go_wp2_with fail;go_end0;exact⟨rfl,l⟩
variable {ms : Nat → Lie}{Ts : Nat → Nat → Nd}{es : Nat → Rx}
theorem GX.gl {ad:Nat->Nat} (h:GX X gb P R tr ad cp ms Ts Ns es w):GL gb P R w:=by
 obtain⟨a,c,d,_⟩:=h.t w (AgX.refl _ _) (Nat.le_refl _);obtain⟨b,c1,e⟩:=h.p w (AgX.refl _ _) (Nat.le_refl _);exact⟨⟨a,c,d⟩,b,c1,e⟩
theorem y2a (es:Nat->Rx) (Ts:Nat->Nat->Nd) (Ns:Nat->Nat) (P r q:Nat):atS es Ts Ns P (r+1) q=(atS es Ts Ns P r q || (jnR (Ts r) (Ns r) (ixR es Ts r) (bgT (Ts r) (Ns r-1)) q || (decide (q=P+r)&&nlT (Ts r) (Ns r-1)))):=by
 unfold atS;rw[List.range_succ,List.any_append];simp
theorem y2R (X:Nat->Prop) (gb R:Nat) (tr ad cp:Nat->Nat) (ms:Nat->Lie) (Ts:Nat->Nat->Nd) (Ns:Nat->Nat) (es:Nat->Rx) (ti nd:Nat->Nat) (hGm:Gm R Ts Ns es ti nd) (hR:R<=1000) (hP:netN es R<=1000) (hNs:∀r,r<R->Ns r<=20000) (w:World) (hG:GX X gb (netN es R) R tr ad cp ms Ts Ns es w):
  Calls Tryz.prog 55 #[.pointer (some ⟨gb,0,none⟩)] w λe w'=>e=.returned (.slice (some ⟨w.heap.size,0,none⟩) (netN es R+R) (netN es R+R))/\TC w.heap.size (bl (atS es Ts Ns (netN es R) R) (netN es R+R)) w'/\Below w.heap.size w w'/\w.heap.size+1<=w'.heap.size:=by
 obtain⟨P,y⟩:=nam (netN es R);have ah:¬X w.heap.size:=λh=>by have:=hG.s _ h;omega
 have aa:Hid (∀(r k:Nat) (f':Nat->Bool) (w':World),r<R->k<Ns r->GX X gb P R tr ad cp ms Ts Ns es w'->TC w.heap.size (bl f' (P+R)) w'->Calls Tryz.prog 114 #[.pointer (some ⟨gb,0,none⟩),.int .i64 r,.int .i64 k,.slice (some ⟨w.heap.size,0,none⟩) (P+R) (P+R)] w' (JnPost w.heap.size (P+R) f' (jnR (Ts r) (Ns r) (ixR es Ts r) (bgT (Ts r) k)) w')):=λr k f' w' n hk v T=>by
  rw[y]at v T ⊢;exact q3Q X gb R tr ad cp ms Ts Ns es ti nd hGm hR hP hNs r n w.heap.size _ ah (k+1) k f' w' (by omega) hk v T
 have ac:Hid (∀(r k:Nat) (w':World),r<R->k<Ns r->TR (tr r) (Ts r) (Ns r) w'->Calls Tryz.prog 115 #[.pointer (some ⟨tr r,0,none⟩),.int .i64 k] w' λe w''=>e=.returned (.bool (nlT (Ts r) k))/\Below w'.heap.size w' w''):=λr k w' n hk v=>by
  have f:=(hGm.t r n).1;have U:=q2r f.w f.u;exact q1R (tr r) (Ts r) (Ns r) (by have:=hNs r n;omega) f.w (λi hi=>(f.k i hi).1) (nlT (Ts r)) U.nl0 U.nl1 U.nl2 U.nl3 (k+1) k w' (by omega) hk v (λi hi=>by have:=(f.k i hi).2;omega)
 have ab:Hid (∀r,r<R->1<=Ns r/\Ns r<=20000):=λr n=>⟨(hGm.t r n).2.1,hNs r n⟩
 rw[<-y]at hG hP ⊢;have m:=hyd (q3s gb P R w hP hR hG.gl);have C:Hid (∀w',Below w.heap.size w w'->GX X gb P R tr ad cp ms Ts Ns es w'):=λw' h=>hG.below h
 have ak:(R:Int)<=1000:=by omega
 clear hG hGm hNs y;go_enter Tryz.func55,Tryz.ntmps55;go_wp2_with fail;refine m.out.mono ?_;rintro e w1 ⟨rfl,T1,B1,s1⟩;clear m;go_wp2_with fail
 go_loopw [4] (λx w'=>∃r:Nat,r<=R/\x=.int .i64 r/\TC w.heap.size (bl (atS es Ts Ns P r) (P+R)) w'/\Below w.heap.size w w'/\w.heap.size+1<=w'.heap.size) (λx _=>R-(intOf x).toNat)
 ·exact⟨0,by omega,rfl,by rw[q1W (g:=λ_=>false) (λq=>by simp[atS])];exact T1,B1,s1⟩
 clear T1 B1 s1;obtain⟨r,n,rfl,S,B,sz⟩:=hrel;have gx:=C.out wr B;obtain⟨ta,tc,ct,z⟩:=gx.t wr (AgX.refl _ _) (Nat.le_refl _);by_cases j:r<R
 ·have ai:(r:Int)<R:=by omega
  obtain⟨aq,ar,et,I,K⟩:=z r j;subst et;have c1:=K.r;obtain⟨n1,n2⟩:=ab.out r j;obtain⟨A,L⟩:=nam (Ns r-1);rw[show((Ns r:Int)-1)=(A:Int) by omega]at c1;obtain⟨W,l⟩:=nam (tr r);rw[<-l]at c1 I;have HC:=hyd (aa.out r A _ wr j (by omega) gx S);obtain⟨V,hV⟩:=nam (nlT (Ts r) A);have E:Hid (∀w',TR W (Ts r) (Ns r) w'->Calls Tryz.prog 115 #[.pointer (some ⟨W,0,none⟩),.int .i64 A] w' λe w''=>e=.returned (.bool V)/\Below w'.heap.size w' w''):=λw' v=>by
   rw[hV,l];rw[l]at v;exact ac.out r A w' j (by omega) v
  have F:Hid (∀q,atS es Ts Ns P (r+1) q=((atS es Ts Ns P r q || jnR (Ts r) (Ns r) (ixR es Ts r) (bgT (Ts r) A) q) || (decide (q=P+r)&&V))):=λq=>by rw[y2a,hV,L,Bool.or_assoc]
  have G:Hid (∀w',Below w.heap.size w w'->TR W (Ts r) (Ns r) w'/\w'.cell? ⟨W,1,none⟩=some (.int .i64 (A:Int))/\(∃a c,w'.cell? ⟨gb,1,none⟩=some (.slice a P c))):=λw' h=>by
   have J:=C.out w' h;obtain⟨_,_,_,T⟩:=J.t w' (AgX.refl _ _) (Nat.le_refl _);obtain⟨_,_,_,_,h3⟩:=T r j;rw[l];refine⟨h3.tr,?_,J.p w' (AgX.refl _ _) (Nat.le_refl _)⟩;rw[h3.r];congr 2;omega
  have HB:=hyd B;clear gx z K S hV L l n1 n2 B;go_wp2_with fail;refine HC.out.mono ?_;rintro e w2 ⟨rfl,H,Z⟩;have Y:=HB.out.trans Z.b;obtain⟨N,af,al,an,ag⟩:=G.out w2 Y;have D:=hyd (E.out w2 N);have ap:w.heap.size+1<=w2.heap.size:=by have:=Z.b.size;omega
  have H2:=hyd2 H Y;clear HC H Z Y N E c1 I ct;go_wp2_with fail;refine D.out.mono ?_;rintro e O ⟨rfl,Q⟩;have d:=H2.out.1.block (Q.block _ (by omega));have o:Below w.heap.size w O:=H2.out.2.trans (Q.mono (by omega));obtain⟨_,_,am,ao,aj⟩:=G.out O o;have M:w.heap.size+1<=O.heap.size:=by have:=Q.size;omega
  clear D H2 Q af ag;cases V
  ·have H3:Hid (TC w.heap.size (bl (atS es Ts Ns P (r+1)) (P+R)) O):=by
    show TC _ _ _;rw[q1W (λq=>by rw[F.out q,Bool.and_false,Bool.or_false])];exact d
   clear d;go_wp2_with fail;go_roundw
   ·exact⟨r+1,by omega,by go_num,H3.out,o,M⟩
   simp[intOf];omega
  obtain⟨k1,k2⟩:=d (P+r) _ (q0x _ (by omega));have H3:Hid (TC w.heap.size (bl (atS es Ts Ns P (r+1)) (P+R)) (O.setCell ⟨w.heap.size,P+r,none⟩ (.bool true))):=by
   show TC _ _ _;rw[q1W (λq=>by rw[F.out q,Bool.and_true])];exact q9R d (by omega)
  clear d;go_wp2_with fail;go_roundw
  ·exact⟨r+1,by omega,by go_num,H3.out,o.setCell (p:=⟨w.heap.size,P+r,none⟩) (Nat.le_refl _) _,by rw[World.size_setCell];exact M⟩
  simp[intOf];omega
 have⟨hge,hrR⟩:¬(r:Int)<R/\r=R:=by omega
 subst hrR;have ae:=hyd S;clear S gx z;go_wp2_with fail;go_ret;exact⟨rfl,ae.out,B,sz⟩
theorem y0D:∃i,Tryz.prog.info? 94=some i/\i.zero=some (.pointer none)/\i.size=1/\i.bytes=8:=by
 have b:(Tryz.prog.info? 94).isSome=true:=by kernel_rfl
 obtain⟨i,a⟩:=Option.isSome_iff_exists.1 b;refine⟨i,a,?_,?_,?_⟩
 ·have:((Tryz.prog.info? 94).bind (·.zero))=some (.pointer none):=by kernel_rfl
  rw[a]at this;exact this
 ·have:((Tryz.prog.info? 94).map (·.size))=some 1:=by kernel_rfl
  rw[a]at this;simpa using this
 have:((Tryz.prog.info? 94).map (·.bytes))=some 8:=by kernel_rfl
 rw[a]at this;simpa using this
theorem q4K:∃i,Tryz.prog.info? 23=some i/\i.zero=some (.slice none 0 0)/\i.size=1/\i.bytes=24:=by
 have b:(Tryz.prog.info? 23).isSome=true:=by kernel_rfl
 obtain⟨i,a⟩:=Option.isSome_iff_exists.1 b;refine⟨i,a,?_,?_,?_⟩
 ·have:((Tryz.prog.info? 23).bind (·.zero))=some (.slice none 0 0):=by kernel_rfl
  rw[a]at this;exact this
 ·have:((Tryz.prog.info? 23).map (·.size))=some 1:=by kernel_rfl
  rw[a]at this;simpa using this
 have:((Tryz.prog.info? 23).map (·.bytes))=some 24:=by kernel_rfl
 rw[a]at this;simpa using this
def OwnV (base:Nat) (te:TypeId) (v:Value) (l:List Value) (w:World):Prop:=w.ownsRow base te 1 v l.length l
theorem OwnV.nil (base:Nat) (te:TypeId) (w:World):OwnV base te (.slice none 0 0) [] w:=⟨rfl,Or.inl ⟨rfl,rfl⟩⟩
theorem OwnV.form {te:TypeId}{l:List Value} (h:OwnV base te v l w):∃ad cap,v=.slice ad l.length cap/\∀i u,l[i]?=some u->∃g,ad=some ⟨g,0,none⟩/\w.cell? ⟨g,i,none⟩=some u:=by
 rcases h.2 with ⟨rfl,d⟩|⟨g,cap,c,rfl,e,f,j⟩
 ·refine⟨none,0,by rw[d],λi u a=>?_⟩;have:=(List.getElem?_eq_some_iff.1 a).1;omega
 refine⟨some ⟨g,0,none⟩,cap,rfl,λi u a=>⟨g,rfl,?_⟩⟩;have b:=h.cells (g:=g) rfl i u a;rw[Addr.add_lit,Nat.zero_add]at b;exact b
theorem OwnV.il {te:TypeId}{l:List Nat} (h:OwnV base te v (l.map λx:Nat=>.int .i64 (x:Int)) w):∃ad cap,v=.slice ad l.length cap/\IL ad (λi=>((l.getD i 0:Nat):Int)) l.length w:=by
 obtain⟨ad,cap,e,c⟩:=h.form;rw[List.length_map]at e;refine⟨ad,cap,e,λi d=>?_⟩;obtain⟨x,a⟩:∃x,l[i]?=some x:=⟨_,List.getElem?_eq_getElem d⟩;obtain⟨g,b,e2⟩:=c i (.int .i64 (x:Int)) (by rw[List.getElem?_map,a];rfl);refine⟨g,0,b,?_⟩;rw[Nat.zero_add,e2];simp only[List.getD_eq_getElem?_getD,a,Option.getD_some]
theorem q0t (ts te:TypeId) {z:Value}{bs:Nat} (hund:Tryz.prog.underlying ts=some (.slice te)) (hinf:∃i,Tryz.prog.info? te=some i/\i.zero=some z/\i.size=1/\i.bytes=bs) (hz:z.cells.size=1) (hbs:bs<=24)
  (hgd:o.guard=none) (s x:Operand) (ho:o.op=.call { callee:=.builtin .append,args:=#[s,x],argTypes:=#[ts,ts] }) (base:Nat)
  (v:Value) (l:List Value) (hs:a.eval s=v) (hown:OwnV base te v l w) (hn:l.length<=1000000)
  (B:Nat) (t:Value) (ht:t.oneCell'=true) (hx:a.eval x=.slice (some ⟨B,0,none⟩) 1 1) (hnews:w.cell? ⟨B,0,none⟩=some t) (hbase:base<=w.heap.size) (H:Nat) (hH:w.heap.size=H)
  (h:∀g cap w',OwnV base te (.slice (some ⟨g,0,none⟩) (l.length+1) cap) (l++[t]) w'->w.grownBy w' v.ownBlock->(v.ownBlock=some g\/g=H)->g<w'.heap.size->wpList Tryz.prog ops Q rest (a.put o.dst (.slice (some ⟨g,0,none⟩) (l.length+1) cap)) w'):wpList Tryz.prog ops Q (o::rest) a w:=by
 obtain⟨i,p,c,d,e⟩:=hinf;refine wpList_append_lies w hgd s x ts ho base te i z 1 bs hund p c d e hz (by omega) v l.length l hs hown ⟨B,0,none⟩ 1 1 [t] hx rfl (λj u b=>?_) (by simp[ht]) (by omega) (by unfold maxLen;omega) (by have:(l.length+1)*bs<=1000001*24:=Nat.mul_le_mul (by omega) hbs;omega) hbase H hH ?_
 ·rw[Addr.add_lit,Nat.zero_add];cases j with
  |zero=>simp at b;subst b;exact hnews
  |succ j=>simp at b
 intro g cap w' f k m n;refine h g cap w' ?_ k m n;unfold OwnV;rw[List.length_append];exact f
def gTy:Nat->TypeId
 |0=>94
 |1=>3
 |2=>3
 |3=>23
 |_=>78
def upV {α:Type} (f:Nat->α) (i:Nat) (x:α) (j:Nat):α:=if j=i then x else f j
theorem q0i {α:Type} (f:Nat->α) (i:Nat) (x:α):upV f i x i=x:=by simp[upV]
theorem q0f {α:Type} (f:Nat->α) {i j:Nat} (x:α) (h:j≠i):upV f i x j=f j:=by simp[upV,h]
structure G5 (gb base n:Nat) (ty:Nat->TypeId) (vs:Nat->Value) (ls:Nat->List Value) (X:Nat->Prop) (w:World):Prop where
 c:TC gb ((List.range n).map vs) w
 o:∀i,i<n->OwnV base (ty i) (vs i) (ls i) w
 d:∀i j k,i<n->j<n->i≠j->(vs i).ownBlock=some k->(vs j).ownBlock≠some k
 x:∀k,X k->k<w.heap.size/\k≠gb/\∀i,i<n->(vs i).ownBlock≠some k
 g:gb<base
theorem G5.cell {ty:Nat->TypeId} (h:G5 gb base n ty vs ls X w) {i:Nat} (hi:i<n):w.cell? ⟨gb,i,none⟩=some (vs i)/\w.frozen? ⟨gb,i,none⟩=false:=h.c i (vs i) (by simp[hi])
theorem G5.lt {ty:Nat->TypeId} (h:G5 gb base n ty vs ls X w) (hn:0<n):gb<w.heap.size:=World.block_lt_of_cell? w _ (h.cell hn).1
theorem G5.keep {ty:Nat->TypeId} (h:G5 gb base n ty vs ls X w) (h0:w'.heap[gb]?=w.heap[gb]?) (hk:∀i k,i<n->(vs i).ownBlock=some k->w'.heap[k]?=w.heap[k]?) (hx:∀k,X' k->k<w'.heap.size/\k≠gb/\∀i,i<n->(vs i).ownBlock≠some k):G5 gb base n ty vs ls X' w':=
 ⟨h.c.block h0,λi b=>q0R (h.o i b) (λk a=>hk i k b a),h.d,hx,h.g⟩
theorem G5.below {ty:Nat->TypeId} (h:G5 gb base n ty vs ls X w) (hn:0<n) (hW:Below w.heap.size w w'):G5 gb base n ty vs ls X w':=
 h.keep (hW.block _ (h.lt hn)) (λi k b a=>hW.block k ((h.o i b).lt k a).2) (λk a=>⟨by have:=(h.x k a).1;have:=hW.size;omega,(h.x k a).2⟩)
theorem G5.more {ty:Nat->TypeId} (h:G5 gb base n ty vs ls X w) (hx:∀k,X' k->X k\/(k<w.heap.size/\k≠gb/\∀i,i<n->(vs i).ownBlock≠some k)):G5 gb base n ty vs ls X' w:=
 ⟨h.c,h.o,h.d,λk b=>by
  rcases hx k b with a|a
  ·exact h.x k a
  exact a,h.g⟩
theorem q6P (hi:i<n) (v:Value):((List.range n).map vs).set i v=(List.range n).map (upV vs i v):=by
 refine List.ext_getElem? (λj=>?_);by_cases a:j<n
 ·by_cases e:j=i
  ·subst e;rw[List.getElem?_set_self (by simpa using a)];simp[a,q0i]
  rw[List.getElem?_set_ne (λq=>e q.symm)];simp[a,q0f vs v e]
 rw[List.getElem?_eq_none (by simp;omega),List.getElem?_eq_none (by simp;omega)]
theorem G5.app {gb base n:Nat}{ty:Nat->TypeId}{vs:Nat->Value}{ls:Nat->List Value}{X:Nat->Prop}{w w5:World} (h:G5 gb base n ty vs ls X w) {i:Nat} (hi:i<n) {t:Value}{g len cap:Nat} (hg:w.grownBy w5 (vs i).ownBlock) (ho:OwnV base (ty i) (.slice (some ⟨g,0,none⟩) len cap) (ls i++[t]) w5) (hb:(vs i).ownBlock=some g\/g=w.heap.size):
  G5 gb base n ty (upV vs i (.slice (some ⟨g,0,none⟩) len cap)) (upV ls i (ls i++[t])) X (w5.setCell ⟨gb,i,none⟩ (.slice (some ⟨g,0,none⟩) len cap))/\AgX X w (w5.setCell ⟨gb,i,none⟩ (.slice (some ⟨g,0,none⟩) len cap))/\w.heap.size<=(w5.setCell ⟨gb,i,none⟩ (.slice (some ⟨g,0,none⟩) len cap)).heap.size /\
  (∀k,k<w.heap.size->k≠gb->(vs i).ownBlock≠some k->(w5.setCell ⟨gb,i,none⟩ (.slice (some ⟨g,0,none⟩) len cap)).heap[k]?=w.heap[k]?):=by
 have C:=h.lt (by omega);have B:=h.g;have G:=(ho.lt g rfl).1;obtain⟨v,y⟩:∃v,v=w5.setCell ⟨gb,i,none⟩ (.slice (some ⟨g,0,none⟩) len cap):=⟨_,rfl⟩;have s:∀k,k≠gb->v.heap[k]?=w5.heap[k]?:=λk a=>by rw[y];exact Below.heap_setCell w5 ⟨gb,i,none⟩ _ k (λe=>a e)
 have I:v.heap.size=w5.heap.size:=by rw[y,World.size_setCell]
 have H:=hg.size;have b:∀k,k<w.heap.size->k≠gb->(vs i).ownBlock≠some k->v.heap[k]?=w.heap[k]?:=λk p E F=>by rw[s k E,hg.block k p (λe=>F e.symm)]
 have r:∀j,j<n->∀k,(vs j).ownBlock=some k->k≠gb:=λj f k a=>by have:=((h.o j f).lt k a).1;omega
 have u:w5.heap[gb]?=w.heap[gb]?:=hg.block gb C (λe=>r i hi gb e.symm rfl);rw[<-y];refine⟨⟨?_,λj f=>?_,λj l k f z q a=>?_,λk a=>?_,B⟩,λk a=>b k (h.x k a).1 (h.x k a).2.1 ((h.x k a).2.2 i hi),by omega,b⟩
 ·rw[y,<-q6P hi];exact(h.c.block u).set i (by simpa using hi) _
 ·by_cases e:j=i
  ·subst e;rw[q0i,q0i];exact q0R ho (λk a=>s k (by
     have m:g=k:=Option.some.inj a;omega))
  rw[q0f _ _ e,q0f _ _ e];exact q0R (h.o j f) (λk a=>b k ((h.o j f).lt k a).2 (r j f k a) (λe2=>h.d j i k f hi e a e2))
 ·by_cases D:j=i
  ·subst D;rw[q0i]at a;have m:g=k:=Option.some.inj a;rw[q0f _ _ (λe=>q e.symm)];intro e2;rcases hb with p|p
   ·exact h.d j l k f z q (m▸p) e2
   have:=((h.o l z).lt k e2).2;omega
  rw[q0f _ _ D]at a;by_cases e2:l=i
  ·subst e2;rw[q0i];intro A;have m:g=k:=Option.some.inj A;rcases hb with p|p
   ·exact h.d j l k f z q a (m▸p)
   have:=((h.o j f).lt k a).2;omega
  rw[q0f _ _ e2];exact h.d j l k f z q a
 refine⟨by have:=(h.x k a).1;omega,(h.x k a).2.1,λj f=>?_⟩;by_cases e:j=i
 ·subst e;rw[q0i];intro A;have m:g=k:=Option.some.inj A;rcases hb with p|p
  ·exact(h.x k a).2.2 j f (m▸p)
  have:=(h.x k a).1;omega
 rw[q0f _ _ e];exact(h.x k a).2.2 j f
theorem TRX.mono {m:Lie} (h:TRX X tb T N g cap m w) (hs:∀k,X' k->k<w.heap.size) (hx:∀k,X k->X' k):TRX X' tb T N g cap m w:=
 ⟨hs,λw' a b=>h.t w' (λk c=>a k (hx k c)) b⟩
end Go.Proofs.YtoaaklhpmhjhkaaGreat
