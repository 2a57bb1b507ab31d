import Derived.Test.YtoaaklhpmhjhkaaGreatC39
set_option maxRecDepth 100000
set_option maxHeartbeats 4000000
set_option linter.all false
namespace Go.Proofs.YtoaaklhpmhjhkaaGreat
open Go.RowKit
open Bm
def JnPost (sb n:Nat) (f g:Nat->Bool) (w:World) (e:Ending) (w':World):Prop:=e=.returned (.tuple #[])/\TC sb (bl (fun q=>f q || g q) n) w'/\SF sb w w'
theorem q3Q (X:Nat->Prop) (gb R:Nat) (tr ad cp:Nat->Nat) (ms:Nat->Lie) (Ts:Nat->Nat->Nd) (Ns:Nat->Nat) (es:Nat->Rx) (ti nd:Nat->Nat) (hGm:Gm R Ts Ns es ti nd) (hR:R<=1000) (hP:netN es R<=1000) (hNs:∀r,r<R->Ns r<=20000) (r:Nat) (hr:r<R) (sb sc:Nat) (hsb:¬X sb):
  ∀(fu n:Nat) (f:Nat->Bool) (w:World),n<fu->n<Ns r->GX X gb (netN es R) R tr ad cp ms Ts Ns es w->TC sb (bl f (netN es R+R)) w->Calls Tryz.prog 114 #[.pointer (some ⟨gb,0,none⟩),.int .i64 r,.int .i64 n,.slice (some ⟨sb,0,none⟩) (netN es R+R) sc] w (JnPost sb (netN es R+R) f (jnR (Ts r) (Ns r) (ixR es Ts r) (bgT (Ts r) n)) w)
 |0,n,f,w,hf,_,_,_=>by omega
 |fu+1,n,f,w,hf,hn,hG,hS=>by
  have hz:=q1Z;have hT3:=(hGm.t r hr).1;have hE:=q2r hT3.w hT3.u;obtain⟨P,hPe⟩:=nam (netN es R);have HI:Hid (∀(k:Nat) (f':Nat->Bool) (w':World),k∈(Ts r n).kids->GX X gb P R tr ad cp ms Ts Ns es w'->TC sb (bl f' (P+R)) w'->Calls Tryz.prog 114 #[.pointer (some ⟨gb,0,none⟩),.int .i64 r,.int .i64 k,.slice (some ⟨sb,0,none⟩) (P+R) sc] w' (JnPost sb (P+R) f' (jnR (Ts r) (Ns r) (ixR es Ts r) (bgT (Ts r) k)) w')):=fun k f' w' hk h1 h2=>by
   have hkn:=hT3.w n hn k hk;rw[hPe]at h1 h2 ⊢;exact q3Q X gb R tr ad cp ms Ts Ns es ti nd hGm hR hP hNs r hr sb sc hsb fu k f' w' (by omega) (by omega) h1 h2
  have HNo:Hid (∀(k:Nat) (w':World),k∈(Ts r n).kids->TR (tr r) (Ts r) (Ns r) w'->Calls Tryz.prog 115 #[.pointer (some ⟨tr r,0,none⟩),.int .i64 k] w' fun e w''=>e=.returned (.bool (nlT (Ts r) k))/\Below w'.heap.size w' w''):=fun k w' hk h1=>by
   have hkn:=hT3.w n hn k hk;exact q1R (tr r) (Ts r) (Ns r) (by have:=hNs r hr;omega) hT3.w (fun i hi=>(hT3.k i hi).1) (nlT (Ts r)) hE.nl0 hE.nl1 hE.nl2 hE.nl3 (k+1) k w' (by omega) (by omega) h1 (fun i hi=>by have:=(hT3.k i hi).2;omega)
  have hix:(Ts r n).kind=0->ixR es Ts r n<netN es R:=fun h0=>by
   have h1:=(hGm.ixlt hr hn h0).2;have h2:=q0M es (show r+1<=R from hr);omega
  rw[<-hPe]at hG hS hP hix ⊢;obtain⟨N,hN⟩:=nam (Ns r);have hNb:=hNs r hr;have g0:=fun m=>hE.bg0 n m hn
  have g1:=fun m=>hE.bg1 n m hn
  have g2:=fun m=>hE.bg2 n m hn
  obtain⟨d,hd⟩:=nam (Ts r n);have hq4:=(hT3.k n hn).1;have hkl:=(hT3.k n hn).2;have HGX:=hyd hG;have HS:=hyd hS;obtain⟨ta,tc,ct,htr⟩:=hG.t w (AgX.refl _ _) (Nat.le_refl _);obtain⟨tb0,to0,et,cpt,hTR⟩:=htr r hr;subst et;have c0:=hTR.c;obtain⟨rr,o,il,_⟩:=hTR.n n hn;have HIL:Hid (∀w',AgX X w w'->w.heap.size<=w'.heap.size->IL ((ms r).ka n) (fun k=>(((Ts r n).kids.getD k 0:Nat):Int)) (Ts r n).kids.length w'/\TR (tr r) (Ts r) (Ns r) w'):=fun w' h1 h2=>by
   obtain⟨_,_,_,h3⟩:=HGX.out.t w' h1 h2;obtain⟨_,_,_,_,h4⟩:=h3 r hr;exact⟨(h4.n n hn).2.2.1,h4.tr⟩
  have HXs:=hyd hG.s;unfold ndL at rr;obtain⟨vin,hvin⟩:=nam ((ms r).vin n);obtain⟨ka,hka⟩:=nam ((ms r).ka n);obtain⟨kc,hkc⟩:=nam ((ms r).kc n);rw[<-hvin,<-hka,<-hkc]at rr;rw[<-hvin]at o;rw[<-hka]at il HIL;obtain⟨nb,hnb⟩:=nam (ad r);obtain⟨nc,hnc⟩:=nam (cp r);obtain⟨tp,htp⟩:=nam (tr r);rw[<-hnb]at rr c0;rw[<-hnc]at c0;rw[<-htp]at c0 cpt HNo HIL;obtain⟨ia,ic,ci,hii⟩:=hG.i w (AgX.refl _ _) (Nat.le_refl _);obtain⟨ib,io,ra,rc,ei,cir,hil⟩:=hii r hr;subst ei;obtain⟨ix,hixe⟩:=nam (ixR es Ts r n);have hci:d.kind=0->∃xb xo,ra=some ⟨xb,xo,none⟩/\w.cell? ⟨xb,xo+n,none⟩=some (.int .i64 (ix:Int)):=fun h0=>by
   obtain⟨xb,xo,e1,e2⟩:=hil n hn;refine⟨xb,xo,e1,?_⟩;rw[e2];unfold ixI;rw[if_pos (by rw[<-hd];exact h0),hixe]
  rw[<-hd]at rr il HI HNo HIL g0 g1 g2 hq4 hkl hix;rw[<-hN]at c0 cir hn hNb HIL HNo;have hsl:=hS;have hr':(r:Int)<R:=by omega
  have hR':(R:Int)<=1000:=by omega
  have hP':(P:Int)<=1000:=by omega
  have hn':(n:Int)<N:=by omega
  have hN':(N:Int)<=20000:=by omega
  obtain⟨m,hm⟩:=nam d.kids.length;have hmb:(m:Int)<=1000:=by omega
  have Hm:=hyd hm;have hsbw:sb<w.heap.size:=by
   have:=(hS 0 (.bool (f 0)) (q0x _ (by omega))).1;exact World.block_lt_of_cell? w _ this
  have Hg:=hyd3 g0 g1 g2;have Hil:Hid (∀w',Below w.heap.size w w'->IL ka (fun k=>((d.kids.getD k 0:Nat):Int)) d.kids.length w'):=fun w' h=>il.below h
  have Hd:Hid (d=Ts r n/\N=Ns r/\ix=ixR es Ts r n/\n<Ns r):=⟨hd,hN,hixe,by omega⟩;have Hix:Hid (d.kind=0->ix<P):=by rw[hixe];exact hix
  clear hG hS hGm hT3 hE htr hTR hii hil g0 g1 g2 il hNs hd hixe hPe hix hN hvin hka hkc hnb hnc htp;go_enter Tryz.func114,Tryz.ntmps114;go_wp2_with (first|(with_reducible refine gld 118 ?_;refine Stop.out ?_));refine⟨?_⟩;refine wpList_load_mid rfl 118 _ rfl nb (n*5) rfl (ndC d vin ka kc) _ rr Tryz.underlying118 rfl q1y ?_
  (try simp only[psm])
  go_wp2_with (first|(with_reducible refine gst 118 ?_;refine Stop.out ?_));refine⟨?_⟩;obtain⟨w2,hw2⟩:=nam ((w.alloc (.cells nodZ.toArray 118)).setCells w.heap.size 0 (ndC d vin ka kc));have hbo:=q1o w nodZ (ndC d vin ka kc) 118 rfl;have T2:TC w.heap.size (ndC d vin ka kc) w2:=by rw[hw2];exact q4s hbo.2.2.2
  rw[<-hw2]at hbo;obtain⟨B2,_,s2,t2⟩:=hbo;refine wpList_store_mid rfl 118 _ _ rfl w.heap.size 0 (ndC d vin ka kc).toArray rfl rfl t2 q1y (by simp only[ndC,List.all_toArray,List.all_cons,o];rfl) ?_;rw[List.toList_toArray];have hw2':w2=(w.alloc (.cells #[.int .i64 0,.slice none 0 0,.slice none 0 0,.int .i64 0,.int .i64 0] 118)).setCells w.heap.size 0 (ndC d vin ka kc):=hw2;rw[<-hw2'];have ck:=(T2 0 _ rfl).1;clear hw2 hw2' t2 rr;by_cases e0:d.kind=0
  ·have q0:((d.kind:Int)==0)=true:=by simp[e0]
   obtain⟨xb,xo,ex,cx⟩:=hci e0;subst ex;have hixP:=Hix.out e0;have ci2:w2.cell? ⟨gb,3,none⟩=some (.slice (some ⟨ib,io,none⟩) R ic):=by rw[B2.cell (p:=⟨gb,3,none⟩) (World.block_lt_of_cell? w _ ci)];exact ci
   have cir2:w2.cell? ⟨ib,io+r,none⟩=some (.slice (some ⟨xb,xo,none⟩) N rc):=by rw[B2.cell (p:=⟨ib,io+r,none⟩) (World.block_lt_of_cell? w _ cir)];exact cir
   have cx2:w2.cell? ⟨xb,xo+n,none⟩=some (.int .i64 (ix:Int)):=by rw[B2.cell (p:=⟨xb,xo+n,none⟩) (World.block_lt_of_cell? w _ cx)];exact cx
   have hS2:=HS.out.block (B2.block sb hsbw);obtain⟨k1,k2⟩:=hS2 ix _ (q0x _ (by omega));have hixP':(ix:Int)<P+(R:Int):=by omega
   have HR:Hid (JnPost sb (P+R) f (jnR (Ts r) (Ns r) (ixR es Ts r) (bgT (Ts r) n)) w (.returned (.tuple #[])) (w2.setCell ⟨sb,ix,none⟩ (.bool true))):=by
    refine⟨rfl,?_,(SF.of (by omega) B2).set _ _⟩;have h1:=q9R hS2 (show ix<P+R by omega);rw[q1W (g:=fun q=>f q || decide (q=ix)) (fun q=>?_)]
    ·exact h1
    ·congr 1;rw[Bool.eq_iff_iff,q1X];simp only[decide_eq_true_eq];obtain⟨d1,d2,d3,d4⟩:=Hd.out;constructor
     ·rintro ⟨m,m1,m2,m3,m4⟩;rw[Hg.out.1 m e0]at m3;rw[m4,d3,(beq_iff_eq.1 m3)]
     ·intro e;exact⟨n,d4,by rw[<-d1];exact e0,by rw[Hg.out.1 n e0];simp,by rw[e,d3]⟩
   clear T2 hci hS2;go_wp2_with fail
   ((try simp only[Exit.inBlock,Exit.then]);refine bodyPost_ret (results_none rfl _ _ _) rfl ?_)
   exact HR.out
  ·have q0:((d.kind:Int)==0)=false:=by simp;omega
   obtain⟨row,hrow⟩:=nam (decide (d.kind=1));have q1:((d.kind:Int)==1)=row:=by
    rw[hrow];by_cases e:d.kind=1
    ·simp[e]
    ·have:¬(d.kind:Int)=1:=by omega
     simp[e,this]
   have Hbg:Hid (∀mm,bgT (Ts r) n mm=kdB row (bgT (Ts r)) (nlT (Ts r)) d.kids mm):=fun mm=>by
    unfold kdB;by_cases e:d.kind=1
    ·rw[Hg.out.2.1 mm e,hrow];simp[e]
    ·rw[Hg.out.2.2 mm (by omega),hrow];simp[e]
   have HB2:Hid (SF sb w w2/\TC w.heap.size (ndC d vin ka kc) w2/\TC sb (bl f (P+R)) w2):=⟨SF.of (by omega) B2,T2,HS.out.block (B2.block sb hsbw)⟩;have cK:=(T2 2 _ rfl).1;rw[<-Hm.out]at cK;have Hsbw:=hyd hsbw;have HSX:Hid (∀w',SF sb w w'->IL ka (fun k=>((d.kids.getD k 0:Nat):Int)) d.kids.length w'/\TR tp (Ts r) N w'/\GX X gb P R tr ad cp ms Ts Ns es w'):=fun w' hf=>by
    have hA:AgX X w w':=fun k hk=>hf.k k (HXs.out k hk) (fun e=>hsb (e▸hk))
    exact⟨(HIL.out w' hA hf.b.size).1,(HIL.out w' hA hf.b.size).2,HGX.out.keep hA hf.b.size⟩
   clear T2 hci hrow B2 ci cir ct cpt c0;have Hrowk:Hid (row=true->((d.kids.take 0).all (nlT (Ts r)))=true):=fun _=>by simp
   go_wp2_with fail
   go_loopw [10] (fun x w'=>∃i:Nat,i<=m/\x=.int .i64 i/\Hid (row=true->((d.kids.take i).all (nlT (Ts r)))=true)/\SF sb w w'/\TC w.heap.size (ndC d vin ka kc) w'/\TC sb (bl (fun q=>f q || jnR (Ts r) (Ns r) (ixR es Ts r) (kdB row (bgT (Ts r)) (nlT (Ts r)) (d.kids.take i)) q) (P+R)) w'/\w.heap.size+1<=w'.heap.size) (fun x _=>m-(intOf x).toNat)
   case atStart=>
    refine⟨0,by omega,rfl,Hrowk,HB2.out.1,HB2.out.2.1,?_,s2⟩;rw[q1W (g:=f) (fun q=>?_)]
    ·exact HB2.out.2.2
    ·rw[q0S (k:=fun _=>false) (fun mm=>by rw[List.take_zero,y0B]),q6r,Bool.or_false]
   case round=>
    clear ck cK HB2 s2 Hrowk;obtain⟨i,hi,rfl,Hrw,F,T2,TS,sz⟩:=hrel;have ck:=(T2 0 _ rfl).1;have cK:=(T2 2 _ rfl).1;rw[<-Hm.out]at cK;by_cases hlt:i<m
    ·have hlt':(i:Int)<m:=by omega
     obtain⟨k,hk⟩:∃k,d.kids[i]?=some k:=⟨d.kids[i]'(by have:=Hm.out;omega),List.getElem?_eq_getElem _⟩;obtain⟨il,tr0,gx⟩:=HSX.out wr F;obtain⟨g,og,eg,cg⟩:=il i (by have:=Hm.out;omega);subst eg;simp only[List.getD_eq_getElem?_getD,hk,Option.getD_some]at cg;have hmem:=List.mem_of_getElem? hk;have htk:d.kids.take (i+1)=d.kids.take i++[k]:=by rw[List.take_add_one,hk];rfl
     have HCb:=hyd (HI.out k _ wr hmem gx TS);have Hset:Hid (∀q,((f q || jnR (Ts r) (Ns r) (ixR es Ts r) (kdB row (bgT (Ts r)) (nlT (Ts r)) (d.kids.take i)) q) || jnR (Ts r) (Ns r) (ixR es Ts r) (bgT (Ts r) k) q)=(f q || jnR (Ts r) (Ns r) (ixR es Ts r) (kdB row (bgT (Ts r)) (nlT (Ts r)) (d.kids.take (i+1))) q)):=fun q=>by
      rw[Bool.or_assoc,q8Q,htk,q0S (fun mm=>(q8P Hrw.out k mm).symm)]
     have HF:=hyd2 F T2;have HNk:Hid (∀w',TR tp (Ts r) N w'->Calls Tryz.prog 115 #[.pointer (some ⟨tp,0,none⟩),.int .i64 k] w' fun e w''=>e=.returned (.bool (nlT (Ts r) k))/\Below w'.heap.size w' w''):=fun w' h1=>HNo.out k w' hmem h1
     have Htk:=hyd htk;obtain⟨V,hV⟩:=nam (nlT (Ts r) k);rw[<-hV]at HNk;have HV:=hyd hV;have Hcg:Hid (∀w',SF sb w w'->w'.cell? ⟨g,og+i,none⟩=some (.int .i64 (k:Int))):=fun w' hf=>by
      obtain⟨il',_,_⟩:=HSX.out w' hf;obtain⟨g',og',eg',cg'⟩:=il' i (by have:=Hm.out;omega);cases eg';simp only[List.getD_eq_getElem?_getD,hk,Option.getD_some]at cg';exact cg'
     clear F T2 TS il tr0 gx hk hmem htk hV;go_wp2_with fail;refine HCb.out.mono ?_;rintro e w3 ⟨rfl,TS3,F3⟩;have F03:=HF.out.1.trans F3;have T3:TC w.heap.size (ndC d vin (some ⟨g,og,none⟩) kc) w3:=HF.out.2.block (F3.k _ (by omega) (by have:=Hsbw.out;omega));have sz3:w.heap.size+1<=w3.heap.size:=by have:=F3.b.size;omega
     have ck3:=(T3 0 _ rfl).1;have cK3:=(T3 2 _ rfl).1;rw[<-Hm.out]at cK3;have cg3:=Hcg.out w3 F03;have HN3:=hyd (HNk.out w3 (HSX.out w3 F03).2.1);have H3:Hid (SF sb w w3/\TC w.heap.size (ndC d vin (some ⟨g,og,none⟩) kc) w3/\TC sb (bl (fun q=>f q || jnR (Ts r) (Ns r) (ixR es Ts r) (kdB row (bgT (Ts r)) (nlT (Ts r)) (d.kids.take (i+1))) q) (P+R)) w3):=⟨F03,T3,by rw[<-q1W Hset.out];exact TS3⟩;clear HCb F3 TS3 T3 ck cK cg HNk F03 HF;go_wp2_with fail;refine HN3.out.mono ?_;rintro e w4 ⟨rfl,B4⟩;obtain⟨F3,T3,TS3⟩:=H3.out;have F4:SF sb w w4:=F3.trans (SF.of (by have:=Hsbw.out;omega) B4);have T4:TC w.heap.size (ndC d vin (some ⟨g,og,none⟩) kc) w4:=T3.block (B4.block _ (by omega));have TS4:TC sb (bl (fun q=>f q || jnR (Ts r) (Ns r) (ixR es Ts r) (kdB row (bgT (Ts r)) (nlT (Ts r)) (d.kids.take (i+1))) q) (P+R)) w4:=TS3.block (B4.block _ (by have:=Hsbw.out;omega));have ck4:=(T4 0 _ rfl).1;have sz4:w.heap.size+1<=w4.heap.size:=by have:=B4.size;omega
     have H4:=hyd3 F4 T4 TS4;have Hall:Hid ((d.kids.take (i+1)).all (nlT (Ts r))=((d.kids.take i).all (nlT (Ts r))&&V)):=by
      show _=_;rw[Htk.out,HV.out];simp
     clear F3 T3 TS3 F4 T4 TS4 H3 HN3 ck3 cK3 cg3 B4;cases row
     ·have hr1:Hid (false=true->((d.kids.take (i+1)).all (nlT (Ts r)))=true):=fun h=>by cases h
      cases V<;>(go_wp2_with fail;go_roundw;(case rel=>exact⟨i+1,by omega,by go_num,hr1,H4.out.1,H4.out.2.1,H4.out.2.2,sz4⟩);(case measure=>simp[intOf];omega))
     ·cases V
      ·have HR:Hid (JnPost sb (P+R) f (jnR (Ts r) (Ns r) (ixR es Ts r) (bgT (Ts r) n)) w (.returned (.tuple #[])) w4):=by
        refine⟨rfl,?_,H4.out.1⟩;rw[q1W (g:=fun q=>f q || jnR (Ts r) (Ns r) (ixR es Ts r) (kdB true (bgT (Ts r)) (nlT (Ts r)) (d.kids.take (i+1))) q) (fun q=>?_)]
        ·exact H4.out.2.2
        ·congr 1;refine q0S (fun mm=>?_) q;rw[Hbg.out mm];exact q8O (by rw[Hall.out,Bool.and_false]) mm
       go_wp2_with fail
       ((try simp only[Exit.inBlock,Exit.then]);refine bodyPost_ret (results_none rfl _ _ _) rfl ?_)
       exact HR.out
      ·have hr1:Hid (true=true->((d.kids.take (i+1)).all (nlT (Ts r)))=true):=fun _=>by rw[Hall.out,Hrw.out rfl];rfl
       go_wp2_with fail;go_roundw
       case rel=>exact⟨i+1,by omega,by go_num,hr1,H4.out.1,H4.out.2.1,H4.out.2.2,sz4⟩
       case measure=>simp[intOf];omega
    ·have hge:¬(i:Int)<m:=by omega
     have him:i=m:=by omega
     subst him;have ht:d.kids.take i=d.kids:=by rw[Hm.out,List.take_length]
     rw[ht]at TS;have HR:Hid (JnPost sb (P+R) f (jnR (Ts r) (Ns r) (ixR es Ts r) (bgT (Ts r) n)) w (.returned (.tuple #[])) wr):=by
      refine⟨rfl,?_,F⟩;rw[q1W (fun q=>by rw[q0S (fun mm=>Hbg.out mm)])];exact TS
     clear TS T2 ht F;go_wp2_with fail;go_end0;exact HR.out
variable {N P R gb : Nat}{Ns cp tr : Nat → Nat}{T : Nat → Nd}{X : Nat → Prop}{w : World}
theorem q7z (hu:Upf T N) {n u:Nat} (hn:n<N) (h:(T n).up=(u:Int)) (h1:(T u).kind≠1) (h3:(T u).kind≠3) (h4:(T u).kind≠4) (q:Option Nat):bhT T N n q=bhT T N u q:=by
 have hb:=hu n hn;have e:bhF T (N-n-1) u q=bhT T N u q:=y2q hu q N u _ _ (by omega) (by omega) (by omega) (by omega);unfold bhT;rw[show N-n=(N-n-1)+1 by omega];simp only[bhF];rw[if_neg (by omega),h,Int.toNat_natCast,if_neg h1,if_neg (by omega),e];rfl
section
variable {T : Nat → Nd} {N : Nat} {ix : Nat → Nat} {P r n u : Nat}
theorem y1X (hw:Wf T N) (hu:Upf T N) (hn:n<N) (h:(T n).up<0) (q:Nat):bhS T N ix P r n q=decide (q=P+r):=by
 have hE:=q2r hw hu;unfold bhS;rw[q0S (k:=fun _=>false) (fun m=>by rw[hE.bhR n _ hn h];rfl),q6r,hE.bhR n _ hn h];simp
theorem y3c (hw:Wf T N) (hu:Upf T N) (hn:n<N) (h:(T n).up=(u:Int)) (h1:(T u).kind=1) (ha:((T u).kids.drop ((T n).at_+1)).all (nlT T)=true) (q:Nat):bhS T N ix P r n q=(jnR T N ix (kdB true (bgT T) (nlT T) ((T u).kids.drop ((T n).at_+1))) q || bhS T N ix P r u q):=by
 have hE:=q2r hw hu;unfold bhS;rw[<-Bool.or_assoc,q8Q,q0S (fun m=>by rw[hE.bh1 n u _ hn h h1,ha])];congr 1;rw[hE.bh1 n u none hn h h1,ha];simp
theorem q7A (hw:Wf T N) (hu:Upf T N) (hn:n<N) (h:(T n).up=(u:Int)) (h1:(T u).kind=1) (ha:((T u).kids.drop ((T n).at_+1)).all (nlT T)=false) (q:Nat):bhS T N ix P r n q=jnR T N ix (kdB true (bgT T) (nlT T) ((T u).kids.drop ((T n).at_+1))) q:=by
 have hE:=q2r hw hu;unfold bhS;rw[q0S (k:=kdB true (bgT T) (nlT T) ((T u).kids.drop ((T n).at_+1))) (fun m=>by rw[hE.bh1 n u _ hn h h1,ha];simp[kdB]),hE.bh1 n u none hn h h1,ha];simp
theorem y1Y (hw:Wf T N) (hu:Upf T N) (hn:n<N) (h:(T n).up=(u:Int)) (h1:(T u).kind=3\/(T u).kind=4) (q:Nat):bhS T N ix P r n q=(jnR T N ix (bgT T n) q || bhS T N ix P r u q):=by
 have hE:=q2r hw hu;unfold bhS;rw[<-Bool.or_assoc,q8Q,q0S (fun m=>by rw[hE.bh3 n u _ hn h h1])];congr 1;rw[hE.bh3 n u none hn h h1];simp
theorem y0U (hu:Upf T N) (hn:n<N) (h:(T n).up=(u:Int)) (h1:(T u).kind≠1) (h3:(T u).kind≠3) (h4:(T u).kind≠4) (q:Nat):bhS T N ix P r n q=bhS T N ix P r u q:=by
 unfold bhS;rw[q0S (fun m=>q7z hu hn h h1 h3 h4 _),q7z hu hn h h1 h3 h4 none]
end
theorem q5B (X:Nat->Prop) (gb R:Nat) (tr ad cp:Nat->Nat) (ms:Nat->Lie) (Ts:Nat->Nat->Nd) (Ns:Nat->Nat) (es:Nat->Rx) (ti nd:Nat->Nat) (hGm:Gm R Ts Ns es ti nd) (hR:R<=1000) (hP:netN es R<=1000) (hNs:∀r,r<R->Ns r<=20000) (r:Nat) (hr:r<R) (sb sc:Nat) (hsb:¬X sb):
  ∀(fu n:Nat) (f:Nat->Bool) (w:World),Ns r<fu+n->n<Ns r->GX X gb (netN es R) R tr ad cp ms Ts Ns es w->TC sb (bl f (netN es R+R)) w->Calls Tryz.prog 53 #[.pointer (some ⟨gb,0,none⟩),.int .i64 r,.int .i64 n,.slice (some ⟨sb,0,none⟩) (netN es R+R) sc] w (JnPost sb (netN es R+R) f (bhS (Ts r) (Ns r) (ixR es Ts r) (netN es R) r n) w)
 |0,n,f,w,hf,_,_,_=>by omega
 |fu+1,n,f,w,hf,hn,hG,hS=>by
  have hz:=q1Z;have hT3:=(hGm.t r hr).1;have hE:=q2r hT3.w hT3.u;obtain⟨P,hPe⟩:=nam (netN es R);have HI:Hid (∀(k:Nat) (f':Nat->Bool) (w':World),n<k->k<Ns r->GX X gb P R tr ad cp ms Ts Ns es w'->TC sb (bl f' (P+R)) w'->Calls Tryz.prog 53 #[.pointer (some ⟨gb,0,none⟩),.int .i64 r,.int .i64 k,.slice (some ⟨sb,0,none⟩) (P+R) sc] w' (JnPost sb (P+R) f' (bhS (Ts r) (Ns r) (ixR es Ts r) P r k) w')):=fun k f' w' hk1 hk2 h1 h2=>by
   rw[hPe]at h1 h2 ⊢;exact q5B X gb R tr ad cp ms Ts Ns es ti nd hGm hR hP hNs r hr sb sc hsb fu k f' w' (by omega) hk2 h1 h2
  have HBe:Hid (∀(k:Nat) (f':Nat->Bool) (w':World),k<Ns r->GX X gb P R tr ad cp ms Ts Ns es w'->TC sb (bl f' (P+R)) w'->Calls Tryz.prog 114 #[.pointer (some ⟨gb,0,none⟩),.int .i64 r,.int .i64 k,.slice (some ⟨sb,0,none⟩) (P+R) sc] w' (JnPost sb (P+R) f' (jnR (Ts r) (Ns r) (ixR es Ts r) (bgT (Ts r) k)) w')):=fun k f' w' hk h1 h2=>by
   rw[hPe]at h1 h2 ⊢;exact q3Q X gb R tr ad cp ms Ts Ns es ti nd hGm hR hP hNs r hr sb sc hsb (k+1) k f' w' (by omega) hk h1 h2
  have HNo:Hid (∀(k:Nat) (w':World),k<Ns r->TR (tr r) (Ts r) (Ns r) w'->Calls Tryz.prog 115 #[.pointer (some ⟨tr r,0,none⟩),.int .i64 k] w' fun e w''=>e=.returned (.bool (nlT (Ts r) k))/\Below w'.heap.size w' w''):=fun k w' hk h1=>by
   exact q1R (tr r) (Ts r) (Ns r) (by have:=hNs r hr;omega) hT3.w (fun i hi=>(hT3.k i hi).1) (nlT (Ts r)) hE.nl0 hE.nl1 hE.nl2 hE.nl3 (k+1) k w' (by omega) hk h1 (fun i hi=>by have:=(hT3.k i hi).2;omega)
  have hNb:=hNs r hr;have hupn:=hT3.u n hn;have hatn:=hT3.a n hn;have HGX:Hid (GX X gb P R tr ad cp ms Ts Ns es w):=by rw[hPe];exact hG
  have HSX:Hid (∀w',SF sb w w'->TRm (tr r) (Ts r) (Ns r) (ad r) (cp r) (ms r) w'/\GX X gb P R tr ad cp ms Ts Ns es w'):=fun w' hf=>by
   have hA:AgX X w w':=fun k hk=>hf.k k (hG.s k hk) (fun e=>hsb (e▸hk))
   obtain⟨_,_,_,h3⟩:=hG.t w' hA hf.b.size;obtain⟨_,_,_,_,h4⟩:=h3 r hr;exact⟨h4,HGX.out.keep hA hf.b.size⟩
  obtain⟨ta,tc,ct,htr⟩:=hG.t w (AgX.refl _ _) (Nat.le_refl _);obtain⟨tb0,to0,et,cpt,hTR⟩:=htr r hr;subst et;obtain⟨pa,pc,cP⟩:=hG.p w (AgX.refl _ _) (Nat.le_refl _);have c0:=hTR.c;have rn:=(hTR.n n hn).1;have cU:=rn 3 _ rfl;have cA:=rn 4 _ rfl;rw[<-hPe]at hG hS hP cP ⊢;have hsbw:sb<w.heap.size:=by
   have:=(hS 0 (.bool (f 0)) (q0x _ (by omega))).1;exact World.block_lt_of_cell? w _ this
  obtain⟨N,hN⟩:=nam (Ns r);obtain⟨nb,hnb⟩:=nam (ad r);obtain⟨nc,hnc⟩:=nam (cp r);obtain⟨tp,htp⟩:=nam (tr r);obtain⟨T,hTe⟩:=nam (Ts r);obtain⟨mr,hmr⟩:=nam (ms r);obtain⟨ix,hixe⟩:=nam (ixR es Ts r);have HT3:Hid (Wf T N/\Upf T N/\n<N/\∀i,i<N->(T i).kind<=4/\(T i).kids.length<=1000):=by rw[hTe,hN];exact⟨hT3.w,hT3.u,hn,hT3.k⟩
  simp only[<-hN,<-hTe,<-hixe,<-htp,<-hnb,<-hnc,<-hmr]at HI HBe HNo hNb hupn hatn HSX cpt c0 cU cA hn ⊢;have HS:=hyd hS;have hr':(r:Int)<R:=by omega
  have hR':(R:Int)<=1000:=by omega
  have hP':(P:Int)<=1000:=by omega
  have hn':(n:Int)<N:=by omega
  have hN':(N:Int)<=20000:=by omega
  have Hsbw:=hyd hsbw;clear hG hGm hT3 hE htr hTR hNs hPe hnb hnc htp hTe hmr hixe hN rn;by_cases hroot:(T n).up<0
  ·have hup:(T n).up=-1:=by omega
   obtain⟨k1,k2⟩:=hS (P+r) _ (q0x _ (by omega));rw[hup]at cU;have hq:(P:Int)+(r:Int)<P+(R:Int):=by omega
   have HR:Hid (JnPost sb (P+R) f (bhS T N ix P r n) w (.returned (.tuple #[])) (w.setCell ⟨sb,P+r,none⟩ (.bool true))):=by
    refine⟨rfl,?_,(SF.of (by omega) (Below.refl _ _)).set _ _⟩;rw[q1W (fun q=>by rw[y1X HT3.out.1 HT3.out.2.1 HT3.out.2.2.1 hroot])];exact q9R HS.out (show P+r<P+R by omega)
   clear hS hup hupn hroot;go_enter Tryz.func53,Tryz.ntmps53;go_wp2_with fail
   ((try simp only[Exit.inBlock,Exit.then]);refine bodyPost_ret (results_none rfl _ _ _) rfl ?_)
   exact HR.out
  obtain⟨u,hu⟩:∃u:Nat,(T n).up=u:=⟨(T n).up.toNat,by omega⟩;rw[hu]at cU hupn;have hnu:n<u:=by omega
  have huN:u<N:=by omega
  have huN':(u:Int)<N:=by omega
  have hu0:¬(u:Int)<0:=by omega
  obtain⟨tm0,_⟩:=HSX.out w (SF.of (by omega) (Below.refl _ _));obtain⟨rr,o,il,_⟩:=tm0.n u huN;unfold ndL at rr;obtain⟨d,hd⟩:=nam (T u);obtain⟨at0,hat⟩:=nam ((T n).at_);obtain⟨vin,hvin⟩:=nam (mr.vin u);obtain⟨ka,hka⟩:=nam (mr.ka u);obtain⟨kc,hkc⟩:=nam (mr.kc u);have HIL:Hid (∀w',SF sb w w'->IL ka (fun k=>((d.kids.getD k 0:Nat):Int)) d.kids.length w'/\TR tp T N w'/\GX X gb P R tr ad cp ms Ts Ns es w'):=fun w' hf=>by
   obtain⟨tm,gx⟩:=HSX.out w' hf;rw[hka,hd];exact⟨(tm.n u huN).2.2.1,tm.tr,gx⟩
  rw[<-hd,<-hvin,<-hka,<-hkc]at rr;rw[<-hvin]at o;rw[<-hat]at cA hatn;have hkb:=HT3.out.2.2.2 u huN;rw[<-hd]at hkb;obtain⟨m,hm⟩:=nam d.kids.length;have Hm:=hyd hm;have hmb:(m:Int)<=1000:=by omega
  have hat':(at0:Int)<=1000:=by omega
  have Hu:Hid ((T n).up=(u:Int)/\d=T u/\at0=(T n).at_/\u<N/\∀k∈d.kids,k<N):=⟨hu,hd,hat,huN,fun k hk=>by
   rw[hd]at hk;have:=HT3.out.1 u huN k hk;omega⟩
  have hkd4:=hkb.1;clear hS hu hd hat hvin hka hkc tm0 il hroot hupn hkb hm;go_enter Tryz.func53,Tryz.ntmps53;go_wp2_with (first|(with_reducible refine gld 118 ?_;refine Stop.out ?_));refine⟨?_⟩;refine wpList_load_mid rfl 118 _ rfl nb (u*5) rfl (ndC d vin ka kc) _ rr Tryz.underlying118 rfl q1y ?_
  (try simp only[psm])
  go_wp2_with (first|(with_reducible refine gst 118 ?_;refine Stop.out ?_));refine⟨?_⟩;obtain⟨w2,hw2⟩:=nam ((w.alloc (.cells nodZ.toArray 118)).setCells w.heap.size 0 (ndC d vin ka kc));have hbo:=q1o w nodZ (ndC d vin ka kc) 118 rfl;have T2:TC w.heap.size (ndC d vin ka kc) w2:=by rw[hw2];exact q4s hbo.2.2.2
  rw[<-hw2]at hbo;obtain⟨B2,_,s2,t2⟩:=hbo;refine wpList_store_mid rfl 118 _ _ rfl w.heap.size 0 (ndC d vin ka kc).toArray rfl rfl t2 q1y (by simp only[ndC,List.all_toArray,List.all_cons,o];rfl) ?_;rw[List.toList_toArray];have hw2':w2=(w.alloc (.cells #[.int .i64 0,.slice none 0 0,.slice none 0 0,.int .i64 0,.int .i64 0] 118)).setCells w.heap.size 0 (ndC d vin ka kc):=hw2;rw[<-hw2'];have ck:=(T2 0 _ rfl).1;have cK:=(T2 2 _ rfl).1;rw[<-Hm.out]at cK;have TS2:TC sb (bl f (P+R)) w2:=HS.out.block (B2.block sb hsbw);have F2:SF sb w w2:=SF.of (by omega) B2;have cA2:w2.cell? ⟨nb,n*5+4,none⟩=some (.int .i64 (at0:Int)):=by rw[B2.cell (p:=⟨nb,n*5+4,none⟩) (World.block_lt_of_cell? w _ cA)];exact cA
  have c02:w2.cell? ⟨tp,0,none⟩=some (.slice (some ⟨nb,0,none⟩) N nc):=by rw[B2.cell (p:=⟨tp,0,none⟩) (World.block_lt_of_cell? w _ c0)];exact c0
  have H2:=hyd3 F2 T2 TS2;clear hw2 hw2' t2 rr T2 TS2 F2 B2 c0 cA cU ct cpt cP;have HUp:Hid (∀(g:Nat->Bool) (w':World),SF sb w w'->TC sb (bl (fun q=>f q || g q) (P+R)) w'->(∀q,bhS T N ix P r n q=(g q || bhS T N ix P r u q))->Calls Tryz.prog 53 #[.pointer (some ⟨gb,0,none⟩),.int .i64 r,.int .i64 u,.slice (some ⟨sb,0,none⟩) (P+R) sc] w' (JnPost sb (P+R) f (bhS T N ix P r n) w)):=fun g w' h1 h2 h3=>by
   refine(HI.out u _ w' hnu (Hu.out.2.2.2.1) (HIL.out w' h1).2.2 h2).mono ?_;rintro e w'' ⟨h4,h5,h6⟩;refine⟨h4,?_,h1.trans h6⟩;rw[q1W (g:=fun q=>(f q || g q) || bhS T N ix P r u q) (fun q=>by rw[h3 q,Bool.or_assoc])];exact h5
  clear HI;by_cases e1:d.kind=1
  ·have q1:((d.kind:Int)==1)=true:=by simp[e1]
   obtain⟨ds,hds⟩:=nam (d.kids.drop (at0+1));have Hds:=hyd hds;have Hstop:Hid (ds.all (nlT T)=false->∀q,bhS T N ix P r n q=jnR T N ix (kdB true (bgT T) (nlT T) ds) q):=fun ha q=>by
    obtain⟨u1,u2,u3,u4,_⟩:=Hu.out;have:=q7A (ix:=ix) (P:=P) (r:=r) HT3.out.1 HT3.out.2.1 HT3.out.2.2.1 u1 (by rw[<-u2];exact e1) (by rw[<-u2,<-u3,<-hds];exact ha) q;rw[<-u2,<-u3,<-hds]at this;exact this
   have Hgo:Hid (ds.all (nlT T)=true->∀q,bhS T N ix P r n q=(jnR T N ix (kdB true (bgT T) (nlT T) ds) q || bhS T N ix P r u q)):=fun ha q=>by
    obtain⟨u1,u2,u3,u4,_⟩:=Hu.out;have:=y3c (ix:=ix) (P:=P) (r:=r) HT3.out.1 HT3.out.2.1 HT3.out.2.2.1 u1 (by rw[<-u2];exact e1) (by rw[<-u2,<-u3,<-hds];exact ha) q;rw[<-u2,<-u3,<-hds]at this;exact this
   clear hds e1;go_wp2_with fail
   go_loopw [11] (fun x w'=>∃j:Nat,(j=0\/at0+1+j<=m)/\x=.int .i64 ((at0+1+j:Nat):Int)/\Hid ((ds.take j).all (nlT T)=true)/\SF sb w w'/\TC w.heap.size (ndC d vin ka kc) w'/\TC sb (bl (fun q=>f q || jnR T N ix (kdB true (bgT T) (nlT T) (ds.take j)) q) (P+R)) w'/\w.heap.size+1<=w'.heap.size) (fun x _=>m-(intOf x).toNat)
   case atStart=>
    refine⟨0,Or.inl rfl,by go_num,by show _=_;simp,H2.out.1,H2.out.2.1,?_,s2⟩;rw[q1W (g:=f) (fun q=>?_)]
    ·exact H2.out.2.2
    ·rw[q0S (k:=fun _=>false) (fun mm=>by rw[List.take_zero,y0B]),q6r,Bool.or_false]
   case round=>
    clear ck cK H2 s2 cA2 c02;obtain⟨j,hj,rfl,Hrw,F,T2,TS,sz⟩:=hrel;have ck:=(T2 0 _ rfl).1;have cK:=(T2 2 _ rfl).1;rw[<-Hm.out]at cK;obtain⟨i,hi⟩:=nam (at0+1+j);rw[<-hi]at hj ⊢;have Hi:=hyd hi;clear hi;by_cases hlt:i<m
    ·have hlt':(i:Int)<m:=by omega
     obtain⟨k,hk⟩:∃k,d.kids[i]?=some k:=⟨d.kids[i]'(by have:=Hm.out;omega),List.getElem?_eq_getElem _⟩;obtain⟨il,tr0,gx⟩:=HIL.out wr F;obtain⟨g,og,eg,cg⟩:=il i (by have:=Hm.out;omega);subst eg;simp only[List.getD_eq_getElem?_getD,hk,Option.getD_some]at cg;have hmem:=List.mem_of_getElem? hk;have hkN:=Hu.out.2.2.2.2 k hmem;have hdk:ds[j]?=some k:=by rw[Hds.out,List.getElem?_drop,<-Hi.out];exact hk
     have htk:ds.take (j+1)=ds.take j++[k]:=by rw[List.take_add_one,hdk];rfl
     have HCb:=hyd (HBe.out k _ wr hkN gx TS);have Hset:Hid (∀q,((f q || jnR T N ix (kdB true (bgT T) (nlT T) (ds.take j)) q) || jnR T N ix (bgT T k) q)=(f q || jnR T N ix (kdB true (bgT T) (nlT T) (ds.take (j+1))) q)):=fun q=>by
      rw[Bool.or_assoc,q8Q,htk,q0S (fun mm=>(q8P (fun _=>Hrw.out) k mm).symm)]
     have HF:=hyd2 F T2;have HNk:Hid (∀w',TR tp T N w'->Calls Tryz.prog 115 #[.pointer (some ⟨tp,0,none⟩),.int .i64 k] w' fun e w''=>e=.returned (.bool (nlT T k))/\Below w'.heap.size w' w''):=fun w' h1=>HNo.out k w' hkN h1
     have Htk:=hyd htk;obtain⟨V,hV⟩:=nam (nlT T k);rw[<-hV]at HNk;have HV:=hyd hV;have Hcg:Hid (∀w',SF sb w w'->w'.cell? ⟨g,og+i,none⟩=some (.int .i64 (k:Int))):=fun w' hf=>by
      obtain⟨il',_,_⟩:=HIL.out w' hf;obtain⟨g',og',eg',cg'⟩:=il' i (by have:=Hm.out;omega);cases eg';simp only[List.getD_eq_getElem?_getD,hk,Option.getD_some]at cg';exact cg'
     clear F T2 TS il tr0 gx hk hmem htk hV hdk;go_wp2_with fail;refine HCb.out.mono ?_;rintro e w3 ⟨rfl,TS3,F3⟩;have F03:=HF.out.1.trans F3;have T3:TC w.heap.size (ndC d vin (some ⟨g,og,none⟩) kc) w3:=HF.out.2.block (F3.k _ (by omega) (by have:=Hsbw.out;omega));have sz3:w.heap.size+1<=w3.heap.size:=by have:=F3.b.size;omega
     have ck3:=(T3 0 _ rfl).1;have cK3:=(T3 2 _ rfl).1;rw[<-Hm.out]at cK3;have cg3:=Hcg.out w3 F03;have HN3:=hyd (HNk.out w3 (HIL.out w3 F03).2.1);have H3:Hid (SF sb w w3/\TC w.heap.size (ndC d vin (some ⟨g,og,none⟩) kc) w3/\TC sb (bl (fun q=>f q || jnR T N ix (kdB true (bgT T) (nlT T) (ds.take (j+1))) q) (P+R)) w3):=⟨F03,T3,by rw[<-q1W Hset.out];exact TS3⟩;clear HCb F3 TS3 T3 ck cK cg HNk F03 HF;go_wp2_with fail;refine HN3.out.mono ?_;rintro e w4 ⟨rfl,B4⟩;obtain⟨F3,T3,TS3⟩:=H3.out;have F4:SF sb w w4:=F3.trans (SF.of (by have:=Hsbw.out;omega) B4);have T4:TC w.heap.size (ndC d vin (some ⟨g,og,none⟩) kc) w4:=T3.block (B4.block _ (by omega));have TS4:TC sb (bl (fun q=>f q || jnR T N ix (kdB true (bgT T) (nlT T) (ds.take (j+1))) q) (P+R)) w4:=TS3.block (B4.block _ (by have:=Hsbw.out;omega));have sz4:w.heap.size+1<=w4.heap.size:=by have:=B4.size;omega
     have H4:=hyd3 F4 T4 TS4;have Hall:Hid ((ds.take (j+1)).all (nlT T)=V):=by
      show _=_;rw[Htk.out,List.all_append,Hrw.out,HV.out];simp
     clear F3 T3 TS3 F4 T4 TS4 H3 HN3 ck3 cK3 cg3 B4;cases V
     ·have HR:Hid (JnPost sb (P+R) f (bhS T N ix P r n) w (.returned (.tuple #[])) w4):=by
       refine⟨rfl,?_,H4.out.1⟩;have hfa:ds.all (nlT T)=false:=by
        have h1:=Hall.out;have h2:ds.all (nlT T)=((ds.take (j+1)).all (nlT T)&&(ds.drop (j+1)).all (nlT T)):=by rw[<-List.all_append,List.take_append_drop]
        rw[h2,h1];rfl
       rw[q1W (g:=fun q=>f q || jnR T N ix (kdB true (bgT T) (nlT T) (ds.take (j+1))) q) (fun q=>?_)]
       ·exact H4.out.2.2
       ·congr 1;rw[Hstop.out hfa q];exact q0S (fun mm=>q8O Hall.out mm) q
      go_wp2_with fail
      ((try simp only[Exit.inBlock,Exit.then]);refine bodyPost_ret (results_none rfl _ _ _) rfl ?_)
      exact HR.out
     ·go_wp2_with fail;go_roundw
      case rel=>exact⟨j+1,Or.inr (by have:=Hi.out;omega),by have:=Hi.out;go_num,Hall,H4.out.1,H4.out.2.1,H4.out.2.2,sz4⟩
      case measure=>simp[intOf];omega
    ·have hge:¬(i:Int)<m:=by omega
     have ht:ds.take j=ds:=by
      refine List.take_of_length_le ?_;have h1:=Hi.out;have h2:=Hm.out;rw[Hds.out,List.length_drop];omega
     rw[ht]at TS Hrw;have HU2:=hyd (HUp.out _ wr F TS (Hgo.out Hrw.out));clear TS T2 ht F HUp;go_wp2_with fail;refine HU2.out.mono ?_;rintro e w4 ⟨rfl,hpost⟩;go_wp2_with fail;go_end0;exact⟨rfl,hpost⟩
  ·have q1:((d.kind:Int)==1)=false:=by simp;omega
   by_cases e34:d.kind=3\/d.kind=4
   ·have HC:=hyd (HBe.out n f w2 hn (HIL.out w2 H2.out.1).2.2 H2.out.2.2);have HU1:Hid (∀(w':World),SF sb w w'->TC sb (bl (fun q=>f q || jnR T N ix (bgT T n) q) (P+R)) w'->Calls Tryz.prog 53 #[.pointer (some ⟨gb,0,none⟩),.int .i64 r,.int .i64 u,.slice (some ⟨sb,0,none⟩) (P+R) sc] w' (JnPost sb (P+R) f (bhS T N ix P r n) w)):=fun w' h1 h2=>HUp.out _ w' h1 h2 (fun q=>y1Y HT3.out.1 HT3.out.2.1 HT3.out.2.2.1 Hu.out.1 (by rw[<-Hu.out.2.1];exact e34) q)
    by_cases e3:d.kind=3
    ·have q3:((d.kind:Int)==3)=true:=by simp[e3]
     clear HUp e34 e3;go_wp2_with fail;refine HC.out.mono ?_;rintro e w3 ⟨rfl,TS3,F3⟩;have F03:=H2.out.1.trans F3;have HU2:=hyd (HU1.out w3 F03 TS3);clear TS3 F3 F03 HU1;go_wp2_with fail;refine HU2.out.mono ?_;rintro e w4 ⟨rfl,hpost⟩;go_wp2_with fail;go_end0;exact⟨rfl,hpost⟩
    ·have q3:((d.kind:Int)==3)=false:=by simp;omega
     have q4:((d.kind:Int)==4)=true:=by simp;omega
     clear HUp e34 e3;go_wp2_with fail;refine HC.out.mono ?_;rintro e w3 ⟨rfl,TS3,F3⟩;have F03:=H2.out.1.trans F3;have HU2:=hyd (HU1.out w3 F03 TS3);clear TS3 F3 F03 HU1;go_wp2_with fail;refine HU2.out.mono ?_;rintro e w4 ⟨rfl,hpost⟩;go_wp2_with fail;go_end0;exact⟨rfl,hpost⟩
   ·have q3:((d.kind:Int)==3)=false:=by simp;omega
    have q4:((d.kind:Int)==4)=false:=by simp;omega
    have HU2:Hid (Calls Tryz.prog 53 #[.pointer (some ⟨gb,0,none⟩),.int .i64 r,.int .i64 u,.slice (some ⟨sb,0,none⟩) (P+R) sc] w2 (JnPost sb (P+R) f (bhS T N ix P r n) w)):=HUp.out (fun _=>false) w2 H2.out.1 (by rw[q1W (g:=f) (fun q=>Bool.or_false _)];exact H2.out.2.2) (fun q=>by
     rw[Bool.false_or];exact y0U HT3.out.2.1 HT3.out.2.2.1 Hu.out.1 (by rw[<-Hu.out.2.1];exact e1) (by rw[<-Hu.out.2.1];omega) (by rw[<-Hu.out.2.1];omega) q)
    clear HUp e34;go_wp2_with fail;refine HU2.out.mono ?_;rintro e w4 ⟨rfl,hpost⟩;go_wp2_with fail;go_end0;exact⟨rfl,hpost⟩
variable {ms : Nat → Lie}{Ts : Nat → Nat → Nd}{es : Nat → Rx}
theorem GX.gl {ad:Nat->Nat} (h:GX X gb P R tr ad cp ms Ts Ns es w):GL gb P R w:=by
 obtain⟨a,c,h0,_⟩:=h.t w (AgX.refl _ _) (Nat.le_refl _);obtain⟨a1,c1,h1⟩:=h.p w (AgX.refl _ _) (Nat.le_refl _);exact⟨⟨a,c,h0⟩,a1,c1,h1⟩
theorem y2a (es:Nat->Rx) (Ts:Nat->Nat->Nd) (Ns:Nat->Nat) (P r q:Nat):atS es Ts Ns P (r+1) q=(atS es Ts Ns P r q || (jnR (Ts r) (Ns r) (ixR es Ts r) (bgT (Ts r) (Ns r-1)) q || (decide (q=P+r)&&nlT (Ts r) (Ns r-1)))):=by
 unfold atS;rw[List.range_succ,List.any_append];simp
theorem y2R (X:Nat->Prop) (gb R:Nat) (tr ad cp:Nat->Nat) (ms:Nat->Lie) (Ts:Nat->Nat->Nd) (Ns:Nat->Nat) (es:Nat->Rx) (ti nd:Nat->Nat) (hGm:Gm R Ts Ns es ti nd) (hR:R<=1000) (hP:netN es R<=1000) (hNs:∀r,r<R->Ns r<=20000) (w:World) (hG:GX X gb (netN es R) R tr ad cp ms Ts Ns es w):
  Calls Tryz.prog 55 #[.pointer (some ⟨gb,0,none⟩)] w fun e w'=>e=.returned (.slice (some ⟨w.heap.size,0,none⟩) (netN es R+R) (netN es R+R))/\TC w.heap.size (bl (atS es Ts Ns (netN es R) R) (netN es R+R)) w'/\Below w.heap.size w w'/\w.heap.size+1<=w'.heap.size:=by
 obtain⟨P,hPe⟩:=nam (netN es R);have hXs:¬X w.heap.size:=fun h=>by have:=hG.s _ h;omega
 have HBe:Hid (∀(r k:Nat) (f':Nat->Bool) (w':World),r<R->k<Ns r->GX X gb P R tr ad cp ms Ts Ns es w'->TC w.heap.size (bl f' (P+R)) w'->Calls Tryz.prog 114 #[.pointer (some ⟨gb,0,none⟩),.int .i64 r,.int .i64 k,.slice (some ⟨w.heap.size,0,none⟩) (P+R) (P+R)] w' (JnPost w.heap.size (P+R) f' (jnR (Ts r) (Ns r) (ixR es Ts r) (bgT (Ts r) k)) w')):=fun r k f' w' hr hk h1 h2=>by
  rw[hPe]at h1 h2 ⊢;exact q3Q X gb R tr ad cp ms Ts Ns es ti nd hGm hR hP hNs r hr w.heap.size _ hXs (k+1) k f' w' (by omega) hk h1 h2
 have HNo:Hid (∀(r k:Nat) (w':World),r<R->k<Ns r->TR (tr r) (Ts r) (Ns r) w'->Calls Tryz.prog 115 #[.pointer (some ⟨tr r,0,none⟩),.int .i64 k] w' fun e w''=>e=.returned (.bool (nlT (Ts r) k))/\Below w'.heap.size w' w''):=fun r k w' hr hk h1=>by
  have hT3:=(hGm.t r hr).1;have hE:=q2r hT3.w hT3.u;exact q1R (tr r) (Ts r) (Ns r) (by have:=hNs r hr;omega) hT3.w (fun i hi=>(hT3.k i hi).1) (nlT (Ts r)) hE.nl0 hE.nl1 hE.nl2 hE.nl3 (k+1) k w' (by omega) hk h1 (fun i hi=>by have:=(hT3.k i hi).2;omega)
 have HN1:Hid (∀r,r<R->1<=Ns r/\Ns r<=20000):=fun r hr=>⟨(hGm.t r hr).2.1,hNs r hr⟩
 rw[<-hPe]at hG hP ⊢;have HNo0:=hyd (q3s gb P R w hP hR hG.gl);have HGX:Hid (∀w',Below w.heap.size w w'->GX X gb P R tr ad cp ms Ts Ns es w'):=fun w' h=>hG.below h
 have hR':(R:Int)<=1000:=by omega
 clear hG hGm hNs hPe;go_enter Tryz.func55,Tryz.ntmps55;go_wp2_with fail;refine HNo0.out.mono ?_;rintro e w1 ⟨rfl,T1,B1,s1⟩;clear HNo0;go_wp2_with fail
 go_loopw [4] (fun x w'=>∃r:Nat,r<=R/\x=.int .i64 r/\TC w.heap.size (bl (atS es Ts Ns P r) (P+R)) w'/\Below w.heap.size w w'/\w.heap.size+1<=w'.heap.size) (fun x _=>R-(intOf x).toNat)
 case atStart=>exact⟨0,by omega,rfl,by rw[q1W (g:=fun _=>false) (fun q=>by simp[atS])];exact T1,B1,s1⟩
 case round=>
  clear T1 B1 s1;obtain⟨r,hr,rfl,TS,B,sz⟩:=hrel;have gx:=HGX.out wr B;obtain⟨ta,tc,ct,htr⟩:=gx.t wr (AgX.refl _ _) (Nat.le_refl _);by_cases hlt:r<R
  ·have hlt':(r:Int)<R:=by omega
   obtain⟨tb0,to0,et,cpt,hTR⟩:=htr r hlt;subst et;have c1:=hTR.r;obtain⟨n1,n2⟩:=HN1.out r hlt;obtain⟨rt,hrt⟩:=nam (Ns r-1);rw[show((Ns r:Int)-1)=(rt:Int) by omega]at c1;obtain⟨tp,htp⟩:=nam (tr r);rw[<-htp]at c1 cpt;have HC:=hyd (HBe.out r rt _ wr hlt (by omega) gx TS);obtain⟨V,hV⟩:=nam (nlT (Ts r) rt);have HNk:Hid (∀w',TR tp (Ts r) (Ns r) w'->Calls Tryz.prog 115 #[.pointer (some ⟨tp,0,none⟩),.int .i64 rt] w' fun e w''=>e=.returned (.bool V)/\Below w'.heap.size w' w''):=fun w' h1=>by
    rw[hV,htp];rw[htp]at h1;exact HNo.out r rt w' hlt (by omega) h1
   have Hsu:Hid (∀q,atS es Ts Ns P (r+1) q=((atS es Ts Ns P r q || jnR (Ts r) (Ns r) (ixR es Ts r) (bgT (Ts r) rt) q) || (decide (q=P+r)&&V))):=fun q=>by rw[y2a,hV,hrt,Bool.or_assoc]
   have Htr:Hid (∀w',Below w.heap.size w w'->TR tp (Ts r) (Ns r) w'/\w'.cell? ⟨tp,1,none⟩=some (.int .i64 (rt:Int))/\(∃a c,w'.cell? ⟨gb,1,none⟩=some (.slice a P c))):=fun w' h=>by
    have gx':=HGX.out w' h;obtain⟨_,_,_,h2⟩:=gx'.t w' (AgX.refl _ _) (Nat.le_refl _);obtain⟨_,_,_,_,h3⟩:=h2 r hlt;rw[htp];refine⟨h3.tr,?_,gx'.p w' (AgX.refl _ _) (Nat.le_refl _)⟩;rw[h3.r];congr 2;omega
   have HB:=hyd B;clear gx htr hTR TS hV hrt htp n1 n2 B;go_wp2_with fail;refine HC.out.mono ?_;rintro e w2 ⟨rfl,TS2,F2⟩;have B2:=HB.out.trans F2.b;obtain⟨tr2,c12,pa2,pc2,cP2⟩:=Htr.out w2 B2;have HN2:=hyd (HNk.out w2 tr2);have sz2:w.heap.size+1<=w2.heap.size:=by have:=F2.b.size;omega
   have H2:=hyd2 TS2 B2;clear HC TS2 F2 B2 tr2 HNk c1 cpt ct;go_wp2_with fail;refine HN2.out.mono ?_;rintro e w3 ⟨rfl,B3⟩;have TS3:=H2.out.1.block (B3.block _ (by omega));have BB3:Below w.heap.size w w3:=H2.out.2.trans (B3.mono (by omega));obtain⟨_,_,pa3,pc3,cP3⟩:=Htr.out w3 BB3;have sz3:w.heap.size+1<=w3.heap.size:=by have:=B3.size;omega
   clear HN2 H2 B3 c12 cP2;cases V
   ·have H3:Hid (TC w.heap.size (bl (atS es Ts Ns P (r+1)) (P+R)) w3):=by
     show TC _ _ _;rw[q1W (fun q=>by rw[Hsu.out q,Bool.and_false,Bool.or_false])];exact TS3
    clear TS3;go_wp2_with fail;go_roundw
    case rel=>exact⟨r+1,by omega,by go_num,H3.out,BB3,sz3⟩
    case measure=>simp[intOf];omega
   ·obtain⟨k1,k2⟩:=TS3 (P+r) _ (q0x _ (by omega));have H3:Hid (TC w.heap.size (bl (atS es Ts Ns P (r+1)) (P+R)) (w3.setCell ⟨w.heap.size,P+r,none⟩ (.bool true))):=by
     show TC _ _ _;rw[q1W (fun q=>by rw[Hsu.out q,Bool.and_true])];exact q9R TS3 (by omega)
    clear TS3;go_wp2_with fail;go_roundw
    case rel=>exact⟨r+1,by omega,by go_num,H3.out,BB3.setCell (p:=⟨w.heap.size,P+r,none⟩) (Nat.le_refl _) _,by rw[World.size_setCell];exact sz3⟩
    case measure=>simp[intOf];omega
  ·have hge:¬(r:Int)<R:=by omega
   have hrR:r=R:=by omega
   subst hrR;have HTS:=hyd TS;clear TS gx htr;go_wp2_with fail;go_ret;exact⟨rfl,HTS.out,B,sz⟩
open Pg (Pt)
theorem q3L (v:Value) (e r a:Int) (w:World) (he:e≠0) (hC:∀W,Below w.heap.size w W->Calls Tryz.prog 124 #[v] W fun e' w'=>e'=.returned (.tuple #[.int .i64 e,.int .i64 r,.int .i64 a])/\Below W.heap.size W w'):
  Calls Tryz.prog 34 #[v] w fun en w'=>en=.returned (.tuple #[.agg macZ.toArray,.int .i64 e])/\Below w.heap.size w w':=by
 have hz:=q1i;have hz2:=q3Y;have hq2:(e != 0)=true:=by simp[he]
 obtain⟨W0,hW0⟩:=nam (w.alloc (.cells #[.int .i64 0,.slice none 0 0,.slice none 0 0,.slice none 0 0] 25));have T0:TC w.heap.size macZ W0:=by rw[hW0];exact TC.boxed w macZ _
 have B0:Below w.heap.size w W0:=by rw[hW0];exact box_bel _ _
 have hs0:W0.heap.size=w.heap.size+1:=by rw[hW0];simp
 have HOf:=hyd (y3w v e r a W0 he (fun W hW=>hC W (B0.trans (hW.mono (by omega)))));have HW0:=hyd hW0;have Hs0:=hyd hs0;clear hW0 hs0 hC he;go_enter Tryz.func34,Tryz.ntmps34;go_wp2_with fail;rw[<-HW0.out];refine HOf.out.mono ?_;rintro en w2 ⟨rfl,B2⟩;have z2:w.heap.size+1<=w2.heap.size:=by have:=Hs0.out;have:=B2.size;omega
 have T2:=T0.block (B2.block _ (by have:=Hs0.out;omega));have Bw2:Below w.heap.size w w2:=B0.trans (B2.mono (by have:=Hs0.out;omega));obtain⟨Z,hZ⟩:=nam netZ;rw[<-hZ];have HZ:Hid (Z.length=106):=by show _=_;rw[hZ];exact q2p _ _ _
 have HOZ:Hid (Z.toArray.all (·.oneCell')=true):=by show _=true;rw[hZ];exact q4d rfl rfl _
 clear hZ B2 B0 T0 HOf HW0;go_wp2_with (first|(with_reducible refine gst 137 ?_;refine Stop.out ?_));refine⟨?_⟩;obtain⟨w3,hw3⟩:=nam ((w2.alloc (.cells netZ.toArray 137)).setCells w2.heap.size 0 Z);have hbo:=q1o w2 netZ Z 137 (by rw[HZ.out];exact(q2p _ _ _).symm);rw[<-hw3]at hbo;obtain⟨B3,r3,s3,t3⟩:=hbo;refine wpList_store_mid rfl 137 _ _ rfl w2.heap.size 0 Z.toArray rfl rfl (by simpa using t3) (by simpa[HZ.out]using q1U) HOZ.out ?_;rw[List.toList_toArray,<-hw3];have T3:=T2.block (B3.block _ (by omega));have Bw3:Below w.heap.size w w3:=Bw2.trans (B3.mono (by omega));obtain⟨tz,BX,hfin,_⟩:=q1e (.int .i64 0) (.slice none 0 0) (.slice none 0 0) (.slice none 0 0) T3 Bw3;obtain⟨WX,hWX⟩:=nam (w3.setCells w.heap.size 0 [.int .i64 0,.slice none 0 0,.slice none 0 0,.slice none 0 0]);rw[<-hWX]at BX hfin;have HWX:=hyd hWX;have Hfin:=hyd hfin;clear hw3 hWX hfin T3 Bw3 T2 Bw2 B3 r3 s3 t3 z2 HZ HOZ;go_wp2_with (first|(with_reducible refine gst 25 ?_;refine Stop.out ?_));refine⟨?_⟩;refine wpList_store_mid rfl 25 _ _ rfl w.heap.size 0 #[.int .i64 0,.slice none 0 0,.slice none 0 0,.slice none 0 0] rfl rfl tz q0D (by simp[Value.oneCell']) ?_;rw[List.toList_toArray,<-HWX.out];go_wp2_with fail;refine bodyPost_ret (v:=.tuple #[.agg #[.int .i64 0,.slice none 0 0,.slice none 0 0,.slice none 0 0],.int .i64 e]) (q0L Tryz.results34 rfl Hfin.out rfl) rfl ?_;exact⟨rfl,BX⟩
theorem q3l (v:Value) (w:World) (Q:World->Ending->World->Prop) (R:Ending->World->Prop) (hC:∀W,Below w.heap.size w W->W.heap.size=w.heap.size+1->Calls Tryz.prog 34 #[v] W (Q W))
  (hQ:∀en w' W,Below w.heap.size w W->W.heap.size=w.heap.size+1->Q W en w'->Below W.heap.size W w'/\∃a b c d e,en=.returned (.tuple #[.agg #[a,b,c,d],.int .i64 e])/\(#[a,b,c,d]:Array Value).all (·.oneCell')=true/\∀WX,w'.grownBy WX (some w.heap.size)->Below w.heap.size w WX->R en WX):
  Calls Tryz.prog 22 #[v] w R:=by
 have hz:=q1i;obtain⟨W0,hW0⟩:=nam (w.alloc (.cells #[.int .i64 0,.slice none 0 0,.slice none 0 0,.slice none 0 0] 25));have T0:TC w.heap.size macZ W0:=by rw[hW0];exact TC.boxed w macZ _
 have B0:Below w.heap.size w W0:=by rw[hW0];exact box_bel _ _
 have hs0:W0.heap.size=w.heap.size+1:=by rw[hW0];simp
 have HB:=hyd (hC W0 B0 hs0);have HW0:=hyd hW0;have HQ:Hid (∀en w',Q W0 en w'->Below W0.heap.size W0 w'/\∃a b c d e,en=.returned (.tuple #[.agg #[a,b,c,d],.int .i64 e])/\(#[a,b,c,d]:Array Value).all (·.oneCell')=true/\∀WX,w'.grownBy WX (some w.heap.size)->Below w.heap.size w WX->R en WX):=fun en w' h=>hQ en w' W0 B0 hs0 h
 have Hs0:=hyd hs0;clear hW0 hs0 hC hQ;go_enter Tryz.func22,Tryz.ntmps22;go_wp2_with fail;rw[<-HW0.out];refine HB.out.mono ?_;intro en w2 hq;obtain⟨B2,a,b,c,d,e,rfl,h1,hR⟩:=HQ.out en w2 hq;have T2:=T0.block (B2.block _ (by have:=Hs0.out;omega));have Bw2:Below w.heap.size w w2:=B0.trans (B2.mono (by have:=Hs0.out;omega));obtain⟨tz,BX,hfin,hG⟩:=q1e a b c d T2 Bw2;have HR:=hyd (hR _ hG BX);obtain⟨WX,hWX⟩:=nam (w2.setCells w.heap.size 0 [a,b,c,d]);rw[<-hWX]at hfin HR;have HWX:=hyd hWX;have Hfin:=hyd hfin;have H1:=hyd h1;clear hWX hfin hG BX hR hq T2 Bw2 B2 T0 B0 HQ HB HW0 h1;go_wp2_with (first|(with_reducible refine gst 25 ?_;refine Stop.out ?_));refine⟨?_⟩;refine wpList_store_mid rfl 25 _ _ rfl w.heap.size 0 #[a,b,c,d] rfl rfl tz q0D H1.out ?_;rw[List.toList_toArray,<-HWX.out];go_wp2_with fail;exact bodyPost_ret (v:=.tuple #[.agg #[a,b,c,d],.int .i64 e]) (q0L Tryz.results22 rfl Hfin.out rfl) rfl HR.out
theorem q6o:macZ.toArray.all (·.oneCell')=true:=by simp[macZ,Value.oneCell']
theorem q2N (v:Value) (e r a:Int) (w:World) (he:e≠0) (hC:∀W,Below w.heap.size w W->Calls Tryz.prog 124 #[v] W fun e' w'=>e'=.returned (.tuple #[.int .i64 e,.int .i64 r,.int .i64 a])/\Below W.heap.size W w'):
  Calls Tryz.prog 22 #[v] w fun en w'=>en=.returned (.tuple #[.agg macZ.toArray,.int .i64 e])/\Below w.heap.size w w':=by
 refine q3l v w (fun W en w'=>en=.returned (.tuple #[.agg macZ.toArray,.int .i64 e])/\Below W.heap.size W w') _ (fun W hW hs=>q3L v e r a W he (fun W' hW'=>hC W' (hW.trans (hW'.mono (by omega))))) ?_;rintro en w' W hW hs ⟨rfl,hB⟩;exact⟨hB,_,_,_,_,e,rfl,q6o,fun WX _ h=>⟨rfl,h⟩⟩
theorem q6k (b off cap n:Nat) (f:Nat->ByteArray) (w:World) (h1:1<=n) (h8:n<=8) (hb:b<w.heap.size) (hm:∀i,i<n->(f i).size<=maxLen) (hr:SRow b off f n w) (hok:∀j,j<n->(Pg.wrong (bat (f j)) (f j).size).1=0) (hsum:¬96<sumTo (fun j=>placesP (f j)) n):
  Calls Tryz.prog 22 #[.slice (some ⟨b,off,none⟩) n cap] w (MBPost (fun j=>rxOf (f j)) n w):=by
 refine q3l _ w (fun W=>MBPost (fun j=>rxOf (f j)) n W) _ (fun W hW hs=>q7l b off cap n f W h1 h8 (by omega) hm (hr.below hb hW) hok hsum) ?_;rintro en w' W hW hs ⟨hB,hp⟩;refine⟨hB,?_⟩;rcases hp with ⟨rfl,hx⟩|⟨l,t,A,hA,hE,⟨hc,rfl⟩|⟨hc,vc,vl,vn,kf,rfl,hk,o1,o2,o3,n1,n2,n3⟩⟩
 ·exact⟨_,_,_,_,8,rfl,q6o,fun WX _ h=>⟨h,Or.inl ⟨rfl,hx⟩⟩⟩
 ·exact⟨_,_,_,_,9,rfl,q6o,fun WX _ h=>⟨h,Or.inr ⟨l,t,A,hA,hE,Or.inl ⟨hc,rfl⟩⟩⟩⟩
 ·refine⟨_,_,_,_,0,rfl,?_,fun WX hG h=>⟨h,Or.inr ⟨l,t,A,hA,hE,Or.inr ⟨hc,vc,vl,vn,kf,rfl,hk,?_,?_,?_,n1,n2,n3⟩⟩⟩⟩
  ·obtain⟨_,_,e1,_⟩:=o1.il;obtain⟨_,_,e2,_⟩:=o2.il;obtain⟨_,_,e3,_⟩:=o3.il;show([.int .i64 n,vc,vl,vn]:List Value).toArray.all (·.oneCell')=true;rw[List.all_toArray,e1,e2,e3];rfl
  ·exact(o1.grown hG (fun q hq e=>by have:=Option.some.inj e;have:=(o1.blk q hq).1;omega)).mono (by omega)
  ·exact(o2.grown hG (fun q hq e=>by have:=Option.some.inj e;have:=(o2.blk q hq).1;omega)).mono (by omega)
  ·exact(o3.grown hG (fun q hq e=>by have:=Option.some.inj e;have:=(o3.blk q hq).1;omega)).mono (by omega)
end Go.Proofs.YtoaaklhpmhjhkaaGreat
