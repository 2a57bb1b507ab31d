import Derived.Test.YtoaaklhpmhjhkabGreatC43
set_option maxRecDepth 100000
set_option maxHeartbeats 4000000
set_option linter.all false
namespace Go.Proofs.YtoaaklhpmhjhkabGreat
open Go.RowKit
open Bm
variable {x:ByteArray}{rule:Int}{N base k n:Nat}{la:Option Addr}{w:World}
theorem Xi.rowS {lc:Nat}{l:List ByteArray} (h:Xi base (.slice la l.length lc) l w):Qr la (fun j=>l.getD j ⟨#[]⟩) l.length w:=fun i hi=>by
 obtain⟨g,cap,e,hr,_⟩:=h.row (by omega);cases e;refine⟨g,0,rfl,?_⟩;have:=hr i hi;exact this
def Ix (F:Nat->ByteArray) (n:Nat):List ByteArray:=(List.range n).map (TQ F)
theorem Jx (F:Nat->ByteArray) (n:Nat):Ix F (n+1)=Ix F n++[TQ F n]:=by simp[Ix,List.range_succ]
theorem Th (F:Nat->ByteArray) (n:Nat):(Ix F n).length=n:=by simp[Ix]
theorem Gs (F:Nat->ByteArray) {n j:Nat} (h:j<n):(Ix F n).getD j ⟨#[]⟩=TQ F j:=by
 rw[List.getD_eq_getElem?_getD,Ix,List.getElem?_map,List.getElem?_range h];rfl
theorem Hh (f:Nat->ByteArray) {n j:Nat} (h:j<n):(TH f n).getD j ⟨#[]⟩=OD (f j):=by
 rw[List.getD_eq_getElem?_getD,TH,List.getElem?_map,List.getElem?_range h];rfl
theorem RF {a:Nat} (_h:a+k<=x.size):SH (x.extract a x.size) 0 k=SH x a k:=by
 unfold SH;have e:(x.extract a x.size).data.toList=x.data.toList.drop a:=by
  simp[ByteArray.data_extract,List.extract_eq_take_drop];rw[List.take_of_length_le];simp
 rw[e,List.drop_zero]
theorem Ib {ws:Nat->List Nat}{a:Nat} (ha:a<=x.size) (h:Iv ws N (x.extract a x.size) 0 rule n):Iv ws N x a rule n:=by
 have hs:(x.extract a x.size).size=x.size-a:=by simp
 rcases h with ⟨h1,h2,h3⟩|⟨q,q1,q2,q3,q4,q5,q6,q7⟩
 ·refine Or.inl ⟨h1,h2,fun r hr k hk hy=>?_⟩;rw[<-RF hy];exact h3 r hr k hk (by omega)
 ·refine Or.inr ⟨q,q1,q2,q3,by omega,by rw[<-RF (by omega)];exact q5,fun r hr k hk hy=>?_,fun r hr=>?_⟩
  ·rw[<-RF hy];exact q6 r hr k hk (by omega)
  ·rw[<-RF (by omega)];exact q7 r hr
variable {T:Tb}
theorem Mg {L:List (Int × Int × Int)}{a:Nat} (h:L.drop k=RG T x x.size a) (hk:k<L.length) (_ha:a<=x.size):
  a<x.size/\L[k]?=some ((WP T x a).1,(a:Int),(WP T x a).2)/\L.drop (k+1)=RG T x x.size (a+(WP T x a).2.toNat):=by
 have hlt:a<x.size:=by
  by_cases e:a<x.size
  ·exact e
  ·rw[VO (by omega)]at h;have:=congrArg List.length h;simp at this;omega
 obtain⟨u,hu⟩:∃u,x.size=u+1:=⟨x.size-1,by omega⟩;have hb:=Tt T x a hlt;have h2:=h;rw[hu,RG,if_pos hlt]at h2;refine⟨hlt,?_,?_⟩
 ·have h3:(L.drop k)[0]?=some ((WP T x a).1,(a:Int),(WP T x a).2):=by rw[h2];rfl
  rw[List.getElem?_drop,Nat.add_zero]at h3;exact h3
 ·have h3:(L.drop k).drop 1=RG T x u (a+(WP T x a).2.toNat):=by rw[h2];rfl
  rw[List.drop_drop]at h3;rw[h3];exact Og T x _ _ _ (by omega) (by omega)
theorem Oh (T:Tb) (x:ByteArray):∀(u i:Nat),i<=x.size->(RG T x u i).length+i<=x.size
 |0,i,h=>by simp[RG];omega
 |u+1,i,h=>by
  rw[RG];split
  ·rename_i hi;have hb:=Tt T x i hi;have:=Oh T x u (i+(WP T x i).2.toNat) (by omega);simp only[List.length_cons];omega
  ·simp;omega
theorem I5 (xa:Option Addr) (cap:Nat) (w:World):
  Calls Tryz.prog 6 #[.slice xa 0 cap] w fun en w'=>en=.returned (.tuple #[.string ⟨#[]⟩,.int .i64 1])/\Below w.heap.size w w':=by
 have hz:=Vv;have HB:Hid (Calls Tryz.prog 10 #[.slice xa 0 cap] w fun en w'=>en=.returned (.tuple #[.agg UY.toArray,.int .i64 1])/\Below w.heap.size w w'):=
  Mu _ 1 0 0 w (by omega) (fun W _=>(OP xa 0 cap W (by unfold maxLen;omega) (Or.inl rfl)).mono (fun e' w' h=>⟨h.1,by rw[h.2];exact Below.refl _ _⟩))
 go_enter Tryz.func6,Tryz.ntmps6;go_wp2_with fail;refine HB.out.mono ?_;rintro en w1 ⟨rfl,B1⟩;clear HB;have B2:=B1.trans ((box_bel w1 (.cells UY.toArray 41)).mono B1.size);have HB2:=hyd B2;clear B1 B2;unfold UY at *;go_wp2_with fail;go_ret2;exact⟨rfl,HB2.out⟩
theorem J2 (ad:Option Addr) (n cap:Nat) (f:Nat->ByteArray) (x:ByteArray) (w:World) (hn:n<=17592186044416) (hI:Qr ad f n w) (hx:x.size<=140737488355328):
  Calls Tryz.prog 3 #[.slice ad n cap,.string x] w fun e w'=>e=.returned (.bool true)/\Below w.heap.size w w':=by
 have HF:=hyd (Hi ad n cap f w hn hI);clear hI hn;go_enter Tryz.func3,Tryz.ntmps3;go_wp2_with fail;refine HF.out.mono ?_;rintro e w1 ⟨v,rfl,O1,B1⟩;clear HF;obtain⟨N,hN⟩:=nam (min n 8);have N8:N<=8:=by omega
 rw[<-hN]at O1;clear hN;obtain⟨la,lc,hv⟩:=O1.sl;subst hv;have R1:=O1.rowS;rw[Vm]at R1 ⊢;obtain⟨F,hF⟩:∃F:Nat->ByteArray,F=fun j=>(TH f N).getD j ⟨#[]⟩:=⟨_,rfl⟩
 rw[<-hF]at R1;have F8:∀r,r<N->(F r).size<=8:=fun r hr=>by rw[hF];show((TH f N).getD r ⟨#[]⟩).size<=8;rw[Hh f hr];exact IS _
 have HR:Hid (∀w',Below w1.heap.size w1 w'->Qr la F N w'):=fun w' h=>R1.below h
 have HF8:=hyd F8;have HB1:=hyd B1;clear O1 R1 hF F8 B1;go_wp2_with fail
 go_loopw [6,7,8] (fun pv y _ w'=>∃i:Nat,i<=N/\y=.int .i64 i/\Xi w1.heap.size pv (Ix F i) w'/\Below w1.heap.size w1 w') (fun _ y _ _=>N-(intOf y).toNat)
 case atStart=>exact⟨0,by omega,rfl,Xi.nil _ _,Below.refl _ _⟩
 case round=>
  obtain⟨i,hi,rfl,O,B⟩:=hrel;obtain⟨xa,xc,hxa⟩:=O.sl;rw[Th]at hxa;subst hxa;have HO:=hyd O;clear O;by_cases hlt:i<N
  ·have hlt':(i:Int)<N:=by omega
   obtain⟨g,o,hg,hc⟩:=HR.out wr B i hlt;subst hg;obtain⟨s,hs⟩:=nam (F i);have HLt:Hid (Calls Tryz.prog 5 #[.string s] wr fun e w'=>e=.returned (.string (TQ F i))/\Below wr.heap.size wr w'):=by
    show Calls _ _ _ _ _;have:=NC s wr (by rw[hs];exact HF8.out i hlt);rw[hs]at this ⊢;exact this
   rw[<-hs]at hc;clear hs;go_wp2_with fail;refine HLt.out.mono ?_;rintro e w2 ⟨rfl,B2⟩;clear HLt hc;obtain⟨p,hp⟩:=nam (TQ F i);have HP:=hyd hp;rw[<-hp];clear hp;go_wp2_with (first|(with_reducible show wpList _ _ _ (⟨_,Op.call { callee:=Callee.builtin Builtin.append,args:=_,argTypes:=_ },_,_,_,_⟩::_) _ _;refine Wg.out ?_));refine⟨?_⟩;obtain⟨W3,hW3⟩:=nam (w2.alloc (.cells #[.string p] 9));rw[<-hW3];have B3:Below w2.heap.size w2 W3:=by rw[hW3];exact box_bel _ _
   have T3:TZ w2.heap.size [.string p] W3:=by rw[hW3];exact TZ.boxed w2 _ _
   have B23:=B2.trans (B3.mono B2.size);have O3:=HO.out.below B23;have BW3:=B.trans (B23.mono B.size);refine WQ rfl _ _ rfl w1.heap.size (.slice xa i xc) (Ix F i) rfl O3 (by rw[Th];omega) w2.heap.size p rfl (T3 0 _ rfl).1 BW3.size ?_;intro g2 cap2 w4 h1 h2;have HB4:=hyd (BW3.grown h2 BW3.size (fun q hq=>(O3.blk q hq).1));rw[Th]at h1 ⊢;have HO4:Hid (Xi w1.heap.size (.slice (some ⟨g2,0,none⟩) (i+1) cap2) (Ix F (i+1)) w4):=by show Xi _ _ _ _;rw[Jx,<-HP.out];exact h1
   clear h1 h2 O3 BW3 B23 T3 B3 hW3 HO B2
   (try simp only[psm])
   go_wp2_with fail;go_roundw
   case rel=>exact⟨i+1,by omega,by go_num,HO4.out,HB4.out⟩
   case measure=>simp[intOf];omega
  ·have hlt':¬(i:Int)<N:=by omega
   have ei:i=N:=by omega
   subst ei;have HBr:=hyd B;clear B;by_cases h0:i=0
   ·subst h0;have HG:=hyd (I5 xa xc wr);go_wp2_with fail;refine HG.out.mono ?_;rintro e w2 ⟨rfl,B2⟩;have HFin:=hyd (HB1.out.trans ((HBr.out.trans (B2.mono HBr.out.size)).mono HB1.out.size));clear HG B2;go_wp2_with fail;go_ret;exact⟨by first|rfl|simp,HFin.out⟩
   ·have h0':((i:Int)==0)=false:=beq_eq_false_iff_ne.2 (by omega);obtain⟨g,cap2,eg,hrow,hgl⟩:=HO.out.row (by rw[Th];omega);rw[Th]at eg hrow;cases eg;have hrow2:PK g 0 (TQ F) i wr:=fun j hj=>by have:=hrow j hj;simp only[Gs F hj]at this;exact this
    have HG:=hyd (Ky F i (by omega) N8 HF8.out g 0 xc wr hgl hrow2);clear hrow hrow2 hgl HO;go_wp2_with fail;refine HG.out.mono ?_;rintro e w2 ⟨⟨M,hS,rfl,hV⟩,B2⟩;have HM:=hyd2 hS hV;have HB2:=hyd (HBr.out.trans (B2.mono HBr.out.size));have HL:=hyd (KF (XE M) w2 (UK hS).good.small (UK hS).good);clear HG B2 hS hV HBr;obtain⟨fm,hfm⟩:=nam (XE M);have Hfm:=hyd hfm;rw[<-hfm]at HL ⊢;clear hfm;go_wp2_with fail;refine HL.out.mono ?_;rintro e w3 ⟨b,A2,rfl,_,hT,hTF,B3⟩;have HB3:=hyd (HB2.out.trans (B3.mono HB2.out.size));obtain⟨T,hTT⟩:=nam (Yc fm);have HT:Hid (T=Yc (XE M)):=by show T=_;rw[hTT,Hfm.out]
    have HSc:Hid (Calls Tryz.prog 8 #[.pointer (some ⟨b,0,none⟩),.string x] w3 (Qt T x w3)):=by
     show Calls _ _ _ _ _;rw[hTT];exact Le b _ A2 x w3 (by rw[Hfm.out];exact(UK HM.out.1).snd) hT hTF.in_ hx
    clear HL hT hTF B3 HB2 hTT;go_wp2_with fail;refine HSc.out.mono ?_;rintro e w4 ⟨v4,rfl,O4,B4⟩;clear HSc;have HB4:=hyd (HB3.out.trans (B4.mono HB3.out.size));clear B4 HB3;by_cases hbig:2000<x.size
    ·have hbig':(2000:Int)<(x.size:Int):=by omega
     have e1:Tp x=2:=by rw[Tp,if_pos hbig]
     have e2:Qg T x=[]:=by rw[Qg,if_pos hbig]
     rw[e2]at O4;obtain⟨ta,tc,rfl,_,_,_⟩:=O4.klo;rw[e1];have HFin:=hyd (HB1.out.trans (HB4.out.mono HB1.out.size));clear O4 e1 e2;simp only[List.length_nil];go_wp2_with fail;go_ret;exact⟨by first|rfl|simp,HFin.out⟩
    ·have hbig':¬(2000:Int)<(x.size:Int):=by omega
     have e1:Tp x=0:=by rw[Tp,if_neg hbig]
     have e2:Qg T x=RG T x x.size 0:=by rw[Qg,if_neg hbig]
     obtain⟨L,hL⟩:=nam (Qg T x);have HL:Hid (L=RG T x x.size 0):=by show _=_;rw[hL,e2]
     rw[<-hL]at O4;rw[e1];have hLn:L.length<=2000:=by
      have:=Oh T x x.size 0 (by omega);rw[<-HL.out]at this;omega
     obtain⟨ta,tc,rfl,_,_,k4⟩:=O4.klo;have HK:=hyd k4;obtain⟨m,hm⟩:=nam L.length;have Hm:=hyd hm;rw[<-hm]at hLn ⊢;clear O4 e1 e2 hL k4 hm;go_wp2_with fail
     go_loopw [14,15,16,17] (fun av kv _ _ w'=>∃k a:Nat,av=.int .i64 a/\kv=.int .i64 k/\k<=m/\a<=x.size/\Hid (L.drop k=RG T x x.size a)/\Below w4.heap.size w4 w') (fun _ kv _ _ _=>m-(intOf kv).toNat)
     case atStart=>exact⟨0,0,rfl,rfl,by omega,by omega,by rw[List.drop_zero];exact HL,Below.refl _ _⟩
     case round=>
      obtain⟨k,a,rfl,rfl,hk,ha,HD,B⟩:=hrel;by_cases hlk:k<m
      ·have hlk':(k:Int)<m:=by omega
       obtain⟨h1,h2,h3⟩:=Mg HD.out (by rw[<-Hm.out];exact hlk) ha;have hbd:=Tt T x a h1;obtain⟨rl,ln,hrl⟩:∃(rl:Int) (ln:Nat),WP T x a=(rl,(ln:Int)):=⟨(WP T x a).1,(WP T x a).2.toNat,by ext<;>simp;omega⟩;have Hrl:=hyd hrl;rw[hrl]at h2 h3 hbd;simp only[Int.toNat_natCast]at h2 h3 hbd;have HD3:=hyd h3;obtain⟨tg,to_,rfl,p0,p1,p2⟩:=HK.out.below B k _ h2;simp only at p0 p1 p2;have h1g:¬(x.size:Int)<=(a:Int):=by omega
       have h1l:(a:Int)<=(x.size:Int):=by omega
       have HLo:Hid (Calls Tryz.prog 9 #[.slice la i lc,.string (x.extract a x.size)] wr fun e w'=>(∃(rule:Int) (n:Nat),e=.returned (.tuple #[.int .i64 rule,.int .i64 (if n=0 then 1 else (n:Int))])/\Iv (MR F) i (x.extract a x.size) 0 rule n)/\Below wr.heap.size wr w'):=
        NE la i lc F (x.extract a x.size) wr N8 HF8.out (by simp;omega) (HR.out wr (HB4.out.trans (B.mono HB4.out.size)))
       clear hrl h2 h3 HD;go_wp2_with fail;refine HLo.out.mono ?_;rintro e w5 ⟨⟨rule,nn,rfl,hlng⟩,B5⟩;have htk:=JS HM.out.1 N8 HM.out.2 x (show a<=x.size by omega) (Ib (show a<=x.size by omega) hlng);rw[<-HT.out,Hrl.out]at htk;simp only[Prod.mk.injEq]at htk;obtain⟨t1,t2⟩:=htk;rw[<-t2,<-t1];have B45:=B.trans (B5.mono B.size);have HB45:=hyd B45;have c0:w5.cell? ⟨tg,to_+k*3,none⟩=some (.int .i64 rl):=by rw[B5.cell (p:=⟨tg,to_+k*3,none⟩) (World.block_lt_of_cell? wr _ p0)];exact p0
       have c1:w5.cell? ⟨tg,to_+k*3+1,none⟩=some (.int .i64 a):=by rw[B5.cell (p:=⟨tg,to_+k*3+1,none⟩) (World.block_lt_of_cell? wr _ p1)];exact p1
       have c2:w5.cell? ⟨tg,to_+k*3+2,none⟩=some (.int .i64 ln):=by rw[B5.cell (p:=⟨tg,to_+k*3+2,none⟩) (World.block_lt_of_cell? wr _ p2)];exact p2
       clear HLo hlng t1 t2 p0 p1 p2 B5 B45;have q1:(rl != rl)=false:=by simp
       go_wp2_with fail;go_roundw
       case rel=>exact⟨k+1,a+ln,by go_num,by go_num,by omega,by omega,HD3,HB45.out⟩
       case measure=>simp[intOf];omega
      ·have hge:¬(k:Int)<m:=by omega
       have hax:a=x.size:=by
        have h:=HD.out;rw[List.drop_of_length_le (by rw[<-Hm.out];omega)]at h;by_cases e:a<x.size
        ·obtain⟨u,hu⟩:∃u,x.size=u+1:=⟨x.size-1,by omega⟩;rw[hu,RG,if_pos (by omega)]at h;cases h
        ·omega
       have q1:((a:Int)==(x.size:Int))=true:=by rw[hax];simp
       have HFin:=hyd (HB1.out.trans ((HB4.out.trans (B.mono HB4.out.size)).mono HB1.out.size));clear hax HD;go_wp2_with fail;go_ret;exact⟨by first|rfl|simp[q1],HFin.out⟩
end Go.Proofs.YtoaaklhpmhjhkabGreat
