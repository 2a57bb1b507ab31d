import Derived.Test.YtoaaklhpmhjhkaaGreatC38
set_option maxRecDepth 100000
set_option maxHeartbeats 4000000
set_option linter.all false
namespace Go.Proofs.YtoaaklhpmhjhkaaGreat
open Go.RowKit
open Bm
theorem q9T {t:Tq} (ht:TqOK t) (hs:isSuf t.t):∃c r,t.t.w=c::r/\((c=42/\t.t.kd=5)\/(c=43/\t.t.kd=6)\/(c=63/\t.t.kd=7)\/(c=123/\t.t.kd=8)):=by
 unfold isSuf at hs;rcases ht.1 with h|h|h|h|h|h|h|h
 ·exact absurd h.1 (by omega)
 ·exact absurd h.1 (by omega)
 ·exact absurd h.1 (by omega)
 ·exact absurd h.1 (by omega)
 ·exact⟨42,[],h.2,Or.inl ⟨rfl,h.1⟩⟩
 ·exact⟨43,[],h.2,Or.inr (Or.inl ⟨rfl,h.1⟩)⟩
 ·exact⟨63,[],h.2,Or.inr (Or.inr (Or.inl ⟨rfl,h.1⟩))⟩
 ·rcases h.2 with ⟨x,hw,_⟩|⟨x,z,hw,_⟩
  ·exact⟨123,_,hw,Or.inr (Or.inr (Or.inr ⟨rfl,h.1⟩))⟩
  ·exact⟨123,_,hw,Or.inr (Or.inr (Or.inr ⟨rfl,h.1⟩))⟩
theorem q9J {t:Tq} (ht:TqOK t) (h8:t.t.kd=8):3<=t.t.w.length/\Rf.most t.t.w=some t.t.mo/\LeW t.t.w t.le/\0<=t.t.mo/\t.t.mo<=9/\0<=t.le/\t.le<=9:=by
 have hm:=(q8b ht.1 h8).2;have h1:=q5r hm;obtain⟨b1,b2,b3⟩:=Rf.most_bd h1;have hl:=ht.2.2 h8;obtain⟨x,r,_,l2,l3,l4⟩:=ht.2.2 h8;exact⟨b3,h1,hl,b1,b2,by omega,by omega⟩
variable {ks rs : List Nat}{M N N' P R base cap f g gb i n sb tb : Nat}{nl : Nat → Bool}{Ns cp ix : Nat → Nat}{S S' X : Nat → Prop}{row : Option Nat}{e0 : Rx}{v v' vk vr vw : Value}{w w' w0 w1 w2 w5 : World}
theorem q9j {q:List Tq}{t:Tq} (hq:Pp f 0 q e0) (ht:TqOK t) (hsf:isSuf t.t) (hPc:PcOK q e0) (h:Pp (f+1) 0 (q++[t]) (Rx.suf t.t.kd t.le.toNat t.t.mo.toNat e0).nz) (hz:(Rx.suf t.t.kd t.le.toNat t.t.mo.toNat e0).nz.sz≠0):PcOK (q++[t]) (Rx.suf t.t.kd t.le.toNat t.t.mo.toNat e0).nz:=by
 have hnz:(Rx.suf t.t.kd t.le.toNat t.t.mo.toNat e0).nz=Rx.suf t.t.kd t.le.toNat t.t.mo.toNat e0:=by
  rw[Rx.nz_sz]at hz;unfold Rx.nz;rw[if_neg hz]
 intro tb base s T N v vr S w hts hs hp;obtain⟨G,hG⟩:=q7S h;rw[hnz]at hG hz hp ⊢;have htx:tx (q++[t])=tx q++t.t.w:=by rw[q2a,q3H,q8z,List.append_nil]
 rw[htx]at hts;have hsp:=y1p hq ht hsf;rw[<-hts]at hsp;obtain⟨cut,hcut⟩:=nam ((tx q).length);rw[<-hcut]at hsp;obtain⟨c,us,hw,hcs⟩:=q9T ht hsf;have hx:(s.extract 0 cut).data.toList=tx q:=by rw[y2o,hts,hcut,List.take_left]
 have hu:(s.extract cut s.size).data.toList=t.t.w:=by rw[q3u,hts,hcut,List.drop_left]
 have hsz:s.size=cut+t.t.w.length:=by
  have:s.data.toList.length=cut+t.t.w.length:=by rw[hts,List.length_append,hcut]
  simpa using this
 have hxs:(s.extract 0 cut).size=cut:=by
  have:(s.extract 0 cut).data.toList.length=cut:=by rw[hx,hcut]
  simpa using this
 have Hsp:Hid (∀w',Calls Tryz.prog 164 #[.string s] w' fun e w''=>e=.returned (.tuple #[.string (s.extract 0 cut),.string (s.extract cut s.size)])/\Below w'.heap.size w' w''):=fun w'=>q2u s cut w' hs hsp
 have hus:0<(s.extract cut s.size).size:=by
  have:(s.extract cut s.size).data.toList.length=us.length+1:=by rw[hu,hw];rfl
  simp at this;simp;omega
 have hu0:(s.extract cut s.size)[0]=c:=by
  have:=q6v (s.extract cut s.size) 0 hus;rw[this,hu,hw];rfl
 have hue:(s.extract cut s.size).toList.isEmpty=false:=by rw[ByteArray.toList_eq,hu,hw];rfl
 have hu40:(s.extract cut s.size).size<=40:=q1v s _ _ hs;have hx40:(s.extract 0 cut).size<=40:=q1v s _ _ hs;rw[<-htx]at hts;rw[<-hts]at hG;have HS:=hyd ((q6D G).2 s _ w hs hG);have htw:=hp.t.c.lt;have HP:=hyd hp;generalize s.extract cut s.size=ub at *;generalize s.extract 0 cut=xb at *;obtain⟨z,hzz⟩:=nam ((Rx.suf t.t.kd t.le.toNat t.t.mo.toNat e0).sz);rw[<-hzz]at HS HP hz ⊢;have hq0:((z:Int)==0)=false:=by simp;omega
 have Hz:=hyd hzz;obtain⟨K,hK⟩:=nam (ndB s.size z);have HK:=hyd hK;rw[<-hK]at HP ⊢;have Hx:=hyd3 hx hxs hsz;have Hu:=hyd hu;have hwl:1<=t.t.w.length:=by rw[hw];simp
 have HKN:=HP.out.n;have htb:=HP.out.b;clear h hG hts hp hsp hx hu hsz hxs htx hnz hK hzz hcut;rcases hcs with ⟨rfl,hkd⟩|⟨rfl,hkd⟩|⟨rfl,hkd⟩|⟨rfl,hkd⟩
 ·have b1:((ub[0].toNat:Int)==42)=true:=by rw[hu0];rfl
  have b2:((ub[0].toNat:Int)==43)=false:=by rw[hu0];rfl
  have he:Rx.suf t.t.kd t.le.toNat t.t.mo.toNat e0=.star e0:=by unfold Rx.suf;rw[if_pos hkd]
  rw[he]at Hz ⊢;have hKK:ndB xb.size e0.sz+1<=K:=by
   have:=q6j (L:=xb.size) (P:=e0.sz) hwl;rw[HK.out,Hz.out,Hx.out.2.2,<-Hx.out.2.1];show _<=ndB _ e0.sz;omega
  have HC:Hid (∀w',Below w.heap.size w w'->Calls Tryz.prog 147 #[.pointer (some ⟨tb,0,none⟩),.string xb] w' (GrPost tb base T N v vr S e0 (ndB xb.size e0.sz) w')):=fun w' hW=>hPc tb base xb T N v vr S w' Hx.out.1 hx40 ((HP.out.below hW).less (by omega))
  generalize ndB xb.size e0.sz=Kx at *;clear hu0 HK Hz Hx Hu hw hPc hq ht hsf;go_enter Tryz.func147,Tryz.ntmps147;go_wp2_with fail;refine HS.out.mono ?_;rintro ee w1 ⟨rfl,hW⟩;go_wp2_with fail;refine(Hsp.out _).mono ?_;rintro ee w2 ⟨rfl,hW2⟩;have hW3:=hW.trans (hW2.mono hW.size);have HC2:=hyd (HC.out w2 hW3);clear HC HS Hsp hW hW2;go_wp2_with fail;refine HC2.out.mono ?_;rintro ee w4 ⟨T4,n4,v4,S4,rfl,tw4,tf4,tr4,f4,old4,ln4⟩;have HL:Hid (Calls Tryz.prog 182 #[.pointer (some ⟨tb,0,none⟩),.int .i64 3,.int .i64 n4] w4 (GrPost tb base T N v vr S (.star e0) K w2)):=
   q8B tb base T N v vr S w2 T4 n4 v4 S4 w4 e0 K ((GS.first (HP.out.below hW3)).made tw4 tf4 tr4 f4 old4) f4 htb (HP.out.below hW3).s (by omega) HKN true
  clear tw4 tf4 tr4 f4 old4 HC2;go_wp2_with fail;refine HL.out.mono ?_;rintro ee w5 ⟨T5,n5,v5,S5,rfl,hpost⟩;go_wp2_with fail;go_ret;exact GrPost.from ⟨T5,n5,v5,S5,rfl,hpost⟩ hW3 htw
 ·have b1:((ub[0].toNat:Int)==42)=false:=by rw[hu0];rfl
  have b2:((ub[0].toNat:Int)==43)=true:=by rw[hu0];rfl
  have he:Rx.suf t.t.kd t.le.toNat t.t.mo.toNat e0=.plus e0:=by unfold Rx.suf;rw[if_neg (by omega),if_pos hkd]
  rw[he]at Hz ⊢;have hKK:ndB xb.size e0.sz+1<=K:=by
   have:=q6j (L:=xb.size) (P:=e0.sz) hwl;rw[HK.out,Hz.out,Hx.out.2.2,<-Hx.out.2.1];show _<=ndB _ e0.sz;omega
  have HC:Hid (∀w',Below w.heap.size w w'->Calls Tryz.prog 147 #[.pointer (some ⟨tb,0,none⟩),.string xb] w' (GrPost tb base T N v vr S e0 (ndB xb.size e0.sz) w')):=fun w' hW=>hPc tb base xb T N v vr S w' Hx.out.1 hx40 ((HP.out.below hW).less (by omega))
  generalize ndB xb.size e0.sz=Kx at *;clear hu0 HK Hz Hx Hu hw hPc hq ht hsf;go_enter Tryz.func147,Tryz.ntmps147;go_wp2_with fail;refine HS.out.mono ?_;rintro ee w1 ⟨rfl,hW⟩;go_wp2_with fail;refine(Hsp.out _).mono ?_;rintro ee w2 ⟨rfl,hW2⟩;have hW3:=hW.trans (hW2.mono hW.size);have HC2:=hyd (HC.out w2 hW3);clear HC HS Hsp hW hW2;go_wp2_with fail;refine HC2.out.mono ?_;rintro ee w4 ⟨T4,n4,v4,S4,rfl,tw4,tf4,tr4,f4,old4,ln4⟩;have HL:Hid (Calls Tryz.prog 182 #[.pointer (some ⟨tb,0,none⟩),.int .i64 4,.int .i64 n4] w4 (GrPost tb base T N v vr S (.plus e0) K w2)):=
   q8B tb base T N v vr S w2 T4 n4 v4 S4 w4 e0 K ((GS.first (HP.out.below hW3)).made tw4 tf4 tr4 f4 old4) f4 htb (HP.out.below hW3).s (by omega) HKN false
  clear tw4 tf4 tr4 f4 old4 HC2;go_wp2_with fail;refine HL.out.mono ?_;rintro ee w5 ⟨T5,n5,v5,S5,rfl,hpost⟩;go_wp2_with fail;go_ret;exact GrPost.from ⟨T5,n5,v5,S5,rfl,hpost⟩ hW3 htw
 ·have b1:((ub[0].toNat:Int)==42)=false:=by rw[hu0];rfl
  have b2:((ub[0].toNat:Int)==43)=false:=by rw[hu0];rfl
  have b3:((ub[0].toNat:Int)==63)=true:=by rw[hu0];rfl
  have he:Rx.suf t.t.kd t.le.toNat t.t.mo.toNat e0=.opt e0:=by unfold Rx.suf;rw[if_neg (by omega),if_neg (by omega),if_pos hkd]
  rw[he]at Hz ⊢;have hKK:ndB xb.size e0.sz+2<=K:=by
   have:=q6j (L:=xb.size) (P:=e0.sz) hwl;rw[HK.out,Hz.out,Hx.out.2.2,<-Hx.out.2.1];exact this
  have HC:Hid (∀w',Below w.heap.size w w'->Calls Tryz.prog 183 #[.pointer (some ⟨tb,0,none⟩),.string xb] w' (GrPost tb base T N v vr S (.opt e0) K w')):=fun w' hW=>(q8K hPc tb base xb T N v vr S w' Hx.out.1 hx40 ((HP.out.below hW).less hKK)).mono (fun ee w'' h=>h.eq (SemEq.refl _) hKK)
  clear hu0 HK Hz Hx Hu hw hPc hq ht hsf hKK;go_enter Tryz.func147,Tryz.ntmps147;go_wp2_with fail;refine HS.out.mono ?_;rintro ee w1 ⟨rfl,hW⟩;go_wp2_with fail;refine(Hsp.out _).mono ?_;rintro ee w2 ⟨rfl,hW2⟩;have hW3:=hW.trans (hW2.mono hW.size);have HC2:=hyd (HC.out w2 hW3);clear HC HS Hsp hW hW2;go_wp2_with fail;refine HC2.out.mono ?_;rintro ee w5 ⟨T5,n5,v5,S5,rfl,hpost⟩;go_wp2_with fail;go_ret;exact GrPost.from ⟨T5,n5,v5,S5,rfl,hpost⟩ hW3 htw
 ·have b1:((ub[0].toNat:Int)==42)=false:=by rw[hu0];rfl
  have b2:((ub[0].toNat:Int)==43)=false:=by rw[hu0];rfl
  have b3:((ub[0].toNat:Int)==63)=false:=by rw[hu0];rfl
  have he:Rx.suf t.t.kd t.le.toNat t.t.mo.toNat e0=Rx.rowOf (Rx.copies e0 t.le.toNat t.t.mo.toNat):=by unfold Rx.suf;rw[if_neg (by omega),if_neg (by omega),if_neg (by omega)]
  rw[he]at Hz ⊢;obtain⟨l3,hmost,hlew,m0,m9,le0,le9⟩:=q9J ht hkd;obtain⟨mo,hmo⟩:∃mo:Nat,t.t.mo=mo:=⟨t.t.mo.toNat,by omega⟩;obtain⟨le,hle⟩:∃le:Nat,t.le=le:=⟨t.le.toNat,by omega⟩;rw[hmo]at hmost m9 m0;rw[hle]at hlew le9 le0;rw[hmo,hle,Int.toNat_natCast,Int.toNat_natCast]at Hz ⊢;have hKK:mo*(ndB xb.size e0.sz+2)+1<=K:=by
   have hz':=Hz.out;rw[Rx.copies_sz]at hz';have hmp:1<=mo/\1<=e0.sz:=by
    rcases Nat.eq_zero_or_pos mo with h0|h0
    ·rw[h0,Nat.zero_mul]at hz';omega
    ·rcases Nat.eq_zero_or_pos e0.sz with h1|h1
     ·rw[h1,Nat.mul_zero]at hz';omega
     ·exact⟨h0,h1⟩
   have:=y0r (L:=xb.size) l3 hmp.2 hmp.1;rw[HK.out,hz',Hx.out.2.2,<-Hx.out.2.1];exact this
  have HC:Hid (∀w',Below w.heap.size w w'->Calls Tryz.prog 184 #[.pointer (some ⟨tb,0,none⟩),.string xb,.int .i64 le,.int .i64 mo] w' (GrPost tb base T N v vr S (Rx.rowOf (Rx.copies e0 le mo)) K w')):=fun w' hW=>(q7R hPc le mo (by omega) (by omega) tb base xb T N v vr S w' Hx.out.1 hx40 ((HP.out.below hW).less hKK)).mono (fun ee w'' h=>h.eq (SemEq.refl _) hKK)
  have HCt:Hid (∀w',Calls Tryz.prog 165 #[.string ub] w' fun e w''=>e=.returned (.tuple #[.int .i64 le,.int .i64 mo])/\Below w'.heap.size w' w''):=fun w'=>q8s ub mo le w' hu40 (by rw[Hu.out];exact hmost) (by rw[Hu.out];exact hlew)
  clear hu0 HK Hz Hx Hu hw hPc hq ht hsf hKK hmost hlew hmo hle he;go_enter Tryz.func147,Tryz.ntmps147;go_wp2_with fail;refine HS.out.mono ?_;rintro ee w1 ⟨rfl,hW⟩;go_wp2_with fail;refine(Hsp.out _).mono ?_;rintro ee w2 ⟨rfl,hW2⟩;have hW3:=hW.trans (hW2.mono hW.size);clear HS Hsp hW hW2;go_wp2_with fail;refine(HCt.out _).mono ?_;rintro ee w3 ⟨rfl,hW4⟩;have hW5:=hW3.trans (hW4.mono hW3.size);have HC2:=hyd (HC.out w3 hW5);clear HC HCt hW3 hW4;go_wp2_with fail;refine HC2.out.mono ?_;rintro ee w5 ⟨T5,n5,v5,S5,rfl,hpost⟩;go_wp2_with fail;go_ret;exact GrPost.from ⟨T5,n5,v5,S5,rfl,hpost⟩ hW5 htw
variable {ts : List Tq}{e : Rx}
theorem y2l (h:Pp g 1 ts e):∃(g':Nat) (L:List (List Tq × Rx)),g'<g/\ts=((L.map (·.1)).flatten)/\(∀x∈L,Pp g' 0 x.1 x.2)/\e=Rx.rowOf (L.map (·.2)):=by
 cases g with
 |zero=>exact absurd h (by simp[Pp])
 |succ g=>
  obtain⟨L,h1,h2,h3⟩:=h;exact⟨g,L,by omega,h1,h2,h3⟩
theorem y2E (h:Pp g 2 ts e):∃(g':Nat) (L:List (List Tq × Rx)) (rest:List UInt8),g'<g/\tx ts=tx ((L.map (·.1)).flatten)++rest/\(∀x∈L,Pp g' 0 x.1 x.2)/\((rest=[]/\e=Rx.rowOf (L.map (·.2)))\/∃q e2 g2,g2<g/\rest=124::tx q/\Pp g2 2 q e2/\e=.alt (Rx.rowOf (L.map (·.2))) e2):=by
 cases g with
 |zero=>exact absurd h (by simp[Pp])
 |succ g=>
  rcases h with h|⟨r,b,q,e1,e2,rfl,h2,h3,h4,h5,rfl⟩
  ·obtain⟨g',L,k1,rfl,k3,rfl⟩:=y2l h;exact⟨g',L,[],by omega,by simp,k3,Or.inl ⟨rfl,rfl⟩⟩
  ·obtain⟨g',L,k1,rfl,k3,rfl⟩:=y2l h4;exact⟨g',L,124::tx q,by omega,by rw[q2a,q3H,y3N h2 h3];rfl,k3,Or.inr ⟨q,e2,g,by omega,rfl,h5,rfl⟩⟩
theorem PL.keep (h:PL w0 v S vk ks w) (hg:w.grownBy w5 row) (hn:∀k,vk.ownBlock=some k->row≠some k):PL w0 v S vk ks w5:=⟨h.o.grown hg hn,h.s⟩
theorem PL.below (h:PL w0 v S vk ks w) (hW:Below w.heap.size w w5):PL w0 v S vk ks w5:=⟨h.o.below hW,h.s⟩
theorem y1O (l:List Rx) (e:Rx):(l.foldr .alt e).sz=(l.map Rx.sz).sum+e.sz:=by
 induction l with
 |nil=>simp
 |cons x l ih=>simp only[List.foldr_cons,Rx.sz,ih,List.map_cons,List.sum_cons];omega
def strSz:Value->Nat
 |.string b=>b.size
 |_=>0
structure PtS (tb base:Nat) (T:Nat->Nd) (N:Nat) (v vr:Value) (S:Nat->Prop) (w:World) (f P Kt L:Nat) (e:Rx) (p:ByteArray) (vw:Value) (rs:List Nat) (es:List Rx) (T':Nat->Nd) (N':Nat) (v':Value) (S':Nat->Prop) (w':World):Prop where
 gs:GS tb base T N v vr S w T' N' v' S' w'
 pl:PL w v' S' vw rs w'
 ch:Chain T' N' N rs es N'
 fi:Chain.FineL T' rs es
 tk:∃g ts e',g<=f/\p.data.toList=tx ts/\Pp g 2 ts e'/\es.foldr .alt e'=e
 ln:p.size<=40
 bd:N'+ndB p.size P<=N+Kt
 nr:rs.length+p.size<=L
structure RwS (tb base:Nat) (T:Nat->Nd) (N:Nat) (v vr:Value) (S:Nat->Prop) (w:World) (P i:Nat) (A:List (List Tq × Rx)) (T':Nat->Nd) (N':Nat) (vw:Value) (rs:List Nat) (vk:Value) (ks:List Nat) (T2:Nat->Nd) (N2:Nat) (v2:Value) (S2:Nat->Prop) (w2:World):Prop where
 gs:GS tb base T N v vr S w T2 N2 v2 S2 w2
 pk:PL w v2 S2 vk ks w2
 pr:PL w v2 S2 vw rs w2
 ds:∀k,vw.ownBlock=some k->vk.ownBlock≠some k
 ch:Chain T2 N2 N' ks (A.map (·.2)) N2
 od:∀j,j<N'->T2 j=T' j
 ix:i=(tx ((A.map (·.1)).flatten)).length
 bd:N2<=N'+ndB i P
 le:N'<=N2
variable {T T' : Nat → Nd}
theorem RwS.first (P:Nat) (g:GS tb base T N v vr S w T' N' v' S' w') (p:PL w v' S' vw rs w'):RwS tb base T N v vr S w P 0 [] T' N' vw rs (.slice none 0 0) [] T' N' v' S' w':=
 ⟨g,PL.nil _ _ _ _,p,fun k _ e=>(by cases e),Chain.nil N',fun _ _=>rfl,rfl,by omega,Nat.le_refl _⟩
theorem RwS.more {tb base:Nat}{T:Nat->Nd}{N:Nat}{v vr:Value}{S:Nat->Prop}{w:World}{P i:Nat}{A:List (List Tq × Rx)}{T':Nat->Nd}{N':Nat}{vw:Value}{rs:List Nat}{vk:Value}{ks:List Nat}{T2:Nat->Nd}{N2:Nat}{v2:Value}{S2:Nat->Prop}{w2:World} (h:RwS tb base T N v vr S w P i A T' N' vw rs vk ks T2 N2 v2 S2 w2) (htw:tb<w.heap.size)
  {x:List Tq × Rx}{T3:Nat->Nd}{n:Nat}{v3:Value}{S3:Nat->Prop}{w3 w4 w5:World} (h1:TW tb base T3 (n+1) (n+1) v3 vr S3 w3) (h2:TF tb v2 v3 S2 S3 w2 w3) (h3:Tre T3 (n+1)) (h4:Fine T3 (n+1) N2 n x.2) (h5:∀i,i<N2->T3 i=T2 i) (h6:n+1<=N2+ndB (tx x.1).length P) (hW:Below w3.heap.size w3 w4)
  {g len cap:Nat} (hg:w4.grownBy w5 vk.ownBlock) (ho:OwnL w.heap.size (.slice (some ⟨g,0,none⟩) len cap) (ks.map (fun x:Nat=>(x:Int))++[(n:Int)]) w5) (hb:vk.ownBlock=some g\/g=w4.heap.size):
  RwS tb base T N v vr S w P (i+(tx x.1).length) (A++[x]) T' N' vw rs (.slice (some ⟨g,0,none⟩) len cap) (ks++[n]) T3 (n+1) v3 S3 w5:=by
 have G4:=(h.gs.made h1 h2 h3 h4 h5).below hW;have K4:=(h.pk.tf htw h2).below hW;have R4:=(h.pr.tf htw h2).below hW;obtain⟨G5,K5⟩:=K4.app G4 htw hg ho hb;refine⟨G5,K5,R4.keep hg (fun k hk e=>h.ds k hk e),fun k hk e=>?_,?_,fun j hj=>?_,?_,?_,?_⟩
 ·have e':g=k:=Option.some.inj e;rcases hb with h7|h7
  ·exact h.ds k hk (e'▸h7)
  ·have:=(R4.o.blk k hk).2;omega
 ·rw[List.map_append];exact h.ch.more h.gs.r.w h5 h4
 ·rw[h5 j (by have:=h.le;omega)];exact h.od j hj
 ·rw[h.ix,List.map_append,List.flatten_append,q2a,List.length_append];simp
 ·have:=h.bd;rw[q4F];omega
 ·have:=h.le;have:=h4.ge;omega
theorem y1J {p:ByteArray}{L:List (List Tq × Rx)}{A B:List (List Tq × Rx)}{x:List Tq × Rx}{rest:List UInt8} (hp:p.data.toList=tx ((L.map (·.1)).flatten)++rest) (hL:L=A++x::B) {i n:Nat} (hi:i=(tx ((A.map (·.1)).flatten)).length) (hn:n=(tx ((L.map (·.1)).flatten)).length):
  (p.extract i n).data.toList=tx x.1++tx ((B.map (·.1)).flatten)/\(p.extract i (i+(tx x.1).length)).data.toList=tx x.1/\i+(tx x.1).length<=n/\n<=p.size:=by
 have e:tx ((L.map (·.1)).flatten)=tx ((A.map (·.1)).flatten)++(tx x.1++tx ((B.map (·.1)).flatten)):=by
  rw[hL,List.map_append,List.flatten_append,q2a,q4r]
 have hlen:n=i+((tx x.1).length+(tx ((B.map (·.1)).flatten)).length):=by rw[hn,e,hi];simp
 have hps:p.size=n+rest.length:=by
  have:p.data.toList.length=n+rest.length:=by rw[hp,List.length_append,hn]
  simpa using this
 refine⟨?_,?_,by omega,by omega⟩
 ·rw[q2J,hp,hn,List.take_left,e,hi,List.drop_left]
 ·rw[y0M,hp,e,hi,List.append_assoc,List.drop_left,List.append_assoc,List.take_left]
theorem q9q (ih:∀g,g<f->∀ts e,Pp g 0 ts e->PcOK ts e) {ts:List Tq}{e:Rx} (h:Pp f 2 ts e):PtOK ts e:=by
 intro tb base s T N v vr S w hts hs hp;obtain⟨P,hP⟩:=nam e.sz;rw[<-hP]at hp ⊢;have HPs:=hyd hP;have htw:=hp.t.c.lt;have htb:=hp.b;have hb:=hp.s;have hN:=hp.n;have HIH:=hyd ih;obtain⟨Kt,hKt⟩:=nam (ndB s.size P);obtain⟨sL,hsL⟩:=nam s.size;have HS0:Hid (PtS tb base T N v vr S w f P Kt sL e s (.slice none 0 0) [] [] T N v S w):=⟨GS.first hp,PL.nil _ _ _ _,Chain.nil N,fun j k x h=>by simp at h,⟨f,ts,e,Nat.le_refl _,hts,h,rfl⟩,hs,by rw[hKt];omega,by simp[hsL]⟩;rw[<-hKt]at hN ⊢;have hsL40:sL<=40:=by omega
 clear ih h hts hp hP hKt hsL;go_enter Tryz.func91,Tryz.ntmps91;go_wp2_with fail
 go_loopw [1,5] (fun pv rv w'=>∃(p:ByteArray) (ra:Option Addr) (rl rc:Nat) (rs:List Nat) (es:List Rx) (T':Nat->Nd) (N':Nat) (v':Value) (S':Nat->Prop),pv=.string p/\rv=.slice ra rl rc/\Hid (rl=rs.length)/\PtS tb base T N v vr S w f P Kt sL e p (.slice ra rl rc) rs es T' N' v' S' w') (fun pv _ _=>strSz pv)
 case atStart=>exact⟨s,none,0,0,[],[],T,N,v,S,rfl,rfl,rfl,HS0.out⟩
 case round=>
  clear HS0;obtain⟨p,ra,rl,rc,rs,es,T',N',v',S',rfl,rfl,Hrl,PS⟩:=hrel;obtain⟨g,ts,e',hg,hpt,hpp,hee⟩:=PS.tk;obtain⟨g',L,rest,hg',htx,hL,hcase⟩:=y2E hpp;rw[htx]at hpt;have hp40:=PS.ln;obtain⟨n,hn⟩:=nam ((tx ((L.map (·.1)).flatten)).length);have hps:p.size=n+rest.length:=by
   have:p.data.toList.length=n+rest.length:=by rw[hpt,List.length_append,hn]
   simpa using this
  have hrest:∀c r',rest=c::r'->c=124:=fun c r' e1=>by
   rcases hcase with ⟨h1,_⟩|⟨q,e2,g2,_,h1,_⟩
   ·rw[h1]at e1;cases e1
   ·rw[h1]at e1;exact(List.cons.inj e1).1.symm
  have hrow:=y3o L hL p.data.toList 0 (L.length+1) rest (by rw[List.drop_zero];exact hpt) hrest (by omega);rw[Nat.zero_add,<-hn]at hrow;have HR:Hid (∀w',Calls Tryz.prog 146 #[.string p] w' fun e w''=>e=.returned (.int .i64 n)/\Below w'.heap.size w' w''):=fun w'=>y2z p n _ w' hp40 hrow
  have HPS:=hyd PS;have hbd:=PS.bd;have hszs:∀x∈L,x.2.sz<=P:=fun x hx=>by
   rw[HPs.out,<-hee,y1O];have h1:x.2.sz<=((L.map (·.2)).map Rx.sz).sum:=y3l (List.mem_map.2 ⟨x,hx,rfl⟩);have h2:=Rx.rowOf_sz (L.map (·.2));rcases hcase with ⟨_,h3⟩|⟨q,e2,g2,_,_,_,h3⟩
   ·rw[h3];omega
   ·rw[h3];simp only[Rx.sz];omega
  have HL:Hid (∀x∈L,PcOK x.1 x.2/\Pp g' 0 x.1 x.2/\x.2.sz<=P):=fun x hx=>⟨HIH.out g' (by omega) _ _ (hL x hx),hL x hx,hszs x hx⟩
  have Hpt:=hyd2 hpt hn;have Hcase:=hyd hcase;have Hee:=hyd hee;have hn40:n<=40:=by omega
  have hnd:ndB p.size P=ndB n P+ndB rest.length P:=by rw[hps,q4F]
  have hps':(p.size:Int)=(n:Int)+(rest.length:Int):=by omega
  obtain⟨rL,hrL⟩:=nam rest.length;rw[<-hrL]at hps hnd hps';have HrL:=hyd hrL;clear PS hpt hpp hee hL hcase hn hrow hrest htx hszs hrL;go_wp2_with fail;refine(HR.out _).mono ?_;rintro ee w1 ⟨rfl,hW1⟩;have HI0:=hyd (RwS.first P (HPS.out.gs.below hW1) (HPS.out.pl.below hW1));clear HR;go_wp2_with fail
  go_loopw [7,8] (fun kv iv w2=>∃(i:Nat) (ka:Option Addr) (kl kc:Nat) (A B:List (List Tq × Rx)) (ks:List Nat) (T2:Nat->Nd) (N2:Nat) (v2:Value) (S2:Nat->Prop),iv=.int .i64 i/\kv=.slice ka kl kc/\Hid ((ks.map (fun x:Nat=>(x:Int))).length=kl)/\Hid (L=A++B)/\RwS tb base T N v vr S w P i A T' N' (.slice ra rl rc) rs (.slice ka kl kc) ks T2 N2 v2 S2 w2) (fun _ iv _=>41-(intOf iv).toNat)
  case atStart=>exact⟨0,none,0,0,[],L,[],T',N',v',S',rfl,rfl,rfl,rfl,HI0.out⟩
  case round=>
   clear HI0 hW1;obtain⟨i,ka,kl,kc,A,B,ks,T2,N2,v2,S2,rfl,rfl,Hkl,HLAB,RS⟩:=hrel;rcases B with _|⟨x,B⟩
   ·have hAL:L=A:=by have:=HLAB.out;simpa using this
    have hin:i=n:=by rw[RS.ix,Hpt.out.2,hAL]
    subst hin;have hge:¬(i:Int)<i:=by omega
    have hle:=RS.ch.le;have hNN:=HPS.out.gs.l;have hrle:=HPS.out.ch.le;have hrb:=RS.bd;have hN2:N2<=1000000:=by omega
    have hks:ks.length<=1000:=by
     rw[hle.2.1,List.length_map];have h2:=q4O (f:=g') (L:=A) (fun y hy=>(HL.out y (by rw[HLAB.out];simp[hy])).2.1);rw[<-RS.ix]at h2;omega
    have HN1:Hid (Calls Tryz.prog 148 #[.pointer (some ⟨tb,0,none⟩),.int .i64 (1:Nat),.slice ka kl kc] wr fun e w'=>∃v3,e=.returned (.int .i64 (N2:Int))/\GS tb base T N v vr S w (addN T2 N2 1 ks (fun _=>false)) (N2+1) v3 (fun k=>S2 k\/(Value.slice ka kl kc).ownBlock=some k) w'/\TF tb v2 v3 S2 S2 wr w'):=
     RS.gs.node (KiL.of RS.pk.o) (fun k hk=>⟨(RS.pk.o.blk k hk).1,(RS.pk.o.blk k hk).2,(RS.pk.s k hk).1⟩) htb hb 1 (by omega) (by omega) (fun k hk=>by have:=hle.2.2.1 k hk;omega) RS.ch.nodup hN2 hks
    have hF:=q5V RS.gs.r.w RS.ch;have hold:∀j,j<N'->addN T2 N2 1 ks (fun _=>false) j=T' j:=fun j hj=>by
     rw[q1g (by have:=RS.le;omega) (fun hm=>by have:=(hle.2.2.1 j hm).1;omega)];exact RS.od j hj
    obtain⟨er,her⟩:=nam (Rx.rowOf (A.map (·.2)));rw[<-her]at hF;have HCh:=hyd (HPS.out.ch.more HPS.out.gs.r.w hold hF);have HFi:=hyd (q5x (fun k hk=>(hrle.2.2.1 k hk).2) hrle.2.1 HPS.out.fi hold hF);have HRr:=hyd2 RS.pr RS.ds;have Hmp:Hid ((rs.map (fun x:Nat=>(x:Int))).length=rl):=by show _=_;rw[List.length_map,Hrl.out]
    have hnr:=HPS.out.nr;have hrl40:rl<=40:=by rw[Hrl.out];omega
    have Her:Hid (er=Rx.rowOf (L.map (·.2))):=by show _=_;rw[her,hAL]
    have HNl:=hyd hnr;clear RS hle hF hold her hks hrle hnr Hkl HLAB hAL HPS;go_wp2_with fail;refine HN1.out.mono ?_;rintro ee w4 ⟨v4,rfl,G4,tf4⟩;have hb5:=box_bel w4 (.cells #[.int .i64 (N2:Int)] 3);have G5:=G4.below hb5;have P5:=((HRr.out.1.tf htw tf4).add (fun k hk=>HRr.out.2 k hk)).below hb5;have hO1:=P5.o;have hnw:(w4.alloc (.cells #[.int .i64 (N2:Int)] 3)).cell? ⟨w4.heap.size,0,none⟩=some (.int .i64 (N2:Int)):=by rw[World.cell?_alloc_new];rfl
    have hbs:=G5.f.b.size;have HGP:=hyd2 G5 P5;clear HN1 G4 tf4 G5 P5 hb5 HRr;rcases Hcase.out with ⟨hr1,he1⟩|⟨q,e2,g2,hg2,hr1,hpq,he1⟩
    ·have hr0:rL=0:=by rw[HrL.out,hr1];rfl
     subst hr0;have He:Hid (es.foldr .alt er=e):=by show _=_;rw[<-Hee.out,he1,Her.out]
     clear hr1 he1 hps';go_wp2_with (first|(at_builtin;refine Bm.wpList_append_int (by rfl) _ _ (by rfl) w.heap.size (.slice ra rl rc) _ (by rfl) hO1 (by rw[Hmp.out];omega) w4.heap.size (N2:Int) (by rfl) hnw hbs _ rfl ?_;rw[Hmp.out];intro g cap w5 hO5 hgrow hgb hl5;refine Stop.out ?_));refine⟨?_⟩;obtain⟨G6,P6⟩:=HGP.out.2.app HGP.out.1 htw hgrow hO5 hgb;have hrr:=HNl.out;have HN2:Hid (Calls Tryz.prog 148 #[.pointer (some ⟨tb,0,none⟩),.int .i64 (2:Nat),.slice (some ⟨g,0,none⟩) (rl+1) cap] w5 fun e w'=>∃v3,e=.returned (.int .i64 ((N2+1:Nat):Int))/\GS tb base T N v vr S w (addN (addN T2 N2 1 ks (fun _=>false)) (N2+1) 2 (rs++[N2]) (fun _=>false)) (N2+1+1) v3 (fun k=>(S2 k\/(Value.slice ka kl kc).ownBlock=some k)\/(Value.slice (some ⟨g,0,none⟩) (rl+1) cap).ownBlock=some k) w'/\TF tb v4 v3 (fun k=>S2 k\/(Value.slice ka kl kc).ownBlock=some k) (fun k=>S2 k\/(Value.slice ka kl kc).ownBlock=some k) w5 w'):=
      G6.node (KiL.of P6.o) (fun k hk=>⟨(P6.o.blk k hk).1,(P6.o.blk k hk).2,(P6.s k hk).1⟩) htb hb 2 (by omega) (by omega) HCh.out.le.2.2.1 HCh.out.nodup (by omega) (by simp;omega)
     have HFF:Hid (Fine (addN (addN T2 N2 1 ks (fun _=>false)) (N2+1) 2 (rs++[N2]) (fun _=>false)) (N2+1+1) N (N2+1) e):=by
      show Fine _ _ _ _ _;rw[<-He.out];exact(q4T G6.r.w HCh.out HFi.out (by simp)).eq (q8x es er)
     clear G6 P6 hO5 hgrow hgb hl5 hO1 hnw hbs hrr;go_wp2_with fail;refine HN2.out.mono ?_;rintro ee w6 ⟨v6,rfl,G6,_⟩;go_wp2_with fail;go_ret;exact G6.post HFF.out (by omega)
    ·have hrl:rL=(tx q).length+1:=by rw[HrL.out,hr1];simp
     have hq1:ndB rL P=ndB (tx q).length P+ndB 1 P:=by rw[hrl,q4F]
     have hq2:=q8a (P:=P) (Nat.le_refl 1);have hx:(p.extract (i+1) p.size).data.toList=tx q:=by
      rw[q3u,Hpt.out.1,hr1,Hpt.out.2,<-List.drop_drop,List.drop_left];rfl
     have hxs:(p.extract (i+1) p.size).size=(tx q).length:=by simp;omega
     have HX:=hyd2 hx hxs;have He:Hid ((es++[er]).foldr .alt e2=e):=by
      show _=_;rw[List.foldr_append,<-Hee.out,he1,Her.out];rfl
     have Hpq:=hyd hpq;clear hr1 he1 hpq hx hxs;go_wp2_with (first|(at_builtin;refine Bm.wpList_append_int (by rfl) _ _ (by rfl) w.heap.size (.slice ra rl rc) _ (by rfl) hO1 (by rw[Hmp.out];omega) w4.heap.size (N2:Int) (by rfl) hnw hbs _ rfl ?_;rw[Hmp.out];intro g cap w5 hO5 hgrow hgb hl5));obtain⟨G6,P6⟩:=HGP.out.2.app HGP.out.1 htw hgrow hO5 hgb;go_roundw
     case rel=>
      refine⟨p.extract (i+1) p.size,some ⟨g,0,none⟩,rl+1,cap,rs++[N2],es++[er],addN T2 N2 1 ks (fun _=>false),N2+1,v4,_,?_,rfl,by show _=_;have:=Hrl.out;simp[this],⟨G6,P6,HCh.out,HFi.out,⟨g2,q,e2,by omega,HX.out.1,Hpq.out,He.out⟩,by rw[HX.out.2];omega,by rw[HX.out.2];omega,by rw[HX.out.2];have:=HNl.out;simp;omega⟩⟩
      first|rfl|(congr 2;omega)
     case measure=>
      show(p.extract (i+1) _).size<p.size;simp;omega
   ·obtain⟨s1,s2,s3,s4⟩:=y1J Hpt.out.1 HLAB.out RS.ix Hpt.out.2;obtain⟨hPc,hPp,hPsz⟩:=HL.out x (by rw[HLAB.out];simp);obtain⟨m,hm⟩:=nam ((tx x.1).length);have hm1:=q8F hPp;rw[<-hm]at s2 s3 hm1;have hlt:(i:Int)<n:=by omega
    have hpc:=q8E hPp (tx ((B.map (·.1)).flatten)) (by
     have:=q5w (f:=g') (L:=B) (r:=[]) (fun y hy=>(HL.out y (by rw[HLAB.out];simp[hy])).2.1) (fun c r' e=>by cases e);have h':NoSuf (tx ((B.map (·.1)).flatten)):=by simpa using this
     exact h')
    rw[<-s1,<-hm]at hpc;have HPi:Hid (∀w',Calls Tryz.prog 112 #[.string (p.extract i n)] w' fun e w''=>e=.returned (.int .i64 m)/\Below w'.heap.size w' w''):=fun w'=>q4y _ m w' (q1v p _ _ hp40) hpc
    have hxs:(p.extract i (i+m)).size=m:=by simp;omega
    have hnb1:=q4F i m P;have hnb2:ndB (i+m) P<=ndB n P:=by
     obtain⟨dd,hdd⟩:∃dd,n=i+m+dd:=⟨n-(i+m),by omega⟩;have:=q4F (i+m) dd P;rw[hdd];omega
    have hnb3:=y1B (L:=m) hPsz;have hrb:=RS.bd;have HPc:Hid (∀w',Below wr.heap.size wr w'->Calls Tryz.prog 147 #[.pointer (some ⟨tb,0,none⟩),.string (p.extract i (i+m))] w' (GrPost tb base T2 N2 v2 vr S2 x.2 (ndB m x.2.sz) w')):=fun w' hW=>by
     have:=hPc tb base (p.extract i (i+m)) T2 N2 v2 vr S2 w' s2 (by omega) (by rw[hxs];exact(RS.gs.below hW).pre htb hb (by omega));rw[hxs]at this;exact this
    have HRS:=hyd RS;have Hm:=hyd hm;have hs3':(i:Int)+(m:Int)<=(p.size:Int):=by omega
    have hi0:(i:Int)<=n:=by omega
    have hkl:kl<=40:=by
     have h1:=Hkl.out;rw[List.length_map,RS.ch.le.2.1,List.length_map]at h1;have h2:=q4O (f:=g') (L:=A) (fun y hy=>(HL.out y (by rw[HLAB.out];simp[hy])).2.1);rw[<-RS.ix]at h2;omega
    generalize ndB m x.2.sz=Kx at *;clear s1 s2 hPc hPp hPsz hpc hxs RS hm;go_wp2_with fail;refine(HPi.out _).mono ?_;rintro ee w3 ⟨rfl,hW3⟩;have HPc3:=hyd (HPc.out w3 hW3);clear HPi HPc;go_wp2_with fail;refine HPc3.out.mono ?_;rintro ee w4 ⟨T3,a,v3,S3,rfl,tw4,tf4,tr4,f4,old4,ln4⟩;have hb5:=box_bel w4 (.cells #[.int .i64 (a:Int)] 3);have tf34:=(TF.of v2 S2 (Nat.le_of_lt HRS.out.gs.t.c.lt) hW3).trans tf4;have hO1:=(HRS.out.pk.tf htw tf34).o.below hb5;have hnw:(w4.alloc (.cells #[.int .i64 (a:Int)] 3)).cell? ⟨w4.heap.size,0,none⟩=some (.int .i64 (a:Int)):=by rw[World.cell?_alloc_new];rfl
    have hbs:w.heap.size<=(w4.alloc (.cells #[.int .i64 (a:Int)] 3)).heap.size:=by
     have h1:=HRS.out.gs.f.b.size;have h2:=tf34.b.size;have h3:=hb5.size;omega
    have HMore:Hid (∀g cap w5,OwnL w.heap.size (.slice (some ⟨g,0,none⟩) (kl+1) cap) (ks.map (fun x:Nat=>(x:Int))++[(a:Int)]) w5->(w4.alloc (.cells #[.int .i64 (a:Int)] 3)).grownBy w5 (Value.slice ka kl kc).ownBlock->((Value.slice ka kl kc).ownBlock=some g\/g=(w4.alloc (.cells #[.int .i64 (a:Int)] 3)).heap.size) ->
      RwS tb base T N v vr S w P (i+m) (A++[x]) T' N' (.slice ra rl rc) rs (.slice (some ⟨g,0,none⟩) (kl+1) cap) (ks++[a]) T3 (a+1) v3 S3 w5):=fun g cap w5 h1 h2 h3=>by
     have:=HRS.out.more htw tw4 tf34 tr4 f4 old4 (by rw[<-Hm.out];omega) hb5 h2 h1 h3;rw[<-Hm.out]at this;exact this
    clear HPc3 tw4 tf4 tr4 f4 old4 tf34 hb5;go_wp2_with (first|(at_builtin;refine Bm.wpList_append_int (by rfl) _ _ (by rfl) w.heap.size (.slice ka kl kc) _ (by rfl) hO1 (by rw[Hkl.out];omega) w4.heap.size (a:Int) (by rfl) hnw hbs _ rfl ?_;rw[Hkl.out];intro g cap w5 hO5 hgrow hgb hl5));have RS5:=HMore.out g cap w5 hO5 hgrow hgb;go_roundw
    case rel=>exact⟨i+m,some ⟨g,0,none⟩,kl+1,cap,A++[x],B,ks++[a],T3,a+1,v3,S3,by go_num,rfl,by show _=_;have:=Hkl.out;simp at this;simp[this],by show _=_;rw[HLAB.out];simp,RS5⟩
    case measure=>simp[intOf];omega
theorem y0l (ih:∀g,g<f->(∀ts e,Pp g 0 ts e->PcOK ts e)/\(∀ts e,Pp g 2 ts e->PtOK ts e)) {ts:List Tq}{e:Rx} (h:Pp f 0 ts e):PcOK ts e:=by
 by_cases hz:e.sz=0
 ·exact q7K h hz
 cases f with
 |zero=>exact absurd h (by simp[Pp])
 |succ f=>
  have h0:=h;rcases h with ⟨q,rfl,hq,hk,rfl⟩|⟨a,inn,b,e0,rfl,ha,hka,hb,hkb,hp,rfl⟩|⟨q,t,e0,rfl,hq,ht,hs,rfl⟩
  ·have htx:tx [q]=q.t.w:=by rw[q3H,q8z,List.append_nil]
   refine q4v h0 hz (by rw[htx];exact q7n hq hk) (fun tb base s T N v vr S w hts hs hp=>?_);have hl:1<=s.size:=by
    have:=q8F h0;rw[<-hts]at this;simpa using this
   have h3:=q8a (P:=(Rx.lit q.f).sz) hl;exact(y0x hq hk tb base s T N v vr S w (by rw[hts,htx]) hs (hp.less (by omega))).mono (fun ee w' h=>h.eq (SemEq.refl _) (by omega))
  ·have hnz:e0.nz=e0:=by
    rw[Rx.nz_sz]at hz;unfold Rx.nz;rw[if_neg hz]
   have htx:tx (a::(inn++[b]))=40::(tx inn++[41]):=by rw[q3H,q2a,q3H,q8z,y3u ha hka,y3n hb hkb];simp
   rw[hnz]at h0 hz ⊢;refine q4v h0 hz (by rw[htx];exact q8l hp) (fun tb base s T N v vr S w hts hs hpre=>?_);exact y1M ((ih f (by omega)).2 _ _ hp) tb base s T N v vr S w (by rw[hts,htx]) hs hpre hp
  ·exact q9j hq ht hs ((ih f (by omega)).1 _ _ hq) h0 hz
theorem y1L:∀f,(∀ts e,Pp f 0 ts e->PcOK ts e)/\(∀ts e,Pp f 2 ts e->PtOK ts e):=by
 intro f
 induction f using Nat.strongRecOn with
 |ind f ih=>exact⟨fun ts e h=>y0l ih h,fun ts e h=>q9q (fun g hg=>(ih g hg).1) h⟩
theorem TW.root (h:TW tb base T N M v vr S w) (htb:tb<base) (vr':Value):TW tb base T N M v vr' S (w.setCell ⟨tb,1,none⟩ vr'):=by
 obtain⟨m,o1,o2⟩:=h.o;have hb:∀q,q≠tb->(w.setCell ⟨tb,1,none⟩ vr').heap[q]?=w.heap[q]?:=fun q hq=>Below.heap_setCell w ⟨tb,1,none⟩ _ q (fun e=>hq e)
 exact⟨h.c.set 1 (by simp) vr',⟨m,q0R o1 (fun k hk=>hb k (by have:=(o1.lt k hk).1;omega)),o2.move (fun k hk=>hb k (h.s k hk).2.1) (fun _ h=>h)⟩,fun k hk=>⟨by rw[World.size_setCell];exact(h.s k hk).1,(h.s k hk).2⟩⟩
structure TRm (tb:Nat) (T:Nat->Nd) (N g cap:Nat) (m:Lie) (w:World):Prop where
 c:w.cell? ⟨tb,0,none⟩=some (.slice (some ⟨g,0,none⟩) N cap)
 r:w.cell? ⟨tb,1,none⟩=some (.int .i64 ((N:Int)-1))
 n:∀i,i<N->w.rangeAt g (i*5) (ndL T m i)/\(m.vin i).oneCell'=true/\IL (m.ka i) (fun k=>(((T i).kids.getD k 0:Nat):Int)) (T i).kids.length w/\((T i).kind=0->∃ia ic,m.vin i=.slice ia 256 ic/\BR ia (T i).inn 256 w)
theorem TRm.tr {m:Lie} (h:TRm tb T N g cap m w):TR tb T N w:=
 ⟨_,cap,h.c,fun i hi=>⟨g,0,m.vin i,m.ka i,m.kc i,rfl,by rw[Nat.zero_add];exact(h.n i hi).1,(h.n i hi).2.1,(h.n i hi).2.2.1,(h.n i hi).2.2.2⟩⟩
structure TRX (X:Nat->Prop) (tb:Nat) (T:Nat->Nd) (N g cap:Nat) (m:Lie) (w:World):Prop where
 s:∀k,X k->k<w.heap.size
 t:∀w',AgX X w w'->w.heap.size<=w'.heap.size->TRm tb T N g cap m w'
theorem TRX.keep {m:Lie} (h:TRX X tb T N g cap m w) (ha:AgX X w w') (hs:w.heap.size<=w'.heap.size):TRX X tb T N g cap m w':=
 ⟨fun k hk=>by have:=h.s k hk;omega,fun w2 h2 h3=>h.t w2 (ha.trans h2) (by omega)⟩
theorem q9Z (w:World):(Instr.build 116 #[]).run Tryz.prog w=.ok (.agg #[.slice none 0 0,.int .i64 0]) w:=by kernel_rfl
def GwPost (w:World) (e:Rx) (ee:Ending) (w':World):Prop:=
 ∃T N X g cap m,ee=.returned (.pointer (some ⟨w.heap.size,0,none⟩))/\Tre T N/\1<=N/\N<=20000/\Good T N 0 (N-1) e/\TRX X w.heap.size T N g cap m w'/\(∀k,X k->w.heap.size<=k)/\Below w.heap.size w w'/\w.heap.size<w'.heap.size
theorem y1K (h:Pp f 2 ts e) (s:ByteArray) (hts:s.data.toList=tx ts) (hs:s.size<=40) (he:e.sz<=96) (w:World):
  Calls Tryz.prog 39 #[.string s] w (GwPost w e):=by
 have hr:=q9Z;obtain⟨W,hW⟩:=nam (w.alloc (.cells #[.slice none 0 0,.int .i64 0] 116));have HW:=hyd hW;have hsz:W.heap.size=w.heap.size+1:=by rw[hW];simp
 have hB:Below w.heap.size w W:=by rw[hW];exact box_bel _ _
 have hT0:TC w.heap.size [.slice none 0 0,.int .i64 0] W:=by rw[hW];exact TC.boxed w [.slice none 0 0,.int .i64 0] _
 have hnb:ndB s.size e.sz+2<=20000:=by
  unfold ndB;have h1:s.size*max e.sz 1<=40*96:=Nat.mul_le_mul hs (by omega);omega
 have hC:=(y1L f).2 ts e h w.heap.size (w.heap.size+1) s (fun _=>newN 0 []) 0 (.slice none 0 0) (.int .i64 0) (fun _=>False) W hts hs ⟨TW.new _ _ _ _ hT0 _,Tre.zero _,by omega,by omega,by omega⟩;generalize ndB s.size e.sz+2=K at *;have HC:Hid (Calls Tryz.prog 91 #[.pointer (some ⟨w.heap.size,0,none⟩),.string s] W (GrPost w.heap.size (w.heap.size+1) (fun _=>newN 0 []) 0 (.slice none 0 0) (.int .i64 0) (fun _=>False) e K W)):=hC;clear hC hW hts h hT0;go_enter Tryz.func39,Tryz.ntmps39;go_wp2_with fail;rw[<-HW.out];refine HC.out.mono ?_;rintro ee w1 ⟨T,n,v,S,rfl,tw,tf,tr,fi,_,ln⟩;have c1:=tw.c 1 _ rfl;have HT:Hid (TW w.heap.size (w.heap.size+1) T (n+1) (n+1) v (.int .i64 (n:Int)) S (w1.setCell ⟨w.heap.size,1,none⟩ (.int .i64 (n:Int)))):=tw.root (by omega) _;have HF:Hid (Tre T (n+1)/\Good T (n+1) 0 n e):=⟨tr,fi.toGood⟩;have HTf:Hid (TF w.heap.size (.slice none 0 0) v (fun _=>False) S W w1):=tf;obtain⟨c1a,c1b⟩:=c1;clear tw tf tr fi HC hr;go_wp2_with fail;go_ret;have hs1:=HTf.out.b.size;have hs2:(w1.setCell ⟨w.heap.size,1,none⟩ (.int .i64 (n:Int))).heap.size=w1.heap.size:=World.size_setCell ..;obtain⟨g,cap,hgc⟩:=HT.out.form;obtain⟨m,o1,o2⟩:=HT.out.o;refine⟨T,n+1,fun k=>k=w.heap.size\/v.ownBlock=some k\/S k,g,cap,m,rfl,HF.out.1,by omega,by omega,HF.out.2,⟨fun k hk=>?_,fun w' hA hsz'=>?_⟩,fun k hk=>?_,?_,by omega⟩
 ·rcases hk with h|h|h
  ·omega
  ·exact(HT.out.blk k h).2
  ·exact(HT.out.s k h).1
 ·have ht:=HT.out.keep hsz' (fun k hk=>hA k hk);have o1':=q0R o1 (fun k hk=>hA k (Or.inr (Or.inl hk)));rw[hgc]at o1';have c0:=(ht.c 0 _ rfl).1;rw[hgc]at c0;refine⟨c0,?_,fun i hi=>⟨fun j u hu=>?_,o2.o i hi,o2.k i hi w' (fun k hk=>hA k (Or.inr (Or.inr hk))),fun h0=>?_⟩⟩
  ·rw[(ht.c 1 _ rfl).1];congr 2;omega
  ·have hj:j<5:=(List.getElem?_eq_some_iff.1 hu).1;rw[o1'.cellAt (i*5+j) (by omega),q2q (q2V T m) i j hi hj];exact hu
  ·obtain⟨ia,ic,e1,e2⟩:=o2.i i hi hi h0;exact⟨ia,ic,e1,e2 w' (fun k hk=>hA k (Or.inr (Or.inr hk)))⟩
 ·rcases hk with h|h|h
  ·omega
  ·rcases HTf.out.o k h with h1|h1
   ·cases h1
   ·omega
  ·rcases HTf.out.s k h with h1|h1
   ·exact h1.elim
   ·omega
 ·exact(hB.trans (HTf.out.b)).setCell (p:=⟨w.heap.size,1,none⟩) (Nat.le_refl _) _
structure SF (sb:Nat) (w w':World):Prop where
 b:Below sb w w'
 k:∀k,k<w.heap.size->k≠sb->w'.heap[k]?=w.heap[k]?
theorem SF.of (hb:sb<=w.heap.size) (h:Below w.heap.size w w'):SF sb w w':=⟨h.mono hb,fun k hk _=>h.block k hk⟩
theorem SF.trans (a:SF sb w w1) (b:SF sb w1 w2):SF sb w w2:=
 ⟨a.b.trans b.b,fun k hk hn=>by rw[b.k k (by have:=a.b.size;omega) hn,a.k k hk hn]⟩
theorem SF.set (h:SF sb w w') (q:Nat) (u:Value):SF sb w (w'.setCell ⟨sb,q,none⟩ u):=
 ⟨h.b.setCell (p:=⟨sb,q,none⟩) (Nat.le_refl _) u,fun k hk hn=>by
  rw[Below.heap_setCell w' ⟨sb,q,none⟩ _ k (fun e=>hn e)];exact h.k k hk hn⟩
def ixI (es:Nat->Rx) (Ts:Nat->Nat->Nd) (r m:Nat):Int:=if (Ts r m).kind=0 then (ixR es Ts r m:Int) else 0
structure GX (X:Nat->Prop) (gb P R:Nat) (tr ad cp:Nat->Nat) (ms:Nat->Lie) (Ts:Nat->Nat->Nd) (Ns:Nat->Nat) (es:Nat->Rx) (w:World):Prop where
 s:∀k,X k->k<w.heap.size
 t:∀w',AgX X w w'->w.heap.size<=w'.heap.size->∃a c,w'.cell? ⟨gb,0,none⟩=some (.slice a R c)/\∀r,r<R->∃b o,a=some ⟨b,o,none⟩/\w'.cell? ⟨b,o+r,none⟩=some (.pointer (some ⟨tr r,0,none⟩))/\TRm (tr r) (Ts r) (Ns r) (ad r) (cp r) (ms r) w'
 p:∀w',AgX X w w'->w.heap.size<=w'.heap.size->∃a c,w'.cell? ⟨gb,1,none⟩=some (.slice a P c)
 i:∀w',AgX X w w'->w.heap.size<=w'.heap.size->∃a c,w'.cell? ⟨gb,3,none⟩=some (.slice a R c)/\∀r,r<R->∃b o ra rc,a=some ⟨b,o,none⟩/\w'.cell? ⟨b,o+r,none⟩=some (.slice ra (Ns r) rc)/\IL ra (ixI es Ts r) (Ns r) w'
variable {ms : Nat → Lie}{tr : Nat → Nat}{Ts : Nat → Nat → Nd}{es : Nat → Rx}
theorem GX.keep {ad:Nat->Nat} (h:GX X gb P R tr ad cp ms Ts Ns es w) (ha:AgX X w w') (hs:w.heap.size<=w'.heap.size):GX X gb P R tr ad cp ms Ts Ns es w':=
 ⟨fun k hk=>by have:=h.s k hk;omega,fun w2 h2 h3=>h.t w2 (ha.trans h2) (by omega),fun w2 h2 h3=>h.p w2 (ha.trans h2) (by omega),fun w2 h2 h3=>h.i w2 (ha.trans h2) (by omega)⟩
theorem GX.below {ad:Nat->Nat} (h:GX X gb P R tr ad cp ms Ts Ns es w) (hW:Below w.heap.size w w'):GX X gb P R tr ad cp ms Ts Ns es w':=
 h.keep (fun k hk=>hW.block k (h.s k hk)) hW.size
theorem q8Q (T:Nat->Nd) (N:Nat) (ix:Nat->Nat) (h k:Nat->Bool) (q:Nat):(jnR T N ix h q || jnR T N ix k q)=jnR T N ix (fun m=>h m || k m) q:=by
 rw[Bool.eq_iff_iff,Bool.or_eq_true,q1X,q1X,q1X];constructor
 ·rintro (⟨m,a,b,c,d⟩|⟨m,a,b,c,d⟩)
  ·exact⟨m,a,b,by simp[c],d⟩
  ·exact⟨m,a,b,by simp[c],d⟩
 ·rintro ⟨m,a,b,c,d⟩;rcases (by simpa using c:h m=true\/k m=true)with c|c
  ·exact Or.inl ⟨m,a,b,c,d⟩
  ·exact Or.inr ⟨m,a,b,c,d⟩
theorem q0S {h k:Nat->Bool} (e:∀m,h m=k m) (q:Nat):jnR T N ix h q=jnR T N ix k q:=by
 rw[show h=k from funext e]
theorem q6r (q:Nat):jnR T N ix (fun _=>false) q=false:=by
 rw[Bool.eq_false_iff];intro h;obtain⟨m,_,_,c,_⟩:=q1X.1 h;cases c
def kdB (row:Bool) (b:Nat->Nat->Bool) (nl:Nat->Bool) (ks:List Nat) (m:Nat):Bool:=if row then rowB (fun k=>b k m) nl ks else ks.any (fun k=>b k m)
theorem y0B (row:Bool) (b:Nat->Nat->Bool) (nl:Nat->Bool) (m:Nat):kdB row b nl [] m=false:=by unfold kdB;cases row<;>rfl
theorem q8P {row:Bool}{b:Nat->Nat->Bool} (h:row=true->ks.all nl=true) (k m:Nat):kdB row b nl (ks++[k]) m=(kdB row b nl ks m || b k m):=by
 unfold kdB;cases row
 ·simp
 ·simp only[if_true,q2S,rowB,h rfl,Bool.true_and,Bool.and_false,Bool.or_false]
theorem q8O {b:Nat->Nat->Bool} (h:(ks.take i).all nl=false) (m:Nat):kdB true b nl ks m=kdB true b nl (ks.take i) m:=by
 unfold kdB;have:=q2S (fun k=>b k m) nl (ks.take i) (ks.drop i);rw[List.take_append_drop]at this;simp only[if_true];rw[this,h];simp
theorem q1W {f g:Nat->Bool} (h:∀q,f q=g q):bl f n=bl g n:=q0o (fun q _=>h q)
theorem q9R {f:Nat->Bool} (h:TC sb (bl f n) w) {j:Nat} (hj:j<n):TC sb (bl (fun q=>f q || decide (q=j)) n) (w.setCell ⟨sb,j,none⟩ (.bool true)):=by
 have h1:=h.set j (by rw[q0c];exact hj) (.bool true);have e:(bl f n).set j (.bool true)=bl (fun q=>f q || decide (q=j)) n:=by
  refine List.ext_getElem? (fun i=>?_);by_cases hi:i<n
  ·rw[q0x _ hi];by_cases e:i=j
   ·subst e;rw[List.getElem?_set_self (by rw[q0c];exact hi)];simp
   ·rw[List.getElem?_set_ne (fun x=>e x.symm),q0x _ hi];simp[e]
  ·rw[List.getElem?_eq_none (by simp[q0c];omega),List.getElem?_eq_none (by rw[q0c];omega)]
 rw[e]at h1;exact h1
end Go.Proofs.YtoaaklhpmhjhkaaGreat
