import Derived.Test.YtoaaklhpmhjhkabC02
set_option maxRecDepth 100000
set_option maxHeartbeats 4000000
set_option linter.all false
namespace Go.Proofs.Ytoaaklhpmhjhkab
open Go.RowKit
theorem U7 {m:Int} (b o c:Int) (hm:m=0\/m=1):Rf.read m b o c=Rf.outside m b o c:=by
 rcases hm with rfl|rfl<;>simp[Rf.read,Rf.rest]
def Gm (s:ByteArray) (k:Nat) (m b op before:Int):Prop:=
 (Pg.canStand (Pg.kindOf (Y5 s k)) before op=false/\Rf.formFrom m b op k (s.data.toList.drop k)=(k:Int)) \/
 (Pg.canStand (Pg.kindOf (Y5 s k)) before op=true/\(P9 s k m b op (Pg.kindOf (Y5 s k)) \/
  ((Pg.readPart (Y5 s) s.size k (Pg.kindOf (Y5 s k))).ok=false/\Rf.formFrom m b op k (s.data.toList.drop k)=(Pg.readPart (Y5 s) s.size k (Pg.kindOf (Y5 s k))).n)))
theorem GP (s:ByteArray) (k:Nat) (c:UInt8) (r:List UInt8) (m b op before:Int) (hd:s.data.toList.drop k=c::r) (hmb:m=XB before):Gm s k m b op before:=by
 have hm:m=0\/m=1:=by rw[hmb,XB];split<;>simp
 have hb:Y5 s (k:Int)=c.toNat:=by rw[US hd];rfl
 have hread:Rf.read m b op c.toNat=Rf.outside m b op c.toNat:=U7 _ _ _ hm;have hother:∀kd:Int,kd≠1->kd≠8->Pg.readPart (Y5 s) s.size k kd=⟨(k:Int)+1,true,fun _=>false,0,-1⟩:=fun kd h1 h8=>by rw[Pg.readPart,if_neg h1,if_neg h8]
 unfold Gm;rw[hb];by_cases e91:c=91
 ·subst e91;right;exact⟨rfl,I8 s k r m b op hm hd⟩
 by_cases e92:c=92
 ·subst e92;right;exact⟨rfl,I7 s k r m b op hm hd⟩
 by_cases e123:c=123
 ·subst e123;cases hep:Pg.endsPiece before
  ·left;have hm0:m=0:=by rw[hmb,XB,hep];rfl
   subst hm0;refine⟨?_,?_⟩
   ·show Pg.canStand 8 before op=false;simp[Pg.canStand,Pg.isSuffix,hep]
   ·rw[hd,VF _ hread rfl]
  ·right;have hm1:m=1:=by rw[hmb,XB,hep];rfl
   subst hm1;refine⟨?_,LT s k r b op hd⟩;show Pg.canStand 8 before op=true;simp[Pg.canStand,Pg.isSuffix,hep]
 by_cases e40:c=40
 ·subst e40;right;refine⟨rfl,Or.inl (VN s k 40 r m b op 2 (fun _=>false) ⟨true,0,b,op+1⟩ hd e92 e91 e123 ?_ rfl rfl rfl (hother 2 (by decide) (by decide)) (by omega))⟩;rw[hread];rfl
 by_cases e41:c=41
 ·subst e41;by_cases hop:0<op
  ·right;refine⟨?_,Or.inl (VN s k 41 r m b op 3 (fun _=>false) ⟨true,1,b,op-1⟩ hd e92 e91 e123 ?_ rfl rfl rfl (hother 3 (by decide) (by decide)) (by omega))⟩
   ·show Pg.canStand 3 before op=true;simp[Pg.canStand,hop]
   ·rw[hread];show Rf.to m b (op-1) (decide (1<=op)) 1=_;have:decide (1<=op)=true:=by simp;omega
    rw[this];rfl
  ·left;refine⟨?_,?_⟩
   ·show Pg.canStand 3 before op=false;simp[Pg.canStand];omega
   ·rw[hd,VF (Rf.to m b (op-1) (decide (1<=op)) 1) (by rw[hread];rfl) (by simp[Rf.to];omega)]
 by_cases e124:c=124
 ·subst e124;right;refine⟨rfl,Or.inl (VN s k 124 r m b op 4 (fun _=>false) ⟨true,0,b,op⟩ hd e92 e91 e123 ?_ rfl rfl rfl (hother 4 (by decide) (by decide)) (by omega))⟩;rw[hread];rfl
 by_cases esuf:c=42\/c=43\/c=63
 ·have hsuf:∀kd:Int,Pg.kindOf c.toNat=kd->Pg.isSuffix kd=true->kd≠0->kd≠3->kd≠1->kd≠8->Pg.opens kd op=op->XB kd=1->Rf.outside m b op c.toNat=⟨m==1,m,b,op⟩ ->
    (Pg.canStand (Pg.kindOf c.toNat) before op=false/\Rf.formFrom m b op k (s.data.toList.drop k)=(k:Int))\/(Pg.canStand (Pg.kindOf c.toNat) before op=true/\(P9 s k m b op (Pg.kindOf c.toNat)\/((Pg.readPart (Y5 s) s.size k (Pg.kindOf c.toNat)).ok=false/\Rf.formFrom m b op k (s.data.toList.drop k)=(Pg.readPart (Y5 s) s.size k (Pg.kindOf c.toNat)).n))):=by
   intro kd hkd hs0 n0 n3 n1 n8 hopn hmode hout;rw[hkd];have hcs:Pg.canStand kd before op=Pg.endsPiece before:=by simp[Pg.canStand,n0,n3,hs0]
   cases hep:Pg.endsPiece before
   ·left;have hm0:m=0:=by rw[hmb,XB,hep];rfl
    subst hm0;exact⟨by rw[hcs,hep],by rw[hd,VF _ (by rw[hread,hout]) rfl]⟩
   ·right;have hm1:m=1:=by rw[hmb,XB,hep];rfl
    subst hm1;exact⟨by rw[hcs,hep],Or.inl (VN s k c r 1 b op kd (fun _=>false) ⟨true,1,b,op⟩ hd e92 e91 e123 (by rw[hread,hout];rfl) rfl hmode.symm hopn.symm (hother kd n1 n8) (fun h=>n1 h.1))⟩
  rcases esuf with rfl|rfl|rfl
  ·exact hsuf 5 rfl rfl (by decide) (by decide) (by decide) (by decide) rfl rfl rfl
  ·exact hsuf 6 rfl rfl (by decide) (by decide) (by decide) (by decide) rfl rfl rfl
  ·exact hsuf 7 rfl rfl (by decide) (by decide) (by decide) (by decide) rfl rfl rfl
 by_cases ewr:c=93\/c=125
 ·left;rcases ewr with rfl|rfl
  ·exact⟨rfl,by rw[hd,VF _ hread rfl]⟩
  ·exact⟨rfl,by rw[hd,VF _ hread rfl]⟩
 have n91:(c.toNat:Int)≠91:=Yu e91;have n92:(c.toNat:Int)≠92:=Yu e92;have n123:(c.toNat:Int)≠123:=Yu e123;have n40:(c.toNat:Int)≠40:=Yu e40;have n41:(c.toNat:Int)≠41:=Yu e41;have n124:(c.toNat:Int)≠124:=Yu e124;have n42:(c.toNat:Int)≠42:=Yu (fun e=>esuf (Or.inl e));have n43:(c.toNat:Int)≠43:=Yu (fun e=>esuf (Or.inr (Or.inl e)));have n63:(c.toNat:Int)≠63:=Yu (fun e=>esuf (Or.inr (Or.inr e)));have n93:(c.toNat:Int)≠93:=Yu (fun e=>ewr (Or.inl e));have n125:(c.toNat:Int)≠125:=Yu (fun e=>ewr (Or.inr e));have hk1:Pg.kindOf c.toNat=1:=by
  unfold Pg.kindOf;rw[if_neg (by omega),if_neg n40,if_neg n41,if_neg n124,if_neg n42,if_neg n43,if_neg n63,if_neg n123]
 have hout:Rf.outside m b op c.toNat=⟨true,1,b,op⟩:=by
  unfold Rf.outside;rw[if_neg n92,if_neg n91,if_neg n40,if_neg n41,if_neg n124,if_neg (by omega),if_neg n123,if_neg (by omega)]
 right;rw[hk1];refine⟨rfl,Or.inl ?_⟩;by_cases e46:(c.toNat:Int)=46
 ·refine VN s k c r m b op 1 (fun k=>!(Pg.withF (fun _=>false) 10 10 k)) ⟨true,1,b,op⟩ hd e92 e91 e123 (by rw[hread,hout]) rfl rfl rfl ?_ (fun h=>Iv h.2);rw[Pg.readPart,if_pos rfl,Pg.readPlace,hb,if_neg n91,if_pos e46]
 ·have hbd:=Pj c;refine VN s k c r m b op 1 (Pg.withF (fun _=>false) c.toNat c.toNat) ⟨true,1,b,op⟩ hd e92 e91 e123 (by rw[hread,hout]) rfl rfl rfl ?_ (fun h=>NP c.toNat (by omega) hbd h.2);rw[Pg.readPart,if_pos rfl,Pg.readPlace,hb,if_neg n91,if_neg e46,if_neg n92]
theorem RH (g:Int->Int) (len first:Int) (hg:∀j,-1<=g j/\g j<256) (hl:0<=len):∀(u:Nat) (e fa:Int) (f:Nat->Bool),0<=e->0<=(Pg.setLoop g len first u e fa f).n:=by
 intro u
 induction u with
 |zero=>intro e fa f h;exact h
 |succ u ih=>
  intro e fa f h;have hi:=Pg.readItem_bd g e hg;unfold Pg.setLoop;split
  ·split
   ·simp;omega
   ·split
    ·exact ih _ _ _ (by omega)
    ·simp;omega
  ·exact hl
theorem OM (g:Int->Int) (len i kd:Int) (hg:∀j,-1<=g j/\g j<256) (hl:0<=len) (h:0<=i):0<=(Pg.readPart g len i kd).n:=by
 have he:=Pg.readEscape_bd g i hg;unfold Pg.readPart;split
 ·simp only;unfold Pg.readPlace;split
  ·unfold Pg.readSet;split
   ·exact RH g len _ hg hl _ _ _ _ (by omega)
   ·exact RH g len _ hg hl _ _ _ _ (by omega)
  ·split
   ·simp;omega
   ·split
    ·simp;omega
    ·simp;omega
 ·split
  ·simp only;unfold Pg.readCount Pg.readMost
   repeat' split
   all_goals (simp;omega)
  ·simp;omega
theorem SE (s:ByteArray):∀(u k:Nat) (bf op b:Int) (acc:List Pg.Pt),s.size<u+k->k<=s.size->0<=op ->
  ((Pg.partsFrom (Y5 s) s.size u bf op k acc).ok=false/\Rf.formFrom (XB bf) b op k (s.data.toList.drop k)=(Pg.partsFrom (Y5 s) s.size u bf op k acc).n/\0<=(Pg.partsFrom (Y5 s) s.size u bf op k acc).n) \/
  (∃ps,(Pg.partsFrom (Y5 s) s.size u bf op k acc).ok=true/\(Pg.partsFrom (Y5 s) s.size u bf op k acc).ps=acc++ps/\Rf.formFrom (XB bf) b op k (s.data.toList.drop k)=-1 /\
   (op<=6->Rf.deepFrom (XB bf) b op k (s.data.toList.drop k)=Pg.tooDeep ps op) /\
   (∃c,∀v,Rf.valueFrom s.data.toList (v+c) k=some (Pg.falling ps))/\(∃c,∀v,Rf.emptyFrom s.data.toList (v+c) k=some (Pg.matchless ps))/\(∀p∈ps,0<=p.pl/\-1<=p.fa)):=by
 intro u
 induction u with
 |zero=>intro k bf op b acc h1 h2;omega
 |succ u ih=>
  intro k bf op b acc hu hk hop;rcases hd:s.data.toList.drop k with _|⟨c,r⟩
  ·have hks:k=s.size:=by
    have:s.size<=k:=by simpa using hd
    omega
   have hge:¬(k:Int)<(s.size:Int):=by omega
   rw[Pg.partsFrom,if_neg hge];have hmode:XB bf=0\/XB bf=1:=by unfold XB;split<;>simp
   by_cases h0:op=0
   ·right;subst h0;refine⟨[],rfl,by simp,?_,fun _=>rfl,⟨1,fun v=>?_⟩,⟨1,fun v=>?_⟩,by simp⟩
    ·rw[Rf.formFrom,if_neg (by omega)]
    ·rw[Rf.valueFrom,hd];rfl
    ·rw[Rf.emptyFrom,hd];rfl
   ·left;refine⟨by simpa using h0,?_,by simp⟩;rw[Rf.formFrom,if_pos (by omega)]
  ·have hlt:=XW hd;have hlti:(k:Int)<(s.size:Int):=by omega
   have ht:=GP s k c r (XB bf) b op bf hd rfl;rw[Pg.partsFrom,if_pos hlti];unfold Gm at ht;rw[hd]at ht;rcases ht with ⟨h1,h2⟩|⟨h1,h2|⟨h2,h3⟩⟩
   ·left;rw[h1];exact⟨rfl,h2,by simp⟩
   ·obtain⟨n,F,mo,fa,b',hn1,hn2,hp,hform,hdeep,hfa,⟨cv,hval⟩,⟨ce,hemp⟩⟩:=h2;rw[h1,hp];simp only[if_true];rw[hd]at hform hdeep;have hop':0<=Pg.opens (Pg.kindOf (Y5 s k)) op:=by
     unfold Pg.opens;split
     ·omega
     ·split
      ·rename_i h3;rw[h3]at h1;simp[Pg.canStand]at h1;omega
      ·exact hop
    generalize Pg.kindOf (Y5 s k)=kd at *;rcases ih (k+n) kd (Pg.opens kd op) b' (acc++[⟨kd,k,F,0,mo,fa⟩]) (by omega) hn2 hop' with ⟨g1,g2,g3⟩|⟨ps,g1,g2,g3,g4,⟨cv2,g5⟩,⟨ce2,g6⟩,g7⟩
    ·left;exact⟨g1,by rw[hform];exact g2,g3⟩
    ·right;refine⟨⟨kd,k,F,0,mo,fa⟩::ps,g1,by rw[g2];simp,by rw[hform];exact g3,fun ho=>?_,?_,?_,?_⟩
     ·rw[hdeep ho,Pg.tooDeep];by_cases h6:6<Pg.opens kd op
      ·rw[if_pos h6,if_pos h6]
      ·rw[if_neg h6,if_neg h6];exact g4 (by omega)
     ·refine⟨cv2+cv,fun v=>?_⟩;rw[show v+(cv2+cv)=(v+cv2)+cv by omega,hval,Pg.falling];by_cases hf:fa=-1
      ·rw[if_pos hf,if_pos hf];exact g5 v
      ·rw[if_neg hf,if_neg hf]
     ·refine⟨ce2+ce,fun v=>?_⟩;rw[show v+(ce2+ce)=(v+ce2)+ce by omega,hemp,Pg.matchless];by_cases hf:kd=1/\Rf.cntTo F 256=0
      ·rw[if_pos hf,if_pos hf]
      ·rw[if_neg hf,if_neg hf];exact g6 v
     ·intro p hp2;rcases List.mem_cons.1 hp2 with h|h
      ·subst h;exact⟨by simp,hfa⟩
      ·exact g7 p h
   ·left;rw[h1];simp only[if_true];rw[h2];refine⟨rfl,h3,?_⟩;exact OM _ _ _ _ (QY s) (by omega) (by omega)
variable {K b g i k n : Nat}{F : Nat → Bool}{E G : Nat → Nat → Bool}
theorem VK {l:List UInt8}{v:Int} (h:Rf.one l=some (v,n)) (r:List UInt8):Rf.one (l.take n++r)=some (v,n):=by
 unfold Rf.one at h;rcases l with _|⟨c,t⟩
 ·cases h
 simp only at h;by_cases h92:c=92
 ·rw[if_pos h92]at h;rcases t with _|⟨d,t⟩
  ·cases h
  simp only at h;by_cases h110:d=110
  ·rw[if_pos h110]at h;simp only[Option.some.injEq,Prod.mk.injEq]at h;obtain⟨rfl,rfl⟩:=h;simp[Rf.one,h92,h110]
  rw[if_neg h110]at h;by_cases h116:d=116
  ·rw[if_pos h116]at h;simp only[Option.some.injEq,Prod.mk.injEq]at h;obtain⟨rfl,rfl⟩:=h;simp[Rf.one,h92,h116]
  rw[if_neg h116]at h;by_cases h120:d=120
  ·rw[if_pos h120]at h;rcases t with _|⟨x,_|⟨y,t⟩⟩
   ·cases h
   ·cases h
   simp only at h;split at h
   ·rename_i hxy;simp only[Option.some.injEq,Prod.mk.injEq]at h;obtain⟨rfl,rfl⟩:=h;rw[Bool.and_eq_true]at hxy;simp[Rf.one,h92,h120,hxy.1,hxy.2]
   ·cases h
  ·rw[if_neg h120]at h;simp only[Option.some.injEq,Prod.mk.injEq]at h;obtain⟨rfl,rfl⟩:=h;simp[Rf.one,h92,h110,h116,h120]
 ·rw[if_neg h92]at h;simp only[Option.some.injEq,Prod.mk.injEq]at h;obtain⟨rfl,rfl⟩:=h;simp[Rf.one,h92]
theorem Sz:∀(f:Nat) (l:List UInt8) (i:Nat) (fa:Int) (inn:Nat->Bool) (j:Nat) (FA:Int) (F:Nat->Bool),Rf.items f l i fa inn=some (j,FA,F) ->
  ∀(r:List UInt8) (f' i':Nat) (fa':Int),j-i+1<=f'->∃FA',Rf.items f' (l.take (j-i+1)++r) i' fa' inn=some (i'+(j-i),FA',F):=by
 intro f
 induction f with
 |zero=>intro l i fa inn j FA F h;simp[Rf.items]at h
 |succ f ih=>
  intro l i fa inn j FA F h r f' i' fa' hf;obtain⟨f',rfl⟩:∃q,f'=q+1:=⟨f'-1,by omega⟩;have hge:=Rf.items_ge h;unfold Rf.items at h;rcases l with _|⟨c,t⟩
  ·cases h
  simp only at h;by_cases h93:c=93
  ·rw[if_pos h93]at h;simp only[Option.some.injEq,Prod.mk.injEq]at h;obtain⟨rfl,_,rfl⟩:=h;refine⟨fa',?_⟩;simp[Rf.items,h93]
  rw[if_neg h93]at h;rcases ho:Rf.one (c::t)with _|⟨a,n⟩
  ·rw[ho]at h;cases h
  rw[ho]at h;simp only at h;have hn:=Rf.one_le ho;have hnb:=Rf.one_bd ho;rcases hd:(c::t).drop n with _|⟨d,l'⟩
  ·rw[hd]at h;cases h
  rw[hd]at h;simp only at h;by_cases h45:d=45
  ·rw[if_pos h45]at h;rcases ho2:Rf.one l' with _|⟨b,n'⟩
   ·rw[ho2]at h;cases h
   rw[ho2]at h;simp only at h;have hge2:=Rf.items_ge h;have hnb2:=Rf.one_bd ho2;obtain⟨FA',hI⟩:=ih _ _ _ _ _ _ _ h r f' (i'+n+1+n') (if b<a/\fa'<0 then (i':Int) else fa') (by omega);refine⟨FA',?_⟩;have e1:(c::t).take (j-i+1)++r=(c::t).take n++(d::(l'.take n'++((l'.drop n').take (j-(i+n+1+n')+1)++r))):=by
    rw[show j-i+1=n+(1+(n'+(j-(i+n+1+n')+1))) by omega,List.take_add,hd,show 1+(n'+(j-(i+n+1+n')+1))=(n'+(j-(i+n+1+n')+1))+1 by omega,List.take_succ_cons,List.take_add];simp[List.append_assoc]
   have htn:((c::t).take n).length=n:=by rw[List.length_take];omega
   have hhead:∃r2,(c::t).take n++(d::(l'.take n'++((l'.drop n').take (j-(i+n+1+n')+1)++r)))=c::r2:=by
    obtain⟨n0,rfl⟩:∃q,n=q+1:=⟨n-1,by omega⟩;exact⟨_,by rw[List.take_succ_cons,List.cons_append]⟩
   obtain⟨r2,hr2⟩:=hhead;have hone:=VK ho (d::(l'.take n'++((l'.drop n').take (j-(i+n+1+n')+1)++r)));rw[e1,hr2,Rf.items];simp only[if_neg h93];rw[<-hr2,hone];simp only;rw[show((c::t).take n++(d::(l'.take n'++((l'.drop n').take (j-(i+n+1+n')+1)++r)))).drop n=d::(l'.take n'++((l'.drop n').take (j-(i+n+1+n')+1)++r)) by
    rw[List.drop_append_of_le_length (by omega),List.drop_of_length_le (by omega)];rfl]
   simp only[if_pos h45];rw[VK ho2];simp only;have hn':=Rf.one_le ho2;rw[show(l'.take n'++((l'.drop n').take (j-(i+n+1+n')+1)++r)).drop n'=(l'.drop n').take (j-(i+n+1+n')+1)++r by
    rw[List.drop_append_of_le_length (by rw[List.length_take];omega),List.drop_of_length_le (by rw[List.length_take];omega)];rfl]
   rw[hI];congr 2;omega
  ·rw[if_neg h45]at h;have hge2:=Rf.items_ge h;obtain⟨FA',hI⟩:=ih _ _ _ _ _ _ _ h r f' (i'+n) fa' (by omega);refine⟨FA',?_⟩;have e1:(c::t).take (j-i+1)++r=(c::t).take n++((d::l').take (j-(i+n)+1)++r):=by
    rw[show j-i+1=n+(j-(i+n)+1) by omega,List.take_add,hd,List.append_assoc]
   have htn:((c::t).take n).length=n:=by rw[List.length_take];omega
   have hhead:∃r2,(c::t).take n++((d::l').take (j-(i+n)+1)++r)=c::r2:=by
    obtain⟨n0,rfl⟩:∃q,n=q+1:=⟨n-1,by omega⟩;exact⟨_,by rw[List.take_succ_cons,List.cons_append]⟩
   obtain⟨r2,hr2⟩:=hhead;have hone:=VK ho ((d::l').take (j-(i+n)+1)++r);rw[e1,hr2,Rf.items];simp only[if_neg h93];rw[<-hr2,hone];simp only;rw[show((c::t).take n++((d::l').take (j-(i+n)+1)++r)).drop n=(d::l').take (j-(i+n)+1)++r by
    rw[List.drop_append_of_le_length (by omega),List.drop_of_length_le (by omega)];rfl]
   rw[List.take_succ_cons,List.cons_append]at hI ⊢;simp only[if_neg h45];rw[hI];congr 2;omega
theorem Qs {l:List UInt8}{FA:Int} (h:Rf.set l i=some (n,FA,F)) (r:List UInt8) (i':Nat):∃FA',Rf.set (l.take (n-i-1)++r) i'=some (i'+(n-i),FA',F):=by
 have hge:=Rf.set_ge h;unfold Rf.set at h;rcases l with _|⟨c,t⟩
 ·cases h
 simp only at h;by_cases h94:c=94
 ·rw[if_pos h94]at h;rcases hx:Rf.items (t.length+1) t (i+2) (-1) (fun _=>false)with _|⟨a,b,d⟩
  ·rw[hx]at h;cases h
  rw[hx]at h;have hg:=Rf.items_ge hx;simp only[Option.map_some,Option.some.injEq,Prod.mk.injEq]at h;obtain⟨rfl,_,rfl⟩:=h;have hlt:=Rf.items_lt hx;have e1:(c::t).take (a+1-i-1)++r=c::(t.take (a-(i+2)+1)++r):=by
   rw[show a+1-i-1=(a-(i+2)+1)+1 by omega,List.take_succ_cons,List.cons_append]
  have hl:a-(i+2)+1<=(t.take (a-(i+2)+1)++r).length+1:=by
   rw[List.length_append,List.length_take];omega
  obtain⟨FA',hI⟩:=Sz _ _ _ _ _ _ _ _ hx r ((t.take (a-(i+2)+1)++r).length+1) (i'+2) (-1) hl;rw[e1,Rf.set];simp only[if_pos h94,hI,Option.map_some];exact⟨FA',by rw[show i'+2+(a-(i+2))+1=i'+(a+1-i) by omega]⟩
 ·rw[if_neg h94]at h;rcases hx:Rf.items (t.length+2) (c::t) (i+1) (-1) (fun _=>false)with _|⟨a,b,d⟩
  ·rw[hx]at h;cases h
  rw[hx]at h;have hg:=Rf.items_ge hx;simp only[Option.map_some,Option.some.injEq,Prod.mk.injEq]at h;obtain⟨rfl,_,rfl⟩:=h;have hlt:=Rf.items_lt hx;have e1:(c::t).take (a+1-i-1)++r=c::(t.take (a-(i+1))++r):=by
   rw[show a+1-i-1=(a-(i+1))+1 by omega,List.take_succ_cons,List.cons_append]
  have e2:(c::t).take (a-(i+1)+1)++r=c::(t.take (a-(i+1))++r):=by
   rw[List.take_succ_cons,List.cons_append]
  have hl:a-(i+1)+1<=(t.take (a-(i+1))++r).length+2:=by
   simp only[List.length_cons]at hlt;rw[List.length_append,List.length_take];omega
  obtain⟨FA',hI⟩:=Sz _ _ _ _ _ _ _ _ hx r ((t.take (a-(i+1))++r).length+2) (i'+1) (-1) hl;rw[e2]at hI;rw[e1,Rf.set];simp only[if_neg h94,hI,Option.map_some];exact⟨FA',by rw[show i'+1+(a-(i+1))+1=i'+(a+1-i) by omega]⟩
structure Tk where
 w:List UInt8
 kd:Int
 mo:Int
def Yg (ts:List Tk):List UInt8:=ts.flatMap (·.w)
theorem Yy (a b:List Tk):Yg (a++b)=Yg a++Yg b:=by simp[Yg]
theorem Yp (t:Tk) (b:List Tk):Yg (t::b)=t.w++Yg b:=by simp[Yg]
def XY (c:UInt8):Prop:=c=92\/c=91\/c=123\/c=40\/c=41\/c=124\/c=42\/c=43\/c=63\/c=93\/c=125
def UO (w:List UInt8):Prop:=
 (∃c,w=[c]/\¬XY c)\/(∃e v,w=92::e/\∀r,Rf.one (92::(e++r))=some (v,e.length+1)) \/
 (∃e,w=91::e/\∀r i,∃fa inn,Rf.set (e++r) i=some (i+(e.length+1),fa,inn))
def V9 (w:List UInt8) (mo:Int):Prop:=
 (∃x:UInt8,w=[123,x,125]/\48<=(x.toNat:Int)/\(x.toNat:Int)<=57/\mo=(x.toNat:Int)-48) \/
 (∃x z:UInt8,w=[123,x,44,z,125]/\48<=(x.toNat:Int)/\(x.toNat:Int)<=57/\48<=(z.toNat:Int)/\(z.toNat:Int)<=57/\mo=(z.toNat:Int)-48)
def WS (t:Tk):Prop:=
 (t.kd=1/\UO t.w)\/(t.kd=2/\t.w=[40])\/(t.kd=3/\t.w=[41])\/(t.kd=4/\t.w=[124])\/(t.kd=5/\t.w=[42])\/(t.kd=6/\t.w=[43])\/(t.kd=7/\t.w=[63])\/(t.kd=8/\V9 t.w t.mo)
def Yr (t:Tk):Prop:=t.kd=5\/t.kd=6\/t.kd=7\/t.kd=8
def Is:Nat->Bool->List Tk->Int->Prop
 |0,_,_,_=>False
 |f+1,true,ts,V=>(ts=[]/\V=0)\/(∃t r,ts=t::r/\WS t/\t.kd=4/\Is f true r V) \/
   (∃p r A B,ts=p++r/\Is f false p A/\Is f true r B/\V=A+B/\∀t r',r=t::r'->¬Yr t)
 |f+1,false,ts,V=>(∃t,ts=[t]/\WS t/\t.kd=1/\V=1)\/(∃a inn b,ts=a::(inn++[b])/\WS a/\a.kd=2/\WS b/\b.kd=3/\Is f true inn V) \/
   (∃q t A,ts=q++[t]/\Is f false q A/\WS t/\Yr t/\V=if t.kd=8 then A*t.mo else A)
theorem Im:∀(f:Nat) (g:Bool) (ts:List Tk) (V:Int),Is f g ts V->Is (f+1) g ts V:=by
 intro f
 induction f with
 |zero=>intro g ts V h;exact absurd h (by simp[Is])
 |succ f ih=>
  intro g ts V h;cases g
  ·unfold Is at h ⊢;rcases h with h|⟨a,inn,b,h1,h2,h3,h4,h5,h6⟩|⟨q,t,A,h1,h2,h3,h4,h5⟩
   ·exact Or.inl h
   ·exact Or.inr (Or.inl ⟨a,inn,b,h1,h2,h3,h4,h5,ih _ _ _ h6⟩)
   ·exact Or.inr (Or.inr ⟨q,t,A,h1,ih _ _ _ h2,h3,h4,h5⟩)
  ·unfold Is at h ⊢;rcases h with h|⟨t,r,h1,h2,h3,h4⟩|⟨p,r,A,B,h1,h2,h3,h4,h5⟩
   ·exact Or.inl h
   ·exact Or.inr (Or.inl ⟨t,r,h1,h2,h3,ih _ _ _ h4⟩)
   ·exact Or.inr (Or.inr ⟨p,r,A,B,h1,ih _ _ _ h2,ih _ _ _ h3,h4,h5⟩)
theorem Wp {f:Nat}{b:Bool}{ts:List Tk}{V:Int} (h:Is f b ts V) (hfg:f<=g):Is g b ts V:=by
 induction g with
 |zero=>
   have:f=0:=by omega
   subst this;exact h
 |succ g ih=>
  by_cases e:f=g+1
  ·subst e;exact h
  ·exact Im _ _ _ _ (ih (by omega))
def Jm:List Tk->Int->Int->Prop
 |[],_,op=>op=0
 |t::r,bf,op=>WS t/\Pg.canStand t.kd bf op=true/\Jm r t.kd (Pg.opens t.kd op)
theorem JQ {t:Tk} (h:WS t):t.kd=1\/t.kd=2\/t.kd=3\/t.kd=4\/Yr t:=by
 unfold Yr;rcases h with h|h|h|h|h|h|h|h<;>omega
theorem Qm {t:Tk} (h:Yr t) (op:Int):Pg.opens t.kd op=op:=by
 unfold Pg.opens Yr at *;rw[if_neg (by omega),if_neg (by omega)]
theorem Gs:∀(r:List Tk) (f:Nat) (q:List Tk) (A bf op:Int),Is f false q A->Jm r bf op ->
  ∃f' q' A' r' bf',q++r=q'++r'/\Is f' false q' A'/\Jm r' bf' op/\r'.length<=r.length/\∀t r'',r'=t::r''->¬Yr t:=by
 intro r
 induction r with
 |nil=>intro f q A bf op h hv;exact⟨f,q,A,[],bf,rfl,h,hv,Nat.le_refl _,by simp⟩
 |cons t r ih=>
  intro f q A bf op h hv;by_cases hs:Yr t
  ·obtain⟨h1,h2,h3⟩:=hv;rw[Qm hs]at h3;have hq:Is (f+1) false (q++[t]) (if t.kd=8 then A*t.mo else A):=Or.inr (Or.inr ⟨q,t,A,rfl,h,h1,hs,rfl⟩);obtain⟨f',q',A',r',bf',e1,e2,e3,e4,e5⟩:=ih (f+1) (q++[t]) _ _ op hq h3;exact⟨f',q',A',r',bf',by rw[<-e1];simp,e2,e3,by simp;omega,e5⟩
  ·exact⟨f,q,A,t::r,bf,rfl,h,hv,Nat.le_refl _,fun t' r'' e=>by cases e;exact hs⟩
theorem Ih:∀(n:Nat) (ts:List Tk) (bf op:Int),ts.length<=n->0<=op->Jm ts bf op->(∀t r,ts=t::r->¬Yr t) ->
  ∃f inn rest V,ts=inn++rest/\Is f true inn V/\((rest=[]/\op=0)\/(∃b r,rest=b::r/\WS b/\b.kd=3/\0<op/\Jm r 3 (op-1))):=by
 intro n
 induction n with
 |zero=>
  intro ts bf op hl h0 hv _;have:ts=[]:=List.eq_nil_of_length_eq_zero (by omega);subst this;exact⟨1,[],[],0,rfl,Or.inl ⟨rfl,rfl⟩,Or.inl ⟨rfl,hv⟩⟩
 |succ n ih=>
  intro ts bf op hl h0 hv hns;rcases ts with _|⟨t,r⟩
  ·exact⟨1,[],[],0,rfl,Or.inl ⟨rfl,rfl⟩,Or.inl ⟨rfl,hv⟩⟩
  obtain⟨h1,h2,h3⟩:=hv;simp only[List.length_cons]at hl;have go:∀(f:Nat) (q r0:List Tk) (A bf0:Int),Is f false q A->Jm r0 bf0 op->r0.length<=n->t::r=q++r0 ->
    ∃f inn rest V,t::r=inn++rest/\Is f true inn V/\((rest=[]/\op=0)\/(∃b r,rest=b::r/\WS b/\b.kd=3/\0<op/\Jm r 3 (op-1))):=by
   intro f q r0 A bf0 hq hv0 hl0 he;obtain⟨f',q',A',r',bf',e1,e2,e3,e4,e5⟩:=Gs r0 f q A bf0 op hq hv0;obtain⟨f2,inn,rest,V,g1,g2,g3⟩:=ih r' bf' op (by omega) h0 e3 e5;refine⟨max f' f2+1,q'++inn,rest,A'+V,by rw[he,e1,g1,List.append_assoc],Or.inr (Or.inr ⟨q',inn,A',V,rfl,Wp e2 (Nat.le_max_left _ _),Wp g2 (Nat.le_max_right _ _),rfl,?_⟩),g3⟩;intro t' r'' e;exact e5 t' (r''++rest) (by rw[g1,e];rfl)
  rcases JQ h1 with hk|hk|hk|hk|hk
  ·rw[hk]at h3;exact go 1 [t] r 1 1 (Or.inl ⟨t,rfl,h1,hk,rfl⟩) h3 (by omega) rfl
  ·rw[hk]at h3;have h3':=h3;obtain⟨f2,inn,rest,V,g1,g2,g3⟩:=ih r 2 (op+1) (by omega) (by omega) h3' (by
    intro t' r' e hs;rw[e]at h3';have:=h3'.2.1;unfold Yr at hs;simp[Pg.canStand,Pg.endsPiece,Pg.isSuffix]at this;rcases hs with h|h|h|h<;>simp[h]at this)
   rcases g3 with ⟨_,g⟩|⟨b,r2,rfl,k1,k2,k3,k4⟩
   ·omega
   ·rw[show op+1-1=op by omega]at k4;refine go (f2+1) (t::(inn++[b])) r2 V 3 (Or.inr (Or.inl ⟨t,inn,b,rfl,h1,hk,k1,k2,g2⟩)) k4 ?_ (by rw[g1];simp);rw[g1]at hl;simp at hl;omega
  ·refine⟨1,[],t::r,0,rfl,Or.inl ⟨rfl,rfl⟩,Or.inr ⟨t,r,rfl,h1,hk,?_,?_⟩⟩
   ·rw[hk]at h2;simpa[Pg.canStand]using h2
   ·rw[hk]at h3;exact h3
  ·rw[hk]at h3;have h3':=h3;obtain⟨f2,inn,rest,V,g1,g2,g3⟩:=ih r 4 op (by omega) h0 h3' (by
    intro t' r' e hs;rw[e]at h3';have:=h3'.2.1;unfold Yr at hs;simp[Pg.canStand,Pg.endsPiece,Pg.isSuffix]at this;rcases hs with h|h|h|h<;>simp[h]at this)
   exact⟨f2+1,t::inn,rest,V,by rw[g1];rfl,Or.inr (Or.inl ⟨t,inn,rfl,h1,hk,g2⟩),g3⟩
  ·exact absurd hk (hns t r rfl)
def Ws (t:Tk):Pg.Pt:=⟨t.kd,0,fun _=>false,0,t.mo,0⟩
theorem WG (n:Int):Pg.capped n=if 96<n then 97 else n:=rfl
theorem Vn {a b:Int} (_ha:0<=a) (hb:0<=b):Pg.capped (Pg.capped a+b)=Pg.capped (a+b):=by
 simp only[WG];repeat' split
 all_goals omega
theorem MK {a m:Int} (_ha:0<=a) (hm:0<=m):Pg.capped (Pg.capped a*m)=Pg.capped (a*m):=by
 by_cases h:96<a
 ·rw[WG a,if_pos h];by_cases h0:m=0
  ·subst h0;simp
  ·have h1:97*1<=97*m:=Int.mul_le_mul_of_nonneg_left (by omega) (by omega);have h2:97*m<=a*m:=Int.mul_le_mul_of_nonneg_right (by omega) hm;rw[WG,WG,if_pos (by omega),if_pos (by omega)]
 ·rw[WG a,if_neg h]
theorem Wn {a:Int} (ha:0<=a):0<=Pg.capped a:=(Pg.capped_le a ha).1
theorem Qj {t:Tk} (h:WS t) (h8:t.kd=8):0<=t.mo/\V9 t.w t.mo:=by
 have hc:V9 t.w t.mo:=by
  rcases h with h|h|h|h|h|h|h|h
  all_goals first|(exact absurd h.1 (by omega))|exact h.2
 refine⟨?_,hc⟩;rcases hc with ⟨x,_,h1,h2,h3⟩|⟨x,z,_,_,_,h1,h2,h3⟩<;>omega
theorem UT (a b:List Pg.Pt):∀c,Pg.cRun (a++b) c=Pg.cRun b (Pg.cRun a c):=by
 induction a with
 |nil=>intro c;rfl
 |cons p r ih=>intro c;simp only[List.cons_append,Pg.cRun];exact ih _
theorem machine:∀(f:Nat) (g:Bool) (ts:List Tk) (V:Int),Is f g ts V->0<=V /\
  (g=false->∀c:Pg.C,0<=c.ah->0<=c.la->Pg.cRun (ts.map Ws) c=⟨Pg.capped (c.ah+c.la),Pg.capped V,c.st⟩) /\
  (g=true->∀c:Pg.C,0<=c.ah->0<=c.la->∃ah la,Pg.cRun (ts.map Ws) c=⟨ah,la,c.st⟩/\0<=ah/\0<=la/\Pg.capped (ah+la)=Pg.capped (c.ah+c.la+V)):=by
 intro f
 induction f with
 |zero=>intro g ts V h;exact absurd h (by simp[Is])
 |succ f ih=>
  intro g ts V h;cases g
  ·unfold Is at h;rcases h with ⟨t,rfl,h2,h3,rfl⟩|⟨a,inn,b,rfl,h2,h3,h4,h5,h6⟩|⟨q,t,A,rfl,h2,h3,h4,rfl⟩
   ·refine⟨by omega,fun _ c h1 h2=>?_,fun h=>by cases h⟩;simp only[List.map_cons,List.map_nil,Pg.cRun,Pg.cStep,Ws,h3,if_true];rfl
   ·obtain⟨hV,_,hT⟩:=ih true inn V h6;refine⟨hV,fun _ c c1 c2=>?_,fun h=>by cases h⟩;obtain⟨ah,la,e1,e2,e3,e4⟩:=hT rfl ⟨0,0,Pg.capped (c.ah+c.la)::c.st⟩ (by simp) (by simp);simp only[List.map_cons,List.map_append,List.map_nil,Pg.cRun];have s1:Pg.cStep c (Ws a)=⟨0,0,Pg.capped (c.ah+c.la)::c.st⟩:=by simp[Pg.cStep,Ws,h3]
    rw[s1,UT,e1];simp only[Pg.cRun];have s2:Pg.cStep ⟨ah,la,Pg.capped (c.ah+c.la)::c.st⟩ (Ws b)=⟨Pg.capped (c.ah+c.la),Pg.capped (ah+la),c.st⟩:=by simp[Pg.cStep,Ws,h5]
    rw[s2,e4];simp
   ·obtain⟨hA,hF,_⟩:=ih false q A h2;have hV:0<=(if t.kd=8 then A*t.mo else A):=by
     split
     ·rename_i h8;exact Int.mul_nonneg hA (Qj h3 h8).1
     ·exact hA
    refine⟨hV,fun _ c c1 c2=>?_,fun h=>by cases h⟩;rw[List.map_append,UT,hF rfl c c1 c2];simp only[List.map_cons,List.map_nil,Pg.cRun];by_cases h8:t.kd=8
    ·rw[if_pos h8];simp only[Pg.cStep,Ws,h8];rw[if_neg (by decide),if_neg (by decide),if_neg (by decide),if_neg (by decide),if_pos trivial,MK hA (Qj h3 h8).1]
    ·rw[if_neg h8];unfold Yr at h4;unfold Pg.cStep;rw[if_neg (show ¬(Ws t).kd=1 by simp only[Ws];omega),if_neg (show ¬(Ws t).kd=2 by simp only[Ws];omega),if_neg (show ¬(Ws t).kd=3 by simp only[Ws];omega),if_neg (show ¬(Ws t).kd=4 by simp only[Ws];omega),if_neg (show ¬(Ws t).kd=8 from h8)]
  ·unfold Is at h;rcases h with ⟨rfl,rfl⟩|⟨t,r,rfl,h2,h3,h4⟩|⟨p,r,A,B,rfl,h2,h3,rfl,h5⟩
   ·refine⟨by omega,(fun h=>by cases h),fun _ c c1 c2=>⟨c.ah,c.la,rfl,c1,c2,by simp⟩⟩
   ·obtain⟨hV,_,hT⟩:=ih true r V h4;refine⟨hV,(fun h=>by cases h),fun _ c c1 c2=>?_⟩;obtain⟨ah,la,e1,e2,e3,e4⟩:=hT rfl ⟨Pg.capped (c.ah+c.la),0,c.st⟩ (Wn (by omega)) (by simp);refine⟨ah,la,?_,e2,e3,?_⟩
    ·simp only[List.map_cons,Pg.cRun];have s1:Pg.cStep c (Ws t)=⟨Pg.capped (c.ah+c.la),0,c.st⟩:=by simp[Pg.cStep,Ws,h3]
     rw[s1,e1]
    ·rw[e4];simp only[Int.add_zero];exact Vn (by omega) hV
   ·obtain⟨hA,hF,_⟩:=ih false p A h2;obtain⟨hB,_,hT⟩:=ih true r B h3;refine⟨by omega,(fun h=>by cases h),fun _ c c1 c2=>?_⟩;obtain⟨ah,la,e1,e2,e3,e4⟩:=hT rfl ⟨Pg.capped (c.ah+c.la),Pg.capped A,c.st⟩ (Wn (by omega)) (Wn hA);refine⟨ah,la,by rw[List.map_append,UT,hF rfl c c1 c2,e1],e2,e3,?_⟩;rw[e4];simp only;have k1:=Vn (a:=c.ah+c.la) (b:=Pg.capped A+B) (by omega) (by have:=Wn hA;omega);have k2:=Vn (a:=A) (b:=c.ah+c.la+B) hA (by omega);rw[show Pg.capped (c.ah+c.la)+Pg.capped A+B=Pg.capped (c.ah+c.la)+(Pg.capped A+B) by omega,k1,show c.ah+c.la+(Pg.capped A+B)=Pg.capped A+(c.ah+c.la+B) by omega,k2];congr 1;omega
theorem Sb {t:Tk} (h:WS t) (h3:t.kd≠3):∃C,C<=t.w.length/\1<=t.w.length/\∀(p:List UInt8) (i v:Nat) (o:Int) (r:List UInt8),p.drop i=t.w++r->Rf.groupFrom p (v+C) i o=Rf.groupFrom p v (i+t.w.length) (Pg.opens t.kd o):=by
 have one:∀(c:UInt8) (p:List UInt8) (i v:Nat) (o:Int) (r:List UInt8),c≠92->c≠91->c≠40->c≠41->p.drop i=c::r->Rf.groupFrom p (v+1) i o=Rf.groupFrom p v (i+1) o:=by
  intro c p i v o r n1 n2 n3 n4 hd;rw[Rf.groupFrom,hd];simp only[if_neg n1,if_neg n2,if_neg n3,if_neg n4]
 rcases h with ⟨hk,h⟩|⟨hk,hw⟩|⟨hk,hw⟩|⟨hk,hw⟩|⟨hk,hw⟩|⟨hk,hw⟩|⟨hk,hw⟩|⟨hk,h⟩
 ·have ho:∀o,Pg.opens t.kd o=o:=fun o=>by simp[Pg.opens,hk]
  rcases h with ⟨c,hw,hs⟩|⟨e,v0,hw,hone⟩|⟨e,hw,hset⟩
  ·refine⟨1,by simp[hw],by simp[hw],fun p i v o r hd=>?_⟩;rw[ho,hw];rw[hw]at hd;unfold XY at hs;exact one c p i v o r (fun e=>hs (by simp[e])) (fun e=>hs (by simp[e])) (fun e=>hs (by simp[e])) (fun e=>hs (by simp[e])) hd
  ·refine⟨1,by simp[hw],by simp[hw],fun p i v o r hd=>?_⟩;rw[ho,hw];rw[hw]at hd;rw[Rf.groupFrom,hd];simp only[List.cons_append];rw[if_pos trivial,hone r];rfl
  ·refine⟨1,by simp[hw],by simp[hw],fun p i v o r hd=>?_⟩;rw[ho,hw];rw[hw]at hd;obtain⟨fa,inn,hs⟩:=hset r i;rw[Rf.groupFrom,hd];simp only[List.cons_append];rw[if_neg (by decide),if_pos trivial,hs];rfl
 ·refine⟨1,by simp[hw],by simp[hw],fun p i v o r hd=>?_⟩;rw[hw]at hd;rw[Rf.groupFrom,hd,hw];simp[Pg.opens,hk]
 ·exact absurd hk h3
 ·refine⟨1,by simp[hw],by simp[hw],fun p i v o r hd=>?_⟩;rw[hw]at hd;rw[show Pg.opens t.kd o=o by simp[Pg.opens,hk],hw];exact one 124 p i v o r (by decide) (by decide) (by decide) (by decide) hd
 ·refine⟨1,by simp[hw],by simp[hw],fun p i v o r hd=>?_⟩;rw[hw]at hd;rw[show Pg.opens t.kd o=o by simp[Pg.opens,hk],hw];exact one 42 p i v o r (by decide) (by decide) (by decide) (by decide) hd
 ·refine⟨1,by simp[hw],by simp[hw],fun p i v o r hd=>?_⟩;rw[hw]at hd;rw[show Pg.opens t.kd o=o by simp[Pg.opens,hk],hw];exact one 43 p i v o r (by decide) (by decide) (by decide) (by decide) hd
 ·refine⟨1,by simp[hw],by simp[hw],fun p i v o r hd=>?_⟩;rw[hw]at hd;rw[show Pg.opens t.kd o=o by simp[Pg.opens,hk],hw];exact one 63 p i v o r (by decide) (by decide) (by decide) (by decide) hd
 ·have ho:∀o,Pg.opens t.kd o=o:=fun o=>by simp[Pg.opens,hk]
  have dig:∀x:UInt8,48<=(x.toNat:Int)->(x.toNat:Int)<=57->x≠92/\x≠91/\x≠40/\x≠41:=by
   intro x h1 h2;refine⟨?_,?_,?_,?_⟩<;>(intro e;subst e;revert h1 h2;decide)
  rcases h with ⟨x,hw,x1,x2,_⟩|⟨x,z,hw,x1,x2,z1,z2,_⟩
  ·refine⟨3,by simp[hw],by simp[hw],fun p i v o r hd=>?_⟩;rw[hw]at hd;obtain⟨q1,q2,q3,q4⟩:=dig x x1 x2;have d1:p.drop (i+1)=x::125::r:=by rw[<-YT,hd];rfl
   have d2:p.drop (i+2)=125::r:=by rw[<-YT,hd];rfl
   rw[ho,hw,show v+3=v+2+1 by omega,one 123 p i _ o _ (by decide) (by decide) (by decide) (by decide) hd,show v+2=v+1+1 by omega,one x p _ _ o _ q1 q2 q3 q4 d1,one 125 p _ _ o _ (by decide) (by decide) (by decide) (by decide) d2];rfl
  ·refine⟨5,by simp[hw],by simp[hw],fun p i v o r hd=>?_⟩;rw[hw]at hd;obtain⟨q1,q2,q3,q4⟩:=dig x x1 x2;obtain⟨p1,p2,p3,p4⟩:=dig z z1 z2;have d1:p.drop (i+1)=x::44::z::125::r:=by rw[<-YT,hd];rfl
   have d2:p.drop (i+2)=44::z::125::r:=by rw[<-YT,hd];rfl
   have d3:p.drop (i+3)=z::125::r:=by rw[<-YT,hd];rfl
   have d4:p.drop (i+4)=125::r:=by rw[<-YT,hd];rfl
   rw[ho,hw,show v+5=v+4+1 by omega,one 123 p i _ o _ (by decide) (by decide) (by decide) (by decide) hd,show v+4=v+3+1 by omega,one x p _ _ o _ q1 q2 q3 q4 d1,show v+3=v+2+1 by omega,one 44 p _ _ o _ (by decide) (by decide) (by decide) (by decide) d2,show v+2=v+1+1 by omega,one z p _ _ o _ p1 p2 p3 p4 d3,one 125 p _ _ o _ (by decide) (by decide) (by decide) (by decide) d4];rfl
theorem Ge:∀(f:Nat) (g:Bool) (ts:List Tk) (V:Int),Is f g ts V->∃C,C<=(Yg ts).length/\∀(p:List UInt8) (i v:Nat) (o:Int) (r:List UInt8),1<=o->p.drop i=Yg ts++r->Rf.groupFrom p (v+C) i o=Rf.groupFrom p v (i+(Yg ts).length) o:=by
 intro f
 induction f with
 |zero=>intro g ts V h;exact absurd h (by simp[Is])
 |succ f ih=>
  have chain:∀(a b:List UInt8) (Ca Cb:Nat),(∀(p:List UInt8) (i v:Nat) (o:Int) (r:List UInt8),1<=o->p.drop i=a++r->Rf.groupFrom p (v+Ca) i o=Rf.groupFrom p v (i+a.length) o) ->
    (∀(p:List UInt8) (i v:Nat) (o:Int) (r:List UInt8),1<=o->p.drop i=b++r->Rf.groupFrom p (v+Cb) i o=Rf.groupFrom p v (i+b.length) o) ->
    ∀(p:List UInt8) (i v:Nat) (o:Int) (r:List UInt8),1<=o->p.drop i=(a++b)++r->Rf.groupFrom p (v+(Ca+Cb)) i o=Rf.groupFrom p v (i+(a++b).length) o:=by
   intro a b Ca Cb ha hb p i v o r ho hd;rw[show v+(Ca+Cb)=(v+Cb)+Ca by omega,ha p i (v+Cb) o (b++r) ho (by rw[hd,List.append_assoc]),hb p (i+a.length) v o r ho (by rw[<-YT,hd,List.append_assoc,List.drop_left])];rw[List.length_append,Nat.add_assoc]
  intro g ts V h;cases g
  ·unfold Is at h;rcases h with ⟨t,rfl,h2,h3,_⟩|⟨a,inn,b,rfl,h2,h3,h4,h5,h6⟩|⟨q,t,A,rfl,h2,h3,h4,_⟩
   ·obtain⟨C,c1,c2,c3⟩:=Sb h2 (by omega);refine⟨C,by simpa[Yg]using c1,fun p i v o r ho hd=>?_⟩;have:=c3 p i v o r (by simpa[Yg]using hd);rw[this,show Pg.opens t.kd o=o by simp[Pg.opens,h3]];simp[Yg]
   ·obtain⟨Ca,a1,a2,a3⟩:=Sb h2 (by omega);obtain⟨Ci,i1,i2⟩:=ih true inn V h6;have hbw:b.w=[41]:=by
     rcases h4 with h|h|h|h|h|h|h|h
     all_goals first|(exact absurd h.1 (by omega))|exact h.2
    refine⟨Ca+Ci+1,by simp[Yg,hbw]at *;omega,fun p i v o r ho hd=>?_⟩;have hd':p.drop i=a.w++(Yg inn++(41::r)):=by
     rw[hd,Yp,Yy];simp[Yg,hbw]
    have hd2:p.drop (i+a.w.length)=Yg inn++(41::r):=by rw[<-YT,hd',List.drop_left]
    have hd3:p.drop (i+a.w.length+(Yg inn).length)=41::r:=by rw[<-YT,hd2,List.drop_left]
    rw[show v+(Ca+Ci+1)=(v+1+Ci)+Ca by omega,a3 p i _ o _ hd',show Pg.opens a.kd o=o+1 by simp[Pg.opens,h3],i2 p _ _ (o+1) _ (by omega) hd2,Rf.groupFrom,hd3];simp only;rw[if_neg (by decide),if_neg (by decide),if_neg (by decide),if_pos trivial,if_neg (by omega),show o+1-1=o by omega];congr 1;rw[Yp,Yy];simp[Yg,hbw];omega
   ·obtain⟨Cq,q1,q2⟩:=ih false q A h2;obtain⟨C,c1,c2,c3⟩:=Sb h3 (by unfold Yr at h4;omega);refine⟨Cq+C,by rw[Yy];simp[Yg]at *;omega,fun p i v o r ho hd=>?_⟩;rw[Yy]at hd ⊢;refine chain (Yg q) (Yg [t]) Cq C q2 ?_ p i v o r ho hd;intro p i v o r ho hd;have:=c3 p i v o r (by simpa[Yg]using hd);rw[this,Qm h4];simp[Yg]
  ·unfold Is at h;rcases h with ⟨rfl,_⟩|⟨t,r0,rfl,h2,h3,h4⟩|⟨p0,r0,A,B,rfl,h2,h3,_,h5⟩
   ·exact⟨0,by simp,fun p i v o r ho hd=>by simp[Yg]⟩
   ·obtain⟨C,c1,c2,c3⟩:=Sb h2 (by omega);obtain⟨Cr,r1,r2⟩:=ih true r0 V h4;refine⟨C+Cr,by rw[Yp,List.length_append];omega,fun p i v o r ho hd=>?_⟩;rw[Yp]at hd ⊢;refine chain t.w (Yg r0) C Cr ?_ r2 p i v o r ho hd;intro p i v o r ho hd;rw[c3 p i v o r hd,show Pg.opens t.kd o=o by simp[Pg.opens,h3]]
   ·obtain⟨Cp,p1,p2⟩:=ih false p0 A h2;obtain⟨Cr,r1,r2⟩:=ih true r0 B h3;refine⟨Cp+Cr,by rw[Yy,List.length_append];omega,fun p i v o r ho hd=>?_⟩;rw[Yy]at hd ⊢;exact chain (Yg p0) (Yg r0) Cp Cr p2 r2 p i v o r ho hd
end Go.Proofs.Ytoaaklhpmhjhkab
namespace Go.Proofs.Ytoaaklhpmhjhkab
namespace Bm
def leastTo (E:Nat->Nat->Bool) (a:Nat):Nat->Nat
 |0=>a
 |k+1=>if leastTo E a k<k then leastTo E a k else if E k a then k else a
def least (E:Nat->Nat->Bool) (a:Nat):Nat:=leastTo E a a
theorem leastTo_spec (E:Nat->Nat->Bool) (a:Nat):∀k,k<=a->(leastTo E a k<k/\E (leastTo E a k) a=true/\∀b,b<leastTo E a k->E b a=false)\/(leastTo E a k=a/\∀b,b<k->E b a=false)
 |0,_=>Or.inr ⟨rfl,fun b hb=>by omega⟩
 |k+1,hk=>by
  rw[leastTo];rcases leastTo_spec E a k (by omega)with ⟨h1,h2,h3⟩|⟨h1,h2⟩
  ·rw[if_pos h1];exact Or.inl ⟨by omega,h2,h3⟩
  ·rw[if_neg (by omega)];cases h:E k a
   ·simp only[Bool.false_eq_true,if_false];refine Or.inr ⟨trivial,fun b hb=>?_⟩;by_cases e:b=k
    ·subst e;exact h
    ·exact h2 b (by omega)
   ·simp only[if_true];exact Or.inl ⟨by omega,h,h2⟩
structure Eqv (E:Nat->Nat->Bool) (n:Nat):Prop where
 refl:∀a,a<n->E a a=true
 symm:∀a b,a<n->b<n->E a b=true->E b a=true
 trans:∀a b c,a<n->b<n->c<n->E a b=true->E b c=true->E a c=true
theorem least_le (E:Nat->Nat->Bool) (a:Nat):least E a<=a:=by
 rcases leastTo_spec E a a (Nat.le_refl _)with ⟨h1,_⟩|⟨h1,_⟩<;>(unfold least;omega)
variable {b : Nat}{E : Nat → Nat → Bool}
theorem least_min {a:Nat} (h:b<least E a):E b a=false:=by
 rcases leastTo_spec E a a (Nat.le_refl _)with ⟨_,_,h3⟩|⟨h1,h2⟩
 ·exact h3 b h
 ·exact h2 b (by unfold least at h;omega)
variable {n : Nat}
theorem least_like {a:Nat} (hE:Eqv E n) (ha:a<n):E (least E a) a=true:=by
 rcases leastTo_spec E a a (Nat.le_refl _)with ⟨_,h2,_⟩|⟨h1,_⟩
 ·exact h2
 ·unfold least;rw[h1];exact hE.refl a ha
theorem least_eq {a r:Nat} (h:E r a=true) (hm:∀b,b<r->E b a=false) (hE:E (least E a) a=true):least E a=r:=by
 have h1:¬least E a<r:=fun h2=>by rw[hm _ h2]at hE;cases hE
 have h2:¬r<least E a:=fun h3=>by rw[least_min h3]at h;cases h
 omega
theorem least_of_like {a:Nat} (hE:Eqv E n) (ha:a<n) (hb:b<n) (h:E a b=true):least E a=least E b:=by
 have la:=least_like hE ha;have lb:=least_like hE hb;have ka:=least_le E a;have kb:=least_le E b;have h1:¬least E a<least E b:=fun h2=>by
  have:=hE.trans (least E a) a b (by omega) ha hb la h;rw[least_min h2]at this;cases this
 have h2:¬least E b<least E a:=fun h3=>by
  have:=hE.trans (least E b) b a (by omega) hb ha lb (hE.symm a b ha hb h);rw[least_min h3]at this;cases this
 omega
theorem like_of_least {a:Nat} (hE:Eqv E n) (ha:a<n) (hb:b<n) (h:least E a=least E b):E a b=true:=by
 have la:=least_like hE ha;have lb:=least_like hE hb;have ka:=least_le E a;rw[<-h]at lb;exact hE.trans a (least E a) b ha (by omega) hb (hE.symm _ _ (by omega) ha la) lb
theorem least_idem {a:Nat} (hE:Eqv E n) (ha:a<n):least E (least E a)=least E a:=by
 have ka:=least_le E a;exact least_of_like hE (by omega) ha (least_like hE ha)
def reps (E:Nat->Nat->Bool) (n:Nat):List Nat:=(List.range n).filter fun a=>least E a==a
def cnt (E:Nat->Nat->Bool) (n:Nat):Nat:=(reps E n).length
def idx (E:Nat->Nat->Bool) (a:Nat):Nat:=cnt E (least E a)
theorem reps_succ (E:Nat->Nat->Bool) (n:Nat):reps E (n+1)=reps E n++if least E n=n then [n] else []:=by
 unfold reps;rw[List.range_succ,List.filter_append];congr 1;by_cases h:least E n=n
 ·rw[if_pos h];simp[h]
 ·rw[if_neg h];simp[h]
theorem cnt_succ (E:Nat->Nat->Bool) (n:Nat):cnt E (n+1)=cnt E n+if least E n=n then 1 else 0:=by
 unfold cnt;rw[reps_succ,List.length_append];split<;>rfl
theorem cnt_mono (E:Nat->Nat->Bool) {a b:Nat} (h:a<=b):cnt E a<=cnt E b:=by
 induction b with
 |zero=>
   have:a=0:=by omega
   subst this;exact Nat.le_refl _
 |succ b ih=>
  by_cases e:a=b+1
  ·subst e;exact Nat.le_refl _
  ·have:=ih (by omega);rw[cnt_succ];omega
theorem cnt_le (E:Nat->Nat->Bool) (n:Nat):cnt E n<=n:=by
 unfold cnt reps;have:=List.length_filter_le (fun a=>least E a==a) (List.range n);simpa using this
theorem reps_get (E:Nat->Nat->Bool):∀(n a:Nat),a<n->least E a=a->(reps E n)[cnt E a]?=some a
 |0,a,h,_=>by omega
 |n+1,a,h,hr=>by
  rw[reps_succ];by_cases e:a=n
  ·subst e;rw[if_pos hr,List.getElem?_append_right (by unfold cnt;omega)];simp[cnt]
  ·have h1:=reps_get E n a (by omega) hr;rw[List.getElem?_append_left (List.getElem?_eq_some_iff.1 h1).1];exact h1
variable {k : Nat}
theorem reps_mem {a:Nat} (h:(reps E n)[k]?=some a):a<n/\least E a=a/\cnt E a=k:=by
 induction n with
 |zero=>simp[reps]at h
 |succ n ih=>
  rw[reps_succ]at h;by_cases hk:k<(reps E n).length
  ·rw[List.getElem?_append_left hk]at h;obtain⟨h1,h2,h3⟩:=ih h;exact⟨by omega,h2,h3⟩
  ·rw[List.getElem?_append_right (by omega)]at h;by_cases hr:least E n=n
   ·rw[if_pos hr]at h;have hk2:k-(reps E n).length=0:=by
     have:=(List.getElem?_eq_some_iff.1 h).1;simp at this;omega
    rw[hk2]at h;simp at h;subst h;exact⟨by omega,hr,by unfold cnt;omega⟩
   ·rw[if_neg hr]at h;simp at h
theorem cnt_lt {a:Nat} (hr:least E a=a) (h:a<b):cnt E a<cnt E b:=by
 have h1:=cnt_succ E a;rw[if_pos hr]at h1;have h2:=cnt_mono E (show a+1<=b by omega);omega
theorem cnt_inj {a:Nat} (ha:least E a=a) (hb:least E b=b) (h:cnt E a=cnt E b):a=b:=by
 rcases Nat.lt_trichotomy a b with h1|h1|h1
 ·have:=cnt_lt ha h1;omega
 ·exact h1
 ·have:=cnt_lt hb h1;omega
theorem idx_lt {a:Nat} (hE:Eqv E n) (ha:a<n):idx E a<cnt E n:=by
 have:=least_le E a;exact cnt_lt (least_idem hE ha) (by omega)
theorem idx_eq {a:Nat} (hE:Eqv E n) (ha:a<n) (hb:b<n):idx E a=idx E b<->E a b=true:=by
 constructor
 ·intro h;exact like_of_least hE ha hb (cnt_inj (least_idem hE ha) (least_idem hE hb) h)
 ·intro h;unfold idx;rw[least_of_like hE ha hb h]
theorem idx_rep {a:Nat} (h:least E a=a):idx E a=cnt E a:=by unfold idx;rw[h]
theorem rep_like {a r:Nat} (hE:Eqv E n) (ha:a<n) (h:(reps E a)[k]?=some r):E r a=true<->k=idx E a:=by
 obtain⟨h1,h2,h3⟩:=reps_mem h;rw[<-idx_eq hE (by omega) ha,idx_rep h2,h3]
theorem rep_new {a:Nat} (hE:Eqv E n) (ha:a<n):(idx E a=cnt E a<->least E a=a)/\idx E a<=cnt E a:=by
 have hl:=least_le E a;refine⟨⟨fun h=>?_,fun h=>idx_rep h⟩,cnt_mono E hl⟩;rcases Nat.lt_or_ge (least E a) a with h1|h1
 ·have:=cnt_lt (least_idem hE ha) h1;unfold idx at h;omega
 ·omega
end Bm
open Bm
structure QS (E F G:Nat->Nat->Bool) (K:Nat):Prop where
 e:Eqv E 256
 k:K=cnt E 256
 f:Eqv F K
 g:Eqv G 256
 x:∀a b,a<256->b<256->G a b=F (idx E a) (idx E b)
variable {K : Nat}{E G : Nat → Nat → Bool}
theorem QS.kk {F:Nat->Nat->Bool} (h:QS E F G K) {b:Nat} (hb:b<256):idx E b<K:=by
 rw[h.k];exact idx_lt h.e hb
theorem QS.rep {F:Nat->Nat->Bool} (h:QS E F G K) {k:Nat} (hk:k<K):∃r,(reps E 256)[k]?=some r/\r<256/\least E r=r/\cnt E r=k/\idx E r=k:=by
 rw[h.k]at hk;refine⟨_,List.getElem?_eq_getElem hk,?_⟩;obtain⟨h1,h2,h3⟩:=reps_mem (List.getElem?_eq_getElem hk);exact⟨h1,h2,h3,by rw[idx_rep h2];exact h3⟩
theorem QS.lst {F:Nat->Nat->Bool} (h:QS E F G K) {b:Nat} (hb:b<256):(reps E 256)[least F (idx E b)]?=some (least G b)/\least E (least G b)=least G b/\cnt E (least G b)=least F (idx E b):=by
 have hk:=h.kk hb;have hl:=least_le F (idx E b);obtain⟨r,h1,h2,h3,h4,h5⟩:=h.rep (k:=least F (idx E b)) (by omega);have hr:least G b=r:=by
  refine least_eq ?_ (fun c hc=>?_) (least_like h.g hb)
  ·rw[h.x r b h2 hb,h5];exact least_like h.f hk
  ·rw[h.x c b (by omega) hb];refine least_min ?_;rw[<-h4];have hc2:c<256:=by omega
   exact cnt_lt (least_idem h.e hc2) (by have:=least_le E c;omega)
 rw[hr];exact⟨h1,h3,h4⟩
theorem QS.reps_to {F:Nat->Nat->Bool} (h:QS E F G K):∀n,n<=256->reps G n=(reps F (cnt E n)).map fun k=>(reps E 256).getD k 0
 |0,_=>rfl
 |n+1,hn=>by
  have ih:=h.reps_to n (by omega);obtain⟨h1,h2,h3⟩:=h.lst (b:=n) (by omega);rw[reps_succ,ih];by_cases he:least E n=n
  ·have hid:=idx_rep he;rw[cnt_succ,if_pos he,reps_succ F,List.map_append];congr 1;have hg:(reps E 256).getD (cnt E n) 0=n:=by rw[List.getD_eq_getElem?_getD,reps_get E 256 n (by omega) he];rfl
   by_cases hG:least G n=n
   ·rw[hG]at h3;rw[if_pos hG,if_pos (by rw[hid]at h3;exact h3.symm)];show [n]=[(reps E 256).getD (cnt E n) 0];rw[hg]
   ·rw[if_neg hG,if_neg (fun e=>hG ?_)]
    ·rfl
    ·rw[hid,e]at h3;exact cnt_inj h2 he h3
  ·rw[cnt_succ,if_neg he,Nat.add_zero,if_neg (fun e=>he (by rw[e]at h2;exact h2)),List.append_nil]
theorem QS.ix {F:Nat->Nat->Bool} (h:QS E F G K) {b:Nat} (hb:b<256):idx G b=idx F (idx E b):=by
 obtain⟨h1,h2,h3⟩:=h.lst hb;have hle:=least_le G b;unfold idx;unfold idx at h3;rw[<-h3];have h4:=h.reps_to (least G b) (by omega);have h5:=congrArg List.length h4;rw[List.length_map]at h5;exact h5
end Go.Proofs.Ytoaaklhpmhjhkab
