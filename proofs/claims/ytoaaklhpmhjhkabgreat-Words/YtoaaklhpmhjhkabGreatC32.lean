import Derived.Test.YtoaaklhpmhjhkabGreatC20
import Derived.Test.YtoaaklhpmhjhkabGreatC23
import Derived.Test.YtoaaklhpmhjhkabGreatC31
set_option maxRecDepth 100000
set_option maxHeartbeats 4000000
set_option linter.all false
namespace Go.Proofs.YtoaaklhpmhjhkabGreat
open Go.RowKit
theorem IP:∀(f:Nat) (b:Bool) (l:List UInt8) (v:Int),Rf.cnt f b l=some v->Rf.cnt (f+1) b l=some v:=by
 intro f
 induction f with
 |zero=>intro b l v h;cases h
 |succ f ih=>
  intro b l v h;cases b
  ·unfold Rf.cnt at h ⊢;cases hs:Rf.split l with
   |none=>rw[hs]at h;cases h
   |some cut=>
    rw[hs]at h;simp only at h ⊢;cases hd:l.drop cut with
    |cons u us=>
     rw[hd]at h;simp only at h ⊢;cases hc:Rf.cnt f false (l.take cut)with
     |none=>rw[hc]at h;cases h
     |some n=>rw[hc]at h;rw[ih _ _ _ hc];exact h
    |nil=>
     rw[hd]at h;simp only at h ⊢;cases l with
     |nil=>cases h
     |cons c r=>
      simp only at h ⊢;split
      ·rename_i h40;rw[if_pos h40]at h;split
       ·rename_i h0;rw[if_pos h0]at h;cases h
       ·rename_i h0;rw[if_neg h0]at h;exact ih _ _ _ h
      ·rename_i h40;rw[if_neg h40]at h;exact h
  ·cases l with
   |nil=>rw[Rf.cnt]at h ⊢;exact h
   |cons c r=>
    rw[Rf.cnt]at h ⊢
    (try simp only at h ⊢)
    split
    ·rename_i h1;rw[if_pos h1]at h;exact ih _ _ _ h
    ·rename_i h1;rw[if_neg h1]at h;cases hp:Rf.piece (c::r)with
     |none=>rw[hp]at h;cases h
     |some k=>
      rw[hp]at h;simp only at h ⊢;cases ha:Rf.cnt f false ((c::r).take k)with
      |none=>rw[ha]at h;cases h
      |some a=>
       cases hb:Rf.cnt f true ((c::r).drop k)with
       |none=>rw[ha,hb]at h;cases h
       |some d=>rw[ha,hb]at h;rw[ih _ _ _ ha,ih _ _ _ hb];exact h
theorem Lp {f:Nat}{b:Bool}{l:List UInt8}{v:Int} (h:Rf.cnt f b l=some v):∀k,Rf.cnt (f+k) b l=some v
 |0=>h
 |k+1=>IP _ _ _ _ (Lp h k)
variable {s:ByteArray}{X r:List UInt8}{V d:Nat}{c:UInt8}
theorem KC {x:List UInt8} (h:Fv x V d) (hd:d<=6) (hl:x.length<=40) (s:ByteArray) (hs:s.data.toList=x):(Pg.wrong (Y5 s) s.size).1=0/\Yt s=Pg.capped V:=by
 obtain⟨hW,hok⟩:=Xn s;rw[hs]at hW;obtain⟨m',b',hm,hr⟩:=h.run 0 0 (Int.le_refl _);obtain⟨r1,r2⟩:=hr 0 [];rw[List.append_nil]at r1 r2;have hm1:¬1<m':=by omega
 have hf:Rf.form x=-1:=by
  show Rf.formFrom 0 0 0 0 x=-1;rw[r1];simp[Rf.formFrom,hm1]
 have hdp:Rf.deep x=-1:=by
  show Rf.deepFrom 0 0 0 0 x=-1;rw[r2 (by omega)];rfl
 have hv:∀f v,Rf.valueFrom x f 0=some v->v=-1:=fun f v hv=>by
  obtain⟨f',h1⟩:=h.val x 0 [] (by simp) f v hv;cases f' with
  |zero=>cases h1
  |succ f'=>
   rw[Nat.zero_add,Rf.valueFrom,List.drop_length]at h1;exact(Option.some.inj h1).symm
 have he:∀f v,Rf.emptyFrom x f 0=some v->v=-1:=fun f v hv=>by
  obtain⟨f',h1⟩:=h.emp x 0 [] (by simp) f v hv;cases f' with
  |zero=>cases h1
  |succ f'=>
   rw[Nat.zero_add,Rf.emptyFrom,List.drop_length]at h1;exact(Option.some.inj h1).symm
 have h0:(Pg.wrong (Y5 s) s.size).1=0:=by
  rcases hW with ⟨h1,_⟩|⟨_,⟨h1,_⟩|⟨_,⟨h1,_⟩|⟨_,f,v,h1,⟨h2,_⟩|⟨_,g,u,h3,⟨h4,_⟩|⟨_,h4,_⟩⟩⟩⟩⟩
  ·omega
  ·omega
  ·omega
  ·have:=hv f v h1;omega
  ·have:=he g u h3;omega
  ·exact h4
 refine⟨h0,?_⟩;obtain⟨V',g,p1,_,p3⟩:=OR s (hok h0).2.2;obtain⟨ts,F,t1,t2⟩:=h.tok;obtain⟨G,hG⟩:=IR F true ts V t2;have h1:=hG g;rw[t1]at h1;rw[hs]at p1;have h2:=Lp p1 G;rw[h1]at h2;show Pg.countPlaces _=_;rw[p3,<-Option.some.inj h2]
theorem NZ {x:List UInt8} (hst:∀m b o:Int,(m=0\/m=1)->∃b',Yk m b o x=some (1,b')) (hpl:SI x)
  (hval:∀(p:List UInt8) (i:Nat) (r:List UInt8),p.drop i=x++r->∀f v,Rf.valueFrom p f i=some v->∃f',Rf.valueFrom p f' (i+x.length)=some v)
  (hemp:∀(p:List UInt8) (i:Nat) (r:List UInt8),p.drop i=x++r->∀f v,Rf.emptyFrom p f i=some v->∃f',Rf.emptyFrom p f' (i+x.length)=some v):Rt x 1 0:=by
 refine⟨fun m b o hm ho=>?_,hval,hemp,?_⟩
 ·obtain⟨b',hb⟩:=hst m b o hm;exact⟨b',fun i r=>⟨V9 x m b 1 b' i r hb,fun h6=>TU (by omega) x m b 1 b' i r hb⟩⟩
 ·refine⟨[{ w:=x,kd:=1,mo:=0 }],by simp[Ye],⟨_,[],rfl,Gl _ (show(1:Int)<5 by omega)⟩,fun G r W hI hn=>?_⟩;refine⟨G+2,Or.inr (Or.inr ⟨[{ w:=x,kd:=1,mo:=0 }],r,1,W,rfl,Or.inl ⟨_,rfl,Or.inl ⟨rfl,hpl⟩,rfl,rfl⟩,SJ hI (by omega),rfl,hn⟩)⟩
theorem Ik (c:UInt8) (hc:¬WC c):Rt [c] 1 0:=by
 have hs:=hc;unfold WC at hs;simp only[not_or]at hs;obtain⟨s1,s2,s3,s4,s5,s6,s7,s8,s9,s10,s11⟩:=hs;have ne:∀k:UInt8,c≠k->((c.toNat:Int)≠(k.toNat:Int)):=fun k h e=>h (UInt8.toNat_inj.1 (by omega))
 refine NZ (fun m b o hm=>⟨b,?_⟩) (Or.inl ⟨c,rfl,hc⟩) (fun p i r hp f v hv=>It hp s1 s2 s3 hv) (fun p i r hp f v hv=>G0 hp s1 s2 hv);have n1:=ne 92 s1;have n2:=ne 91 s2;have n3:=ne 123 s3;have n4:=ne 40 s4;have n5:=ne 41 s5;have n6:=ne 124 s6;have n7:=ne 42 s7;have n8:=ne 43 s8;have n9:=ne 63 s9;have n10:=ne 93 s10;have n11:=ne 125 s11;have hr:Rf.read m b o c.toNat=⟨true,1,b,o⟩:=by
  rw[NV _ _ _ hm];unfold Rf.outside;simp at n1 n2 n3 n4 n5 n6 n7 n8 n9 n10 n11;simp[n1,n2,n3,n4,n5,n6,n7,n8,n9,n10,n11]
 rw[YG _ hr rfl rfl];rfl
theorem Gx {e:List UInt8}{v:Int} (ho:∀r,Rf.one (92::(e++r))=some (v,e.length+1)) (hst:∀m b o:Int,(m=0\/m=1)->∃b',Yk m b o (92::e)=some (1,b')):Rt (92::e) 1 0:=by
 refine NZ hst (Or.inr (Or.inl ⟨e,v,rfl,ho⟩)) (fun p i r hp f x hx=>?_) (fun p i r hp f x hx=>?_)
 ·cases f with
  |zero=>cases hx
  |succ f=>
   have hp':p.drop i=92::(e++r):=hp;rw[Rf.valueFrom,hp']at hx;simp only[if_true]at hx;rw[ho r]at hx;exact⟨f,hx⟩
 ·cases f with
  |zero=>cases hx
  |succ f=>
   have hp':p.drop i=92::(e++r):=hp;rw[Rf.emptyFrom,hp']at hx;simp only[if_true]at hx;rw[ho r]at hx;exact⟨f,hx⟩
def Dx (x:List UInt8) (g:Fr->Fr):Prop:=∀(qs:List Tq) (r:List UInt8),(∀q∈qs,UX q)->Ye (qs.map Tq.t)=x++r ->
 ∃qr:List Tq,(∀q∈qr,UX q)/\Ye (qr.map Tq.t)=r/\∀c st,Uf qs (c,st)=Uf qr (g c,st)
theorem Ga {x y:List UInt8}{g k:Fr->Fr} (hx:Dx x g) (hy:Dx y k):Dx (x++y) (fun c=>k (g c)):=fun qs r hq e=>by
 obtain⟨q1,a1,a2,a3⟩:=hx qs (y++r) hq (by rw[e,List.append_assoc]);obtain⟨q2,b1,b2,b3⟩:=hy q1 r a1 a2;exact⟨q2,b1,b2,fun c st=>by rw[a3,b3]⟩
theorem Gc:Dx [] (fun c=>c):=fun qs _ hq e=>⟨qs,hq,e,fun _ _=>rfl⟩
variable {q:Tq}
theorem FS (h:UX q):q.t.w≠[]:=by
 rcases h.1 with ⟨_,h⟩|⟨_,h⟩|⟨_,h⟩|⟨_,h⟩|⟨_,h⟩|⟨_,h⟩|⟨_,h⟩|⟨_,h⟩
 ·rcases h with ⟨c,h,_⟩|⟨e,v,h,_⟩|⟨e,h,_⟩<;>simp[h]
 all_goals first|(simp[h];done)|(rcases h with ⟨x,h,_⟩|⟨x,z,h,_⟩<;>simp[h])
variable {qs:List Tq}
theorem Ir (h:∀q∈qs,UX q) (e:Ye (qs.map Tq.t)=c::r):∃q qs' w',qs=q::qs'/\UX q/\(∀q'∈qs',UX q')/\q.t.w=c::w'/\w'++Ye (qs'.map Tq.t)=r:=by
 cases qs with
 |nil=>simp[Ye]at e
 |cons q qs=>
  have hq:=h q (by simp);rw[List.map_cons,Yd]at e;cases hw:q.t.w with
  |nil=>exact absurd hw (FS hq)
  |cons d w'=>
   rw[hw,List.cons_append]at e;cases e;exact⟨q,qs,w',rfl,hq,fun q' hq'=>h q' (by simp[hq']),hw,rfl⟩
theorem FJ (h:UX q) {c:UInt8}{w':List UInt8} (hw:q.t.w=c::w'):
  (c=40->q.t.kd=2/\w'=[])/\(c=41->q.t.kd=3/\w'=[])/\(c=124->q.t.kd=4/\w'=[])/\(c=42->q.t.kd=5/\w'=[])/\(c=43->q.t.kd=6/\w'=[])/\(c=63->q.t.kd=7/\w'=[]) /\
  (c=123->q.t.kd=8/\VR q.t.w q.t.mo)/\(c≠40->c≠41->c≠124->c≠42->c≠43->c≠63->c≠123->q.t.kd=1):=by
 rcases h.1 with ⟨k,h⟩|⟨k,h⟩|⟨k,h⟩|⟨k,h⟩|⟨k,h⟩|⟨k,h⟩|⟨k,h⟩|⟨k,h⟩
 ·have hn:c≠40/\c≠41/\c≠124/\c≠42/\c≠43/\c≠63/\c≠123:=by
   rcases h with ⟨d,h,hs⟩|⟨e,v,h,_⟩|⟨e,h,_⟩
   ·rw[hw]at h;cases h;unfold WC at hs;simp only[not_or]at hs;exact⟨hs.2.2.2.1,hs.2.2.2.2.1,hs.2.2.2.2.2.1,hs.2.2.2.2.2.2.1,hs.2.2.2.2.2.2.2.1,hs.2.2.2.2.2.2.2.2.1,hs.2.2.1⟩
   ·rw[hw]at h;cases h;decide
   ·rw[hw]at h;cases h;decide
  obtain⟨n1,n2,n3,n4,n5,n6,n7⟩:=hn;exact⟨fun e=>absurd e n1,fun e=>absurd e n2,fun e=>absurd e n3,fun e=>absurd e n4,fun e=>absurd e n5,fun e=>absurd e n6,fun e=>absurd e n7,fun _ _ _ _ _ _ _=>k⟩
 all_goals first
  |(rw[hw]at h;cases h;refine⟨?_,?_,?_,?_,?_,?_,?_,?_⟩<;>first|(intro e;exact⟨k,rfl⟩)|(intro e;exact absurd e (by decide))|(intro a1 a2 a3 a4 a5 a6 a7;first|exact absurd rfl a1|exact absurd rfl a2|exact absurd rfl a3|exact absurd rfl a4|exact absurd rfl a5|exact absurd rfl a6))
  |skip
 have hc:c=123:=by
  rcases h with ⟨x,h,_⟩|⟨x,z,h,_⟩<;>(rw[hw]at h;cases h;rfl)
 subst hc;exact⟨fun e=>absurd e (by decide),fun e=>absurd e (by decide),fun e=>absurd e (by decide),fun e=>absurd e (by decide),fun e=>absurd e (by decide),fun e=>absurd e (by decide),fun _=>⟨k,h⟩,fun _ _ _ _ _ _ a=>absurd rfl a⟩
theorem Jk {f g:Nat->Bool} (h:∀b,b<256->f b=g b):Li f=Li g:=Vw fun w=>by
 constructor
 ·rintro ⟨b,e,hb,hf⟩;exact⟨b,e,hb,by rw[<-h b hb];exact hf⟩
 ·rintro ⟨b,e,hb,hf⟩;exact⟨b,e,hb,by rw[h b hb];exact hf⟩
theorem Gq {a b c d:List UInt8} (h:a++b=c++d) (hl:a.length=c.length):a=c/\b=d:=List.append_inj h hl
theorem IT {v:Int} (hs:c≠40/\c≠41/\c≠124/\c≠42/\c≠43/\c≠63/\c≠123) (h46:c≠46) (h91:c≠91) (h:∀r,Rf.one (c::(X++r))=some (v,X.length+1)):Dx (c::X) (fun c=>c.piece (Li fun b=>decide ((b:Int)=v))):=fun qs r hq e=>by
 obtain⟨q,qs',w',rfl,h1,h2,h3,h4⟩:=Ir (r:=X++r) hq e;obtain⟨n1,n2,n3,n4,n5,n6,n7⟩:=hs;have k:=(FJ h1 h3).2.2.2.2.2.2.2 n1 n2 n3 n4 n5 n6 n7;rcases h1.2.1 k with ⟨p1,p2⟩|⟨d,v',r0,p1,_,_,_,p3,p4⟩|⟨e,p1,_⟩
 ·rw[h3]at p1;cases p1;exact absurd rfl h46
 ·have h5:=p3 (Ye (qs'.map Tq.t));rw[h3,List.cons_append,h4,h r]at h5;simp only[Option.some.injEq,Prod.mk.injEq,List.length_cons]at h5;obtain⟨rfl,h6⟩:=h5;obtain⟨e1,e2⟩:=Gq h4 (by omega);subst e1;exact⟨qs',h2,e2,fun c st=>by rw[Sy,FP k,Jk p4]⟩
 ·rw[h3]at p1;cases p1;exact absurd rfl h91
theorem Id {g:Fr->Fr} (hok:(Pg.readParts (Y5 s) s.size).ok=true) (h:Dx s.data.toList g):(WY s).Lq=(g Fr.zero).val:=by
 obtain⟨qs,f,h1,h2,_,h4⟩:=Us s hok;obtain⟨c',r1,r2⟩:=(Gn f 2 qs _ h4).2.2 (Nat.le_refl _) No [];obtain⟨qr,a1,a2,a3⟩:=h qs [] h2 (by rw[h1,List.append_nil]);have hq:qr=[]:=by
  cases qr with
  |nil=>rfl
  |cons q qr=>
   rw[List.map_cons,Yd]at a2;exact absurd (List.append_eq_nil_iff.1 a2).1 (FS (a1 q (by simp)))
 subst hq;have e:=a3 Fr.zero [];have e2:Uf qs (Fr.zero,[])=(c',[]):=r1;rw[e2]at e;have e3:c'=g Fr.zero:=congrArg Prod.fst e;rw[<-e3,r2,Jp]
def RV (d:Nat):UInt8:=if d<10 then UInt8.ofNat (48+d) else UInt8.ofNat (87+d)
def TJ (b:UInt8):List UInt8:=if 97<=b.toNat/\b.toNat<=122 then [b] else [92,120,RV (b.toNat/16),RV (b.toNat%16)]
def VX (w:List UInt8):List UInt8:=w.flatMap TJ
theorem HU:∀d:Fin 16,Rf.hex (RV d.val).toNat=true/\Rf.number (RV d.val).toNat=(d.val:Int):=by decide
theorem Rv (h:d<16):Rf.hex (RV d).toNat=true/\Rf.number (RV d).toNat=(d:Int):=HU ⟨d,h⟩
theorem LJ (b:UInt8) (r:List UInt8):Rf.one (92::([120,RV (b.toNat/16),RV (b.toNat%16)]++r))=some ((b.toNat:Int),4):=by
 have hb:=b.toNat_lt;obtain⟨a1,a2⟩:=Rv (d:=b.toNat/16) (by omega);obtain⟨b1,b2⟩:=Rv (d:=b.toNat%16) (by omega);simp only[Rf.one,List.cons_append,List.nil_append,a1,b1,a2,b2];simp;omega
theorem K0 (b:UInt8) (m q o:Int) (hm:m=0\/m=1):∃b',Yk m q o (92::[120,RV (b.toNat/16),RV (b.toNat%16)])=some (1,b'):=by
 have hb:=b.toNat_lt;obtain⟨a1,_⟩:=Rv (d:=b.toNat/16) (by omega);obtain⟨b1,_⟩:=Rv (d:=b.toNat%16) (by omega);generalize RV (b.toNat/16)=x at *;generalize RV (b.toNat%16)=y at *;refine⟨1,?_⟩;rcases hm with rfl|rfl<;>simp[Yk,Rf.read,Rf.rest,Rf.outside,Rf.to,a1,b1]
theorem JH (b:UInt8):Rt (TJ b) 1 0:=by
 unfold TJ;split
 ·rename_i h;refine Ik b ?_;unfold WC;intro hs;rcases hs with rfl|rfl|rfl|rfl|rfl|rfl|rfl|rfl|rfl|rfl|rfl<;>exact absurd h (by decide)
 ·exact Gx (e:=[120,RV (b.toNat/16),RV (b.toNat%16)]) (v:=b.toNat) (fun r=>LJ b r) (fun m q o hm=>K0 b m q o hm)
theorem LP:∀(w:List UInt8),w≠[]->Rt (VX w) w.length 0
 |[],h=>absurd rfl h
 |[b],_=>by
  have:=JH b;simpa[VX]using this
 |b::c::w,_=>by
  have h1:=Gw (JH b) (LP (c::w) (by simp));rw[show VX (b::c::w)=TJ b++VX (c::w) from by simp[VX],show(b::c::w).length=1+(c::w).length by simp;omega];exact h1
theorem Jc (w:List UInt8):Fv (VX w) w.length 0:=by
 cases w with
 |nil=>exact H7
 |cons b w=>exact H8 (LP (b::w) (by simp))
theorem Jl (b:UInt8):(TJ b).length<=4:=by unfold TJ;split<;>simp
theorem QP:∀w:List UInt8,(VX w).length<=4*w.length
 |[]=>by simp[VX]
 |b::w=>by
  have h1:=Jl b;have h2:=QP w;rw[show VX (b::w)=TJ b++VX w from by simp[VX],List.length_append,List.length_cons];omega
theorem Gb (b:UInt8):Dx (TJ b) (fun c=>c.piece (Li fun x=>decide ((x:Int)=b.toNat))):=by
 unfold TJ;split
 ·rename_i h;have hne:∀c:UInt8,¬(97<=c.toNat/\c.toNat<=122)->b≠c:=fun c hc e=>hc (e▸h)
  refine IT (c:=b) (X:=[]) (v:=b.toNat) ⟨hne _ (by decide),hne _ (by decide),hne _ (by decide),hne _ (by decide),hne _ (by decide),hne _ (by decide),hne _ (by decide)⟩ (hne _ (by decide)) (hne _ (by decide)) (fun r=>?_);have:b≠92:=hne _ (by decide);simp[Rf.one,this]
 ·exact IT (c:=92) (X:=[120,RV (b.toNat/16),RV (b.toNat%16)]) (v:=b.toNat) (by decide) (by decide) (by decide) (fun r=>LJ b r)
def Wn (w:List UInt8):Ln:=fun u=>u=w.map (·.toNat)
def gL:List UInt8->Fr->Fr
 |[],c=>c
 |b::w,c=>gL w (c.piece (Li fun x=>decide ((x:Int)=b.toNat)))
theorem Lr:∀w:List UInt8,Dx (VX w) (gL w)
 |[]=>Gc
 |b::w=>by
  rw[show VX (b::w)=TJ b++VX w from by simp[VX]];have:=Ga (Gb b) (Lr w);exact this
theorem GB:Wn []=Ep:=rfl
theorem Iu (b:UInt8) (w:List UInt8):Cc (Li fun x=>decide ((x:Int)=b.toNat)) (Wn w)=Wn (b::w):=Vw fun u=>by
 constructor
 ·rintro ⟨p,q,e,⟨x,e2,_,hx⟩,hq⟩;have hq':=hq;simp only[decide_eq_true_eq]at hx;show u=_;rw[e,e2,hq',List.map_cons,show x=b.toNat by omega];rfl
 ·intro h;have h':u=(b::w).map (·.toNat):=h;have hw:Wn w (w.map (·.toNat)):=(rfl:w.map (·.toNat)=w.map (·.toNat));exact⟨[b.toNat],w.map (·.toNat),by rw[h'];rfl,⟨b.toNat,rfl,b.toNat_lt,by simp⟩,hw⟩
theorem I4:∀(w:List UInt8) (c:Fr),(gL w c).A=c.A/\(gL w c).row=Cc c.row (Wn w)
 |[],c=>⟨rfl,by rw[GB,Qz];rfl⟩
 |b::w,c=>by
  obtain⟨h1,h2⟩:=I4 w (c.piece (Li fun x=>decide ((x:Int)=b.toNat)));refine⟨h1,?_⟩;rw[gL,h2,<-Iu,<-M8];rfl
theorem Ge (w:List UInt8):(gL w Fr.zero).val=Wn w:=by
 obtain⟨h1,h2⟩:=I4 w Fr.zero;rw[Fr.val,h1,h2];show Un No (Cc (Cc Ep Ep) (Wn w))=_;rw[Qz,IV,Jp]
end Go.Proofs.YtoaaklhpmhjhkabGreat
