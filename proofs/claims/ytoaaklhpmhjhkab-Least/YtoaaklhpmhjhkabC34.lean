import Derived.Test.YtoaaklhpmhjhkabC19
import Derived.Test.YtoaaklhpmhjhkabC22
set_option maxRecDepth 100000
set_option maxHeartbeats 4000000
set_option linter.all false
namespace Go.Proofs.Ytoaaklhpmhjhkab
open Go.RowKit
theorem Ne:∀(f:Nat) (b:Bool) (l:List UInt8) (v:Int),Rf.cnt f b l=some v->Rf.cnt (f+1) b l=some v:=by
 intro f
 induction f with
 |zero=>intro b l v h;cases h
 |succ f ih=>
  intro b l v h;cases b
  ·unfold Rf.cnt at h ⊢;cases hs:Rf.split l with
   |none=>rw[hs]at h;cases h
   |some cut=>
    rw[hs]at h;simp only at h ⊢;cases hd:l.drop cut with
    |cons u us=>
     rw[hd]at h;simp only at h ⊢;cases hc:Rf.cnt f false (l.take cut)with
     |none=>rw[hc]at h;cases h
     |some n=>rw[hc]at h;rw[ih _ _ _ hc];exact h
    |nil=>
     rw[hd]at h;simp only at h ⊢;cases l with
     |nil=>cases h
     |cons c r=>
      simp only at h ⊢;split
      ·rename_i h40;rw[if_pos h40]at h;split
       ·rename_i h0;rw[if_pos h0]at h;cases h
       ·rename_i h0;rw[if_neg h0]at h;exact ih _ _ _ h
      ·rename_i h40;rw[if_neg h40]at h;exact h
  ·cases l with
   |nil=>rw[Rf.cnt]at h ⊢;exact h
   |cons c r=>
    rw[Rf.cnt]at h ⊢
    (try simp only at h ⊢)
    split
    ·rename_i h1;rw[if_pos h1]at h;exact ih _ _ _ h
    ·rename_i h1;rw[if_neg h1]at h;cases hp:Rf.piece (c::r)with
     |none=>rw[hp]at h;cases h
     |some k=>
      rw[hp]at h;simp only at h ⊢;cases ha:Rf.cnt f false ((c::r).take k)with
      |none=>rw[ha]at h;cases h
      |some a=>
       cases hb:Rf.cnt f true ((c::r).drop k)with
       |none=>rw[ha,hb]at h;cases h
       |some d=>rw[ha,hb]at h;rw[ih _ _ _ ha,ih _ _ _ hb];exact h
theorem Pa {f:Nat}{b:Bool}{l:List UInt8}{v:Int} (h:Rf.cnt f b l=some v):∀k,Rf.cnt (f+k) b l=some v
 |0=>h
 |k+1=>Ne _ _ _ _ (Pa h k)
variable {p r x y : List UInt8}{V d i : Nat}{f : Nat → Bool}{c : UInt8}
theorem Ou (h:MX x V d) (hd:d<=6) (hl:x.length<=40) (s:ByteArray) (hs:s.data.toList=x):(Pg.wrong (Y5 s) s.size).1=0/\Yv s=Pg.capped V:=by
 obtain⟨hW,hok⟩:=Xl s;rw[hs]at hW;obtain⟨m',b',hm,hr⟩:=h.run 0 0 (Int.le_refl _);obtain⟨r1,r2⟩:=hr 0 [];rw[List.append_nil]at r1 r2;have hm1:¬1<m':=by omega
 have hf:Rf.form x=-1:=by
  show Rf.formFrom 0 0 0 0 x=-1;rw[r1];simp[Rf.formFrom,hm1]
 have hdp:Rf.deep x=-1:=by
  show Rf.deepFrom 0 0 0 0 x=-1;rw[r2 (by omega)];rfl
 have hv:∀f v,Rf.valueFrom x f 0=some v->v=-1:=fun f v hv=>by
  obtain⟨f',h1⟩:=h.val x 0 [] (by simp) f v hv;cases f' with
  |zero=>cases h1
  |succ f'=>
   rw[Nat.zero_add,Rf.valueFrom,List.drop_length]at h1;exact(Option.some.inj h1).symm
 have he:∀f v,Rf.emptyFrom x f 0=some v->v=-1:=fun f v hv=>by
  obtain⟨f',h1⟩:=h.emp x 0 [] (by simp) f v hv;cases f' with
  |zero=>cases h1
  |succ f'=>
   rw[Nat.zero_add,Rf.emptyFrom,List.drop_length]at h1;exact(Option.some.inj h1).symm
 have h0:(Pg.wrong (Y5 s) s.size).1=0:=by
  rcases hW with ⟨h1,_⟩|⟨_,⟨h1,_⟩|⟨_,⟨h1,_⟩|⟨_,f,v,h1,⟨h2,_⟩|⟨_,g,u,h3,⟨h4,_⟩|⟨_,h4,_⟩⟩⟩⟩⟩
  ·omega
  ·omega
  ·omega
  ·have:=hv f v h1;omega
  ·have:=he g u h3;omega
  ·exact h4
 refine⟨h0,?_⟩;obtain⟨V',g,p1,_,p3⟩:=RH s (hok h0).2.2;obtain⟨ts,F,t1,t2⟩:=h.tok;obtain⟨G,hG⟩:=Ng F true ts V t2;have h1:=hG g;rw[t1]at h1;rw[hs]at p1;have h2:=Pa p1 G;rw[h1]at h2;show Pg.countPlaces _=_;rw[p3,<-Option.some.inj h2]
theorem Tz (hst:∀m b o:Int,(m=0\/m=1)->∃b',YL m b o x=some (1,b')) (hpl:UO x)
  (hval:∀(p:List UInt8) (i:Nat) (r:List UInt8),p.drop i=x++r->∀f v,Rf.valueFrom p f i=some v->∃f',Rf.valueFrom p f' (i+x.length)=some v)
  (hemp:∀(p:List UInt8) (i:Nat) (r:List UInt8),p.drop i=x++r->∀f v,Rf.emptyFrom p f i=some v->∃f',Rf.emptyFrom p f' (i+x.length)=some v):Rt x 1 0:=by
 refine⟨fun m b o hm ho=>?_,hval,hemp,?_⟩
 ·obtain⟨b',hb⟩:=hst m b o hm;exact⟨b',fun i r=>⟨Ye x m b 1 b' i r hb,fun h6=>XX (by omega) x m b 1 b' i r hb⟩⟩
 ·refine⟨[{ w:=x,kd:=1,mo:=0 }],by simp[Yn],⟨_,[],rfl,PP _ (show(1:Int)<5 by omega)⟩,fun G r W hI hn=>?_⟩;refine⟨G+2,Or.inr (Or.inr ⟨[{ w:=x,kd:=1,mo:=0 }],r,1,W,rfl,Or.inl ⟨_,rfl,Or.inl ⟨rfl,hpl⟩,rfl,rfl⟩,Wi hI (by omega),rfl,hn⟩)⟩
theorem US:∀ {n k:Nat},k<n->f k=true->Rf.cntTo f n≠0
 |n+1,k,hk,h=>by
  rw[Rf.cntTo];by_cases e:k=n
  ·subst e;rw[if_pos h];omega
  ·have:=US (show k<n by omega) h;omega
theorem Ua (c:UInt8) (hc:¬XO c):Rt [c] 1 0:=by
 have hs:=hc;unfold XO at hs;simp only[not_or]at hs;obtain⟨s1,s2,s3,s4,s5,s6,s7,s8,s9,s10,s11⟩:=hs;have ne:∀k:UInt8,c≠k->((c.toNat:Int)≠(k.toNat:Int)):=fun k h e=>h (UInt8.toNat_inj.1 (by omega))
 refine Tz (fun m b o hm=>⟨b,?_⟩) (Or.inl ⟨c,rfl,hc⟩) (fun p i r hp f v hv=>XV hp s1 s2 s3 hv) (fun p i r hp f v hv=>X3 hp s1 s2 hv);have n1:=ne 92 s1;have n2:=ne 91 s2;have n3:=ne 123 s3;have n4:=ne 40 s4;have n5:=ne 41 s5;have n6:=ne 124 s6;have n7:=ne 42 s7;have n8:=ne 43 s8;have n9:=ne 63 s9;have n10:=ne 93 s10;have n11:=ne 125 s11;have hr:Rf.read m b o c.toNat=⟨true,1,b,o⟩:=by
  rw[V9 _ _ _ hm];unfold Rf.outside;simp at n1 n2 n3 n4 n5 n6 n7 n8 n9 n10 n11;simp[n1,n2,n3,n4,n5,n6,n7,n8,n9,n10,n11]
 rw[YK _ hr rfl rfl];rfl
theorem P8 {e:List UInt8}{v:Int} (ho:∀r,Rf.one (92::(e++r))=some (v,e.length+1)) (hst:∀m b o:Int,(m=0\/m=1)->∃b',YL m b o (92::e)=some (1,b')):Rt (92::e) 1 0:=by
 refine Tz hst (Or.inr (Or.inl ⟨e,v,rfl,ho⟩)) (fun p i r hp f x hx=>?_) (fun p i r hp f x hx=>?_)
 ·cases f with
  |zero=>cases hx
  |succ f=>
   have hp':p.drop i=92::(e++r):=hp;rw[Rf.valueFrom,hp']at hx;simp only[if_true]at hx;rw[ho r]at hx;exact⟨f,hx⟩
 ·cases f with
  |zero=>cases hx
  |succ f=>
   have hp':p.drop i=92::(e++r):=hp;rw[Rf.emptyFrom,hp']at hx;simp only[if_true]at hx;rw[ho r]at hx;exact⟨f,hx⟩
theorem P9 {e:List UInt8}{g:Nat->Bool} (ho:∀r i,Rf.set (e++r) i=some (i+(e.length+1),-1,g)) (hg:Rf.cntTo g 256≠0) (hst:∀m b o:Int,(m=0\/m=1)->∃b',YL m b o (91::e)=some (1,b')):Rt (91::e) 1 0:=by
 have h91:¬(91:UInt8)=92:=by decide
 refine Tz hst (Or.inr (Or.inr ⟨e,rfl,fun r i=>⟨_,_,ho r i⟩⟩)) (fun p i r hp f x hx=>?_) (fun p i r hp f x hx=>?_)
 ·cases f with
  |zero=>cases hx
  |succ f=>
   have hp':p.drop i=91::(e++r):=hp;rw[Rf.valueFrom,hp']at hx;simp only[h91,if_false,if_true]at hx;rw[ho r i]at hx;simp only at hx;rw[if_neg (by omega)]at hx;exact⟨f,hx⟩
 ·cases f with
  |zero=>cases hx
  |succ f=>
   have hp':p.drop i=91::(e++r):=hp;rw[Rf.emptyFrom,hp']at hx;simp only[h91,if_false,if_true]at hx;rw[ho r i]at hx;simp only at hx;rw[if_neg hg]at hx;exact⟨f,hx⟩
theorem Ln:Rt [92,110] 1 0:=P8 (e:=[110]) (v:=10) (fun r=>rfl) (fun m b o hm=>⟨1,by rcases hm with rfl|rfl<;>simp[YL,Rf.read,Rf.rest,Rf.outside,Rf.to,Rf.has,Rf.marks]⟩)
theorem LG:Rt [92,120,48,48] 1 0:=P8 (e:=[120,48,48]) (v:=0) (fun r=>rfl) (fun m b o hm=>⟨1,by rcases hm with rfl|rfl<;>simp[YL,Rf.read,Rf.rest,Rf.outside,Rf.to,Rf.hex,Rf.digit]⟩)
theorem LF:Rt [92,42] 1 0:=P8 (e:=[42]) (v:=42) (fun r=>rfl) (fun m b o hm=>⟨1,by rcases hm with rfl|rfl<;>simp[YL,Rf.read,Rf.rest,Rf.outside,Rf.to,Rf.has,Rf.marks]⟩)
theorem Pl (a b:UInt8) (ha:a≠94/\a≠93/\a≠92/\a≠45) (hb:b≠93/\b≠92/\b≠45) (r:List UInt8) (i:Nat):Rf.set ([a,b,93]++r) i=some (i+4,-1,fun k:Nat=>((false || (decide ((a.toNat:Int)<=k)&&decide ((k:Int)<=a.toNat))) || (decide ((b.toNat:Int)<=k)&&decide ((k:Int)<=b.toNat))) != false):=by
 simp[Rf.set,Rf.items,Rf.one,ha,hb]
theorem ML (a:UInt8) (ha:a≠93/\a≠92/\a≠45) (r:List UInt8) (i:Nat):Rf.set ([94,a,93]++r) i=some (i+4,-1,fun k:Nat=>(false || (decide ((a.toNat:Int)<=k)&&decide ((k:Int)<=a.toNat))) != true):=by
 simp[Rf.set,Rf.items,Rf.one,ha]
theorem LC:Rt [91,97,98,93] 1 0:=P9 (e:=[97,98,93]) (fun r i=>Pl 97 98 (by decide) (by decide) r i) (US (k:=97) (by omega) (by decide)) (fun m b o hm=>⟨b,by rcases hm with rfl|rfl<;>simp[YL,Rf.read,Rf.rest,Rf.outside,Rf.inner,Rf.to,Rf.has,Rf.notInner]⟩)
theorem LD:Rt [91,98,99,93] 1 0:=P9 (e:=[98,99,93]) (fun r i=>Pl 98 99 (by decide) (by decide) r i) (US (k:=98) (by omega) (by decide)) (fun m b o hm=>⟨b,by rcases hm with rfl|rfl<;>simp[YL,Rf.read,Rf.rest,Rf.outside,Rf.inner,Rf.to,Rf.has,Rf.notInner]⟩)
theorem LE:Rt [91,94,97,93] 1 0:=P9 (e:=[94,97,93]) (fun r i=>ML 97 (by decide) r i) (US (k:=98) (by omega) (by decide)) (fun m b o hm=>⟨b,by rcases hm with rfl|rfl<;>simp[YL,Rf.read,Rf.rest,Rf.outside,Rf.inner,Rf.to,Rf.has,Rf.notInner]⟩)
def V0:Nat->List UInt8
 |0=>[97]
 |1=>[98]
 |2=>[99]
 |3=>[91,97,98,93]
 |4=>[91,94,97,93]
 |5=>[46]
 |6=>[92,110]
 |7=>[91,98,99,93]
 |8=>[92,120,48,48]
 |_=>[92,42]
theorem OK:∀k,k<10->Rt (V0 k) 1 0
 |0,_=>Ua 97 (by unfold XO;decide)
 |1,_=>Ua 98 (by unfold XO;decide)
 |2,_=>Ua 99 (by unfold XO;decide)
 |3,_=>LC
 |4,_=>LE
 |5,_=>Ua 46 (by unfold XO;decide)
 |6,_=>Ln
 |7,_=>LD
 |8,_=>LG
 |9,_=>LF
def Wt:Nat->List UInt8
 |0=>[42]
 |1=>[43]
 |2=>[63]
 |3=>[123,48,44,49,125]
 |_=>[123,49,125]
theorem MR {x:UInt8} (hp:p.drop i=123::x::125::r) {f:Nat}{v:Int} (h:Rf.valueFrom p f i=some v):∃f',Rf.valueFrom p f' (i+1)=some v:=by
 have h1:¬(123:UInt8)=92:=by decide
 have h2:¬(123:UInt8)=91:=by decide
 have h3:¬(125:UInt8)=44:=by decide
 cases f with
 |zero=>cases h
 |succ f=>rw[Rf.valueFrom,hp]at h;simp only[h1,h2,h3,if_false,if_true]at h;exact⟨f,h⟩
theorem OW {x z:UInt8} (hp:p.drop i=123::x::44::z::r) (hxz:¬z.toNat<x.toNat) {f:Nat}{v:Int} (h:Rf.valueFrom p f i=some v):∃f',Rf.valueFrom p f' (i+1)=some v:=by
 have h1:¬(123:UInt8)=92:=by decide
 have h2:¬(123:UInt8)=91:=by decide
 cases f with
 |zero=>cases h
 |succ f=>rw[Rf.valueFrom,hp]at h;simp only[h1,h2,hxz,if_false,if_true]at h;exact⟨f,h⟩
theorem Ya (hp:p.drop i=c::r):p.drop (i+1)=r:=by rw[<-List.drop_drop,hp];rfl
theorem NK (h:Rt x V d):∀j,j<5->Rt (40::(x++41::Wt j)) V (d+1)
 |0,_=>UH (Wq h) [{ w:=[42],kd:=5,mo:=0 }] rfl (Or.inr ⟨_,rfl,Or.inr (Or.inr (Or.inr (Or.inr (Or.inl ⟨rfl,rfl⟩)))),Or.inl rfl,fun e=>absurd e (by decide)⟩)
   (fun b o i r ho=>⟨Ye [42] 1 b 1 b i r (by simp[YL,Rf.read,Rf.rest,Rf.outside]),fun h6=>XX h6 [42] 1 b 1 b i r (by simp[YL,Rf.read,Rf.rest,Rf.outside])⟩)
   (fun p i r hp f v hv=>XV hp (by decide) (by decide) (by decide) hv) (fun p i r hp f v hv=>X3 hp (by decide) (by decide) hv)
 |1,_=>UH (Wq h) [{ w:=[43],kd:=6,mo:=0 }] rfl (Or.inr ⟨_,rfl,Or.inr (Or.inr (Or.inr (Or.inr (Or.inr (Or.inl ⟨rfl,rfl⟩))))),Or.inr (Or.inl rfl),fun e=>absurd e (by decide)⟩)
   (fun b o i r ho=>⟨Ye [43] 1 b 1 b i r (by simp[YL,Rf.read,Rf.rest,Rf.outside]),fun h6=>XX h6 [43] 1 b 1 b i r (by simp[YL,Rf.read,Rf.rest,Rf.outside])⟩)
   (fun p i r hp f v hv=>XV hp (by decide) (by decide) (by decide) hv) (fun p i r hp f v hv=>X3 hp (by decide) (by decide) hv)
 |2,_=>UH (Wq h) [{ w:=[63],kd:=7,mo:=0 }] rfl (Or.inr ⟨_,rfl,Or.inr (Or.inr (Or.inr (Or.inr (Or.inr (Or.inr (Or.inl ⟨rfl,rfl⟩)))))),Or.inr (Or.inr (Or.inl rfl)),fun e=>absurd e (by decide)⟩)
   (fun b o i r ho=>⟨Ye [63] 1 b 1 b i r (by simp[YL,Rf.read,Rf.rest,Rf.outside]),fun h6=>XX h6 [63] 1 b 1 b i r (by simp[YL,Rf.read,Rf.rest,Rf.outside])⟩)
   (fun p i r hp f v hv=>XV hp (by decide) (by decide) (by decide) hv) (fun p i r hp f v hv=>X3 hp (by decide) (by decide) hv)
 |3,_=>UH (Wq h) [{ w:=[123,48,44,49,125],kd:=8,mo:=1 }] rfl (Or.inr ⟨_,rfl,Or.inr (Or.inr (Or.inr (Or.inr (Or.inr (Or.inr (Or.inr ⟨rfl,Or.inr ⟨48,49,rfl,by decide,by decide,by decide,by decide,by decide⟩⟩)))))),Or.inr (Or.inr (Or.inr rfl)),fun _=>rfl⟩)
   (fun b o i r ho=>⟨Ye [123,48,44,49,125] 1 b 1 b i r (by simp[YL,Rf.read,Rf.rest,Rf.outside,Rf.to,Rf.digit]),fun h6=>XX h6 [123,48,44,49,125] 1 b 1 b i r (by simp[YL,Rf.read,Rf.rest,Rf.outside,Rf.to,Rf.digit])⟩)
   (fun p i r hp f v hv=>by
    obtain⟨f1,h1⟩:=OW hp (by decide) hv;obtain⟨f2,h2⟩:=XV (Ya hp) (by decide) (by decide) (by decide) h1;obtain⟨f3,h3⟩:=XV (Ya (Ya hp)) (by decide) (by decide) (by decide) h2;obtain⟨f4,h4⟩:=XV (Ya (Ya (Ya hp))) (by decide) (by decide) (by decide) h3;exact XV (Ya (Ya (Ya (Ya hp)))) (by decide) (by decide) (by decide) h4)
   (fun p i r hp f v hv=>by
    obtain⟨f1,h1⟩:=X3 hp (by decide) (by decide) hv;obtain⟨f2,h2⟩:=X3 (Ya hp) (by decide) (by decide) h1;obtain⟨f3,h3⟩:=X3 (Ya (Ya hp)) (by decide) (by decide) h2;obtain⟨f4,h4⟩:=X3 (Ya (Ya (Ya hp))) (by decide) (by decide) h3;exact X3 (Ya (Ya (Ya (Ya hp)))) (by decide) (by decide) h4)
 |4,_=>UH (Wq h) [{ w:=[123,49,125],kd:=8,mo:=1 }] rfl (Or.inr ⟨_,rfl,Or.inr (Or.inr (Or.inr (Or.inr (Or.inr (Or.inr (Or.inr ⟨rfl,Or.inl ⟨49,rfl,by decide,by decide,by decide⟩⟩)))))),Or.inr (Or.inr (Or.inr rfl)),fun _=>rfl⟩)
   (fun b o i r ho=>⟨Ye [123,49,125] 1 b 1 b i r (by simp[YL,Rf.read,Rf.rest,Rf.outside,Rf.to,Rf.digit]),fun h6=>XX h6 [123,49,125] 1 b 1 b i r (by simp[YL,Rf.read,Rf.rest,Rf.outside,Rf.to,Rf.digit])⟩)
   (fun p i r hp f v hv=>by
    obtain⟨f1,h1⟩:=MR hp hv;obtain⟨f2,h2⟩:=XV (Ya hp) (by decide) (by decide) (by decide) h1;exact XV (Ya (Ya hp)) (by decide) (by decide) (by decide) h2)
   (fun p i r hp f v hv=>by
    obtain⟨f1,h1⟩:=X3 hp (by decide) (by decide) hv;obtain⟨f2,h2⟩:=X3 (Ya hp) (by decide) (by decide) h1;exact X3 (Ya (Ya hp)) (by decide) (by decide) h2)
theorem NJ {W:Nat} (h:Rt x V d) (k:MX y W d):Rt (40::((x++124::y)++[41])) (V+W) (d+1):=
 UH (s:=[]) (MA h k) [] rfl (Or.inl rfl) (fun b o i r ho=>⟨rfl,fun _=>rfl⟩) (fun p i r hp f v hv=>⟨f,hv⟩) (fun p i r hp f v hv=>⟨f,hv⟩)
end Go.Proofs.Ytoaaklhpmhjhkab
