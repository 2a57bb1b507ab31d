import Derived.Test.YtoaaklhpmhjhkabC12
set_option maxRecDepth 100000
set_option maxHeartbeats 4000000
set_option linter.all false
namespace Go.Proofs.Ytoaaklhpmhjhkab
open Go.RowKit
structure Rp (x:List UInt8) (V:Nat) (d:Nat):Prop where
 rt:Rt x V d
 ptok:∃(ts:List Tk) (F:Nat),Yg ts=x/\(∃t r',ts=t::r'/\¬Yr t)/\Is F false ts V
structure Ib (t:Tk):Prop where
 ok:WS t
 suf:Yr t
 run:∀(b o:Int) (i:Nat) (r:List UInt8),0<=o->Rf.formFrom 1 b o i (t.w++r)=Rf.formFrom 1 b o (i+t.w.length) r/\(o<=6->Rf.deepFrom 1 b o i (t.w++r)=Rf.deepFrom 1 b o (i+t.w.length) r)
 val:∀(p:List UInt8) (i:Nat) (r:List UInt8),p.drop i=t.w++r->∀f v,Rf.valueFrom p f i=some v->∃f',Rf.valueFrom p f' (i+t.w.length)=some v
 emp:∀(p:List UInt8) (i:Nat) (r:List UInt8),p.drop i=t.w++r->∀f v,Rf.emptyFrom p f i=some v->∃f',Rf.emptyFrom p f' (i+t.w.length)=some v
variable {x y : List UInt8}{V cap d : Nat}{ad : Option Addr}{w w' : World}
theorem Vw {W:Nat}{t:Tk} (h:Rp x V d) (s:Ib t) (hW:(W:Int)=if t.kd=8 then (V:Int)*t.mo else V):Rp (x++t.w) W d:=by
 obtain⟨ts,F,t1,⟨t0,r0,t2,t3⟩,t4⟩:=h.ptok;have hI:Is (F+1) false (ts++[t]) W:=Or.inr (Or.inr ⟨ts,t,V,rfl,t4,s.ok,s.suf,hW⟩);have hx:Yg (ts++[t])=x++t.w:=by rw[Yy,t1];simp[Yg]
 have e:∀r,(x++t.w)++r=x++(t.w++r):=fun r=>by simp
 have el:∀i,i+(x++t.w).length=i+x.length+t.w.length:=fun i=>by simp;omega
 refine⟨⟨fun m b o hm ho=>?_,fun p i r hp f v hv=>?_,fun p i r hp f v hv=>?_,?_⟩,ts++[t],F+1,hx,⟨t0,r0++[t],by rw[t2];rfl,t3⟩,hI⟩
 ·obtain⟨b1,h1⟩:=h.rt.run m b o hm ho;refine⟨b1,fun i r=>?_⟩;rw[e,el];obtain⟨r1,r2⟩:=s.run b1 o (i+x.length) r ho;exact⟨by rw[(h1 i _).1,r1],fun h6=>by rw[(h1 i _).2 h6,r2 (by omega)]⟩
 ·rw[e]at hp;rw[el];obtain⟨f1,h1⟩:=h.rt.val p i _ hp f v hv;exact s.val p _ r (by rw[<-List.drop_drop,hp,List.drop_left]) f1 v h1
 ·rw[e]at hp;rw[el];obtain⟨f1,h1⟩:=h.rt.emp p i _ hp f v hv;exact s.emp p _ r (by rw[<-List.drop_drop,hp,List.drop_left]) f1 v h1
 ·refine⟨ts++[t],hx,⟨t0,r0++[t],by rw[t2];rfl,t3⟩,fun G r W' hI' hn=>?_⟩;exact⟨F+1+G+1,Or.inr (Or.inr ⟨_,r,W,W',rfl,Wp hI (by omega),Wp hI' (by omega),rfl,hn⟩)⟩
theorem X2 (k:WE x V d):Rp (40::(x++[41])) V (d+1):=by
 refine⟨H5 k [] rfl (Or.inl rfl) (fun b o i r _=>⟨rfl,fun _=>rfl⟩) (fun p i r hp f v hv=>⟨f,hv⟩) (fun p i r hp f v hv=>⟨f,hv⟩),?_⟩;obtain⟨us,F,u1,u2⟩:=k.tok;exact⟨KT::(us++[KS]),F+1,by rw[Yp,Yy,u1];simp[KT,KS,Yg],⟨KT,us++[KS],rfl,Re _ (by decide)⟩,Or.inr (Or.inl ⟨KT,us,KS,rfl,Gi,rfl,Gh,rfl,u2⟩)⟩
theorem PE:∀k,k<10->UO (YB k)
 |0,_=>Or.inl ⟨97,rfl,by unfold XY;decide⟩
 |1,_=>Or.inl ⟨98,rfl,by unfold XY;decide⟩
 |2,_=>Or.inl ⟨99,rfl,by unfold XY;decide⟩
 |3,_=>Or.inr (Or.inr ⟨[97,98,93],rfl,fun r i=>⟨_,_,Sh 97 98 (by decide) (by decide) r i⟩⟩)
 |4,_=>Or.inr (Or.inr ⟨[94,97,93],rfl,fun r i=>⟨_,_,Mz 97 (by decide) r i⟩⟩)
 |5,_=>Or.inl ⟨46,rfl,by unfold XY;decide⟩
 |6,_=>Or.inr (Or.inl ⟨[110],10,rfl,fun r=>rfl⟩)
 |7,_=>Or.inr (Or.inr ⟨[98,99,93],rfl,fun r i=>⟨_,_,Sh 98 99 (by decide) (by decide) r i⟩⟩)
 |8,_=>Or.inr (Or.inl ⟨[120,48,48],0,rfl,fun r=>rfl⟩)
 |9,_=>Or.inr (Or.inl ⟨[42],42,rfl,fun r=>rfl⟩)
theorem Tj (k:Nat) (hk:k<10):Rp (YB k) 1 0:=
 ⟨Qr k hk,[⟨YB k,1,0⟩],1,by simp[Yg],⟨_,[],rfl,Re _ (by show(1:Int)<5;omega)⟩,Or.inl ⟨_,rfl,Or.inl ⟨rfl,PE k hk⟩,rfl,rfl⟩⟩
theorem JP {W:Nat} (k:WE y W d):WE (124::y) W d:=by
 refine⟨fun b o ho=>?_,fun p i r hp f v hv=>?_,fun p i r hp f v hv=>?_,?_⟩
 ·obtain⟨m2,b2,hm2,h2⟩:=k.run b o ho;refine⟨m2,b2,hm2,fun i r=>?_⟩;have el:i+(124::y).length=i+1+y.length:=by simp;omega
  rw[List.cons_append,el];exact⟨by rw[R0 (PI b o (Or.inl rfl)),(h2 _ r).1],fun h6=>by rw[RZ (PI b o (Or.inl rfl)) (by omega),(h2 _ r).2 h6]⟩
 ·have el:i+(124::y).length=i+1+y.length:=by simp;omega
  rw[List.cons_append]at hp;rw[el];obtain⟨f2,h2⟩:=Ye hp (by decide) (by decide) (by decide) hv;exact k.val p _ r (by rw[<-List.drop_drop,hp];rfl) f2 v h2
 ·have el:i+(124::y).length=i+1+y.length:=by simp;omega
  rw[List.cons_append]at hp;rw[el];obtain⟨f2,h2⟩:=Yi hp (by decide) (by decide) hv;exact k.emp p _ r (by rw[<-List.drop_drop,hp];rfl) f2 v h2
 ·obtain⟨us,F,u1,u2⟩:=k.tok;exact⟨GS::us,F+1,by rw[Yp,u1];rfl,Or.inr (Or.inl ⟨GS,us,rfl,Gg,rfl,u2⟩)⟩
theorem KA:Ib ⟨[42],5,0⟩:=by
 refine⟨Or.inr (Or.inr (Or.inr (Or.inr (Or.inl ⟨rfl,rfl⟩)))),Or.inl rfl,fun b o i r ho=>⟨Yc [42] 1 b 1 b i r (by simp[YH,Rf.read,Rf.rest,Rf.outside]),fun h6=>XX h6 [42] 1 b 1 b i r (by simp[YH,Rf.read,Rf.rest,Rf.outside])⟩,fun p i r hp f v hv=>?_,fun p i r hp f v hv=>?_⟩
 ·exact Ye hp (by decide) (by decide) (by decide) hv
 ·exact Yi hp (by decide) (by decide) hv
theorem Kz:Ib ⟨[43],6,0⟩:=by
 refine⟨Or.inr (Or.inr (Or.inr (Or.inr (Or.inr (Or.inl ⟨rfl,rfl⟩))))),Or.inr (Or.inl rfl),fun b o i r ho=>⟨Yc [43] 1 b 1 b i r (by simp[YH,Rf.read,Rf.rest,Rf.outside]),fun h6=>XX h6 [43] 1 b 1 b i r (by simp[YH,Rf.read,Rf.rest,Rf.outside])⟩,fun p i r hp f v hv=>?_,fun p i r hp f v hv=>?_⟩
 ·exact Ye hp (by decide) (by decide) (by decide) hv
 ·exact Yi hp (by decide) (by decide) hv
theorem I2:Ib ⟨[63],7,0⟩:=by
 refine⟨Or.inr (Or.inr (Or.inr (Or.inr (Or.inr (Or.inr (Or.inl ⟨rfl,rfl⟩)))))),Or.inr (Or.inr (Or.inl rfl)),fun b o i r ho=>⟨Yc [63] 1 b 1 b i r (by simp[YH,Rf.read,Rf.rest,Rf.outside]),fun h6=>XX h6 [63] 1 b 1 b i r (by simp[YH,Rf.read,Rf.rest,Rf.outside])⟩,fun p i r hp f v hv=>?_,fun p i r hp f v hv=>?_⟩
 ·exact Ye hp (by decide) (by decide) (by decide) hv
 ·exact Yi hp (by decide) (by decide) hv
theorem H6:Ib ⟨[123,48,125],8,0⟩:=by
 refine⟨Or.inr (Or.inr (Or.inr (Or.inr (Or.inr (Or.inr (Or.inr ⟨rfl,Or.inl ⟨48,rfl,by decide,by decide,by decide⟩⟩)))))),Or.inr (Or.inr (Or.inr rfl)),fun b o i r ho=>⟨Yc [123,48,125] 1 b 1 b i r (by simp[YH,Rf.read,Rf.rest,Rf.outside,Rf.to,Rf.digit]),fun h6=>XX h6 [123,48,125] 1 b 1 b i r (by simp[YH,Rf.read,Rf.rest,Rf.outside,Rf.to,Rf.digit])⟩,fun p i r hp f v hv=>?_,fun p i r hp f v hv=>?_⟩
 ·obtain⟨f1,h1⟩:=MD hp hv;obtain⟨f2,h2⟩:=Ye (YD hp) (by decide) (by decide) (by decide) h1;exact Ye (YD (YD hp)) (by decide) (by decide) (by decide) h2
 ·obtain⟨f1,h1⟩:=Yi hp (by decide) (by decide) hv;obtain⟨f2,h2⟩:=Yi (YD hp) (by decide) (by decide) h1;exact Yi (YD (YD hp)) (by decide) (by decide) h2
theorem Ky:Ib ⟨[123,50,125],8,2⟩:=by
 refine⟨Or.inr (Or.inr (Or.inr (Or.inr (Or.inr (Or.inr (Or.inr ⟨rfl,Or.inl ⟨50,rfl,by decide,by decide,by decide⟩⟩)))))),Or.inr (Or.inr (Or.inr rfl)),fun b o i r ho=>⟨Yc [123,50,125] 1 b 1 b i r (by simp[YH,Rf.read,Rf.rest,Rf.outside,Rf.to,Rf.digit]),fun h6=>XX h6 [123,50,125] 1 b 1 b i r (by simp[YH,Rf.read,Rf.rest,Rf.outside,Rf.to,Rf.digit])⟩,fun p i r hp f v hv=>?_,fun p i r hp f v hv=>?_⟩
 ·obtain⟨f1,h1⟩:=MD hp hv;obtain⟨f2,h2⟩:=Ye (YD hp) (by decide) (by decide) (by decide) h1;exact Ye (YD (YD hp)) (by decide) (by decide) (by decide) h2
 ·obtain⟨f1,h1⟩:=Yi hp (by decide) (by decide) hv;obtain⟨f2,h2⟩:=Yi (YD hp) (by decide) (by decide) h1;exact Yi (YD (YD hp)) (by decide) (by decide) h2
theorem I1:Ib ⟨[123,50,44,51,125],8,3⟩:=by
 refine⟨Or.inr (Or.inr (Or.inr (Or.inr (Or.inr (Or.inr (Or.inr ⟨rfl,Or.inr ⟨50,51,rfl,by decide,by decide,by decide,by decide,by decide⟩⟩)))))),Or.inr (Or.inr (Or.inr rfl)),fun b o i r ho=>⟨Yc [123,50,44,51,125] 1 b 1 b i r (by simp[YH,Rf.read,Rf.rest,Rf.outside,Rf.to,Rf.digit]),fun h6=>XX h6 [123,50,44,51,125] 1 b 1 b i r (by simp[YH,Rf.read,Rf.rest,Rf.outside,Rf.to,Rf.digit])⟩,fun p i r hp f v hv=>?_,fun p i r hp f v hv=>?_⟩
 ·obtain⟨f1,h1⟩:=Qt hp (by decide) hv;obtain⟨f2,h2⟩:=Ye (YD hp) (by decide) (by decide) (by decide) h1;obtain⟨f3,h3⟩:=Ye (YD (YD hp)) (by decide) (by decide) (by decide) h2;obtain⟨f4,h4⟩:=Ye (YD (YD (YD hp))) (by decide) (by decide) (by decide) h3;exact Ye (YD (YD (YD (YD hp)))) (by decide) (by decide) (by decide) h4
 ·obtain⟨f1,h1⟩:=Yi hp (by decide) (by decide) hv;obtain⟨f2,h2⟩:=Yi (YD hp) (by decide) (by decide) h1;obtain⟨f3,h3⟩:=Yi (YD (YD hp)) (by decide) (by decide) h2;obtain⟨f4,h4⟩:=Yi (YD (YD (YD hp))) (by decide) (by decide) h3;exact Yi (YD (YD (YD (YD hp)))) (by decide) (by decide) h4
theorem MA:Ib ⟨[123,48,44,50,125],8,2⟩:=by
 refine⟨Or.inr (Or.inr (Or.inr (Or.inr (Or.inr (Or.inr (Or.inr ⟨rfl,Or.inr ⟨48,50,rfl,by decide,by decide,by decide,by decide,by decide⟩⟩)))))),Or.inr (Or.inr (Or.inr rfl)),fun b o i r ho=>⟨Yc [123,48,44,50,125] 1 b 1 b i r (by simp[YH,Rf.read,Rf.rest,Rf.outside,Rf.to,Rf.digit]),fun h6=>XX h6 [123,48,44,50,125] 1 b 1 b i r (by simp[YH,Rf.read,Rf.rest,Rf.outside,Rf.to,Rf.digit])⟩,fun p i r hp f v hv=>?_,fun p i r hp f v hv=>?_⟩
 ·obtain⟨f1,h1⟩:=Qt hp (by decide) hv;obtain⟨f2,h2⟩:=Ye (YD hp) (by decide) (by decide) (by decide) h1;obtain⟨f3,h3⟩:=Ye (YD (YD hp)) (by decide) (by decide) (by decide) h2;obtain⟨f4,h4⟩:=Ye (YD (YD (YD hp))) (by decide) (by decide) (by decide) h3;exact Ye (YD (YD (YD (YD hp)))) (by decide) (by decide) (by decide) h4
 ·obtain⟨f1,h1⟩:=Yi hp (by decide) (by decide) hv;obtain⟨f2,h2⟩:=Yi (YD hp) (by decide) (by decide) h1;obtain⟨f3,h3⟩:=Yi (YD (YD hp)) (by decide) (by decide) h2;obtain⟨f4,h4⟩:=Yi (YD (YD (YD hp))) (by decide) (by decide) h3;exact Yi (YD (YD (YD (YD hp)))) (by decide) (by decide) h4
theorem WE.as (h:WE x V d) (e:x=y):WE y V d:=e▸h
theorem XU (h:Rp x V d):Rp (x++[42]) V d:=Vw h KA (by simp)
theorem PO (h:Rp x V d):Rp (x++[43]) V d:=Vw h Kz (by simp)
theorem Ti (h:Rp x V d):Rp (x++[63]) V d:=Vw h I2 (by simp)
theorem Nb {z:List UInt8} (px:Rp x 1 0) (py:Rp y 1 0) (pz:Rp z 1 0):∀k,∃V d W e,WE (Y1 x y z k).1 V d/\WE (Y1 x y z k).2 W e/\V<=5/\W<=5/\d<=6/\e<=6:=by
 have X:=fun d=>px.rt.mono (Nat.zero_le d)
 have Y:=fun d=>py.rt.mono (Nat.zero_le d)
 have Z:=fun d=>pz.rt.mono (Nat.zero_le d)
 have bxy:=Vs (X 0) (YS (Y 0));have byx:=Vs (Y 0) (YS (X 0));intro k;rcases k with _|_|_|_|_|_|_|_|_|_|_|_|_|_|_|_|_|_|_|k
 ·exact⟨_,_,_,_,WE.as (bxy) (by simp[Y1]),WE.as (byx) (by simp[Y1]),by omega,by omega,by omega,by omega⟩
 ·exact⟨_,_,_,_,WE.as (YS (Yh (X2 bxy).rt (Z 1))) (by simp[Y1]),WE.as (Vs (Yh (X 0) (Z 0)) (YS (Yh (Y 0) (Z 0)))) (by simp[Y1]),by omega,by omega,by omega,by omega⟩
 ·exact⟨_,_,_,_,WE.as (YS (Yh (X 1) (XU (X2 (YS (Yh (Y 0) (X 0))))).rt)) (by simp[Y1]),WE.as (YS (Yh (XU (X2 (YS (Yh (X 0) (Y 0))))).rt (X 1))) (by simp[Y1]),by omega,by omega,by omega,by omega⟩
 ·exact⟨_,_,_,_,WE.as (YS ((XU (X2 (YS (XU px).rt))).rt)) (by simp[Y1]),WE.as (YS ((XU px).rt)) (by simp[Y1]),by omega,by omega,by omega,by omega⟩
 ·exact⟨_,_,_,_,WE.as (YS ((PO px).rt)) (by simp[Y1]),WE.as (YS (Yh (X 0) (XU px).rt)) (by simp[Y1]),by omega,by omega,by omega,by omega⟩
 ·exact⟨_,_,_,_,WE.as (YS ((Vw (W:=3) px I1 (by simp)).rt)) (by simp[Y1]),WE.as (Vs (Yh (X 0) (X 0)) (YS (Yh (Yh (X 0) (X 0)) (X 0)))) (by simp[Y1]),by omega,by omega,by omega,by omega⟩
 ·exact⟨_,_,_,_,WE.as (YS ((XU (X2 bxy)).rt)) (by simp[Y1]),WE.as (YS ((XU (X2 (YS (Yh (XU px).rt (XU py).rt)))).rt)) (by simp[Y1]),by omega,by omega,by omega,by omega⟩
 ·exact⟨_,_,_,_,WE.as (YS ((XU (X2 bxy)).rt)) (by simp[Y1]),WE.as (YS (Yh (XU (X2 (YS (Yh (XU px).rt (Y 0))))).rt ((XU px).rt.mono (Nat.zero_le _)))) (by simp[Y1]),by omega,by omega,by omega,by omega⟩
 ·exact⟨_,_,_,_,WE.as (YS ((Ti px).rt)) (by simp[Y1]),WE.as (JP (YS (X 0))) (by simp[Y1]),by omega,by omega,by omega,by omega⟩
 ·exact⟨_,_,_,_,WE.as (YS ((Vw (W:=2) px MA (by simp)).rt)) (by simp[Y1]),WE.as (YS ((Ti (X2 (YS (Yh (X 0) (Ti px).rt)))).rt)) (by simp[Y1]),by omega,by omega,by omega,by omega⟩
 ·exact⟨_,_,_,_,WE.as (YS ((X2 (YS (X2 (YS (X 0))).rt)).rt)) (by simp[Y1]),WE.as (YS (X 0)) (by simp[Y1]),by omega,by omega,by omega,by omega⟩
 ·exact⟨_,_,_,_,WE.as (Vs (X 0) (YS (X 0))) (by simp[Y1]),WE.as (YS (X 0)) (by simp[Y1]),by omega,by omega,by omega,by omega⟩
 ·exact⟨_,_,_,_,WE.as (YS (Yh (X2 (YS (Yh (X 0) (Y 0)))).rt (Z 1))) (by simp[Y1]),WE.as (YS (Yh (X 1) (X2 (YS (Yh (Y 0) (Z 0)))).rt)) (by simp[Y1]),by omega,by omega,by omega,by omega⟩
 ·exact⟨_,_,_,_,WE.as (YS ((Vw (W:=0) px H6 (by simp)).rt)) (by simp[Y1]),WE.as (YS ((X2 Mk).rt)) (by simp[Y1]),by omega,by omega,by omega,by omega⟩
 ·exact⟨_,_,_,_,WE.as (YS ((PO (X2 bxy)).rt)) (by simp[Y1]),WE.as (YS (Yh (X2 bxy).rt (XU (X2 byx)).rt)) (by simp[Y1]),by omega,by omega,by omega,by omega⟩
 ·exact⟨_,_,_,_,WE.as (YS ((Vw (W:=2) (X2 (YS (Ti px).rt)) Ky (by simp)).rt)) (by simp[Y1]),WE.as (YS ((Vw (W:=2) px MA (by simp)).rt)) (by simp[Y1]),by omega,by omega,by omega,by omega⟩
 ·exact⟨_,_,_,_,WE.as (YS ((Ti (X2 (YS (PO px).rt))).rt)) (by simp[Y1]),WE.as (YS ((XU px).rt)) (by simp[Y1]),by omega,by omega,by omega,by omega⟩
 ·exact⟨_,_,_,_,WE.as (YS (Yh (Z 1) (X2 bxy).rt)) (by simp[Y1]),WE.as (Vs (Yh (Z 0) (X 0)) (YS (Yh (Z 0) (Y 0)))) (by simp[Y1]),by omega,by omega,by omega,by omega⟩
 ·exact⟨_,_,_,_,WE.as (YS ((Vw (W:=4) (X2 (YS (Yh (X 0) (Y 0)))) Ky (by simp)).rt)) (by simp[Y1]),WE.as (YS (Yh (Yh (Yh (X 0) (Y 0)) (X 0)) (Y 0))) (by simp[Y1]),by omega,by omega,by omega,by omega⟩
 ·exact⟨_,_,_,_,WE.as (YS (Yh (X2 (Vs (X 0) Mk)).rt (Y 1))) (by simp[Y1]),WE.as (YS (Yh (Ti px).rt (Y 0))) (by simp[Y1]),by omega,by omega,by omega,by omega⟩
open Pg (Pt)
def PS (ad:Option Addr) (ps:List Pt) (w:World):Prop:=∀(k:Nat) (p:Pt),ps[k]?=some p->∃g o,ad=some ⟨g,o,none⟩/\w.rangeAt g (o+k*261) (Pt.cells p)
variable {ps : List Pt}
theorem PS.keep (h:PS ad ps w) (hk:∀g o,ad=some ⟨g,o,none⟩->w'.heap[g]?=w.heap[g]?):PS ad ps w':=fun k p hp=>by
 obtain⟨g,o,e,hr⟩:=h k p hp;refine⟨g,o,e,fun j v hv=>?_⟩;rw[World.cell?_of_block (w:=w) (a:=⟨g,o+k*261+j,none⟩) (hk g o e)];exact hr j v hv
theorem PS.below (h:PS ad ps w) (hW:Below w.heap.size w w'):PS ad ps w':=fun k p hp=>by
 obtain⟨g,o,e,hr⟩:=h k p hp;refine⟨g,o,e,fun j v hv=>?_⟩;have:=hr j v hv;rw[hW.cell (p:=⟨g,o+k*261+j,none⟩) (World.block_lt_of_cell? w _ this)];exact this
def Sp (ad:Option Addr) (cap l:Nat):Option Addr:=if cap=l then ad else ad.map (·.add (l*261))
theorem PS.sub (h:PS ad ps w) (l n:Nat) (hn:l+n<=ps.length) (hc:ps.length<=cap):PS (Sp ad cap l) ((ps.drop l).take n) w:=fun k p hp=>by
 have hk:k<n:=by
  have:=(List.getElem?_eq_some_iff.1 hp).1;simp at this;omega
 rw[List.getElem?_take,if_pos hk,List.getElem?_drop]at hp;obtain⟨g,o,e,hr⟩:=h (l+k) p hp;refine⟨g,o+l*261,?_,?_⟩
 ·rw[Sp,if_neg (by omega),e,Option.map_some,Addr.add_mid]
 ·rw[show o+l*261+k*261=o+(l+k)*261 by rw[Nat.add_mul];omega];exact hr
theorem WO {ops : Array Oper} {rest : List Oper} {op : Oper} {a : Act} {w : World} {Q : Exit -> Act -> World -> Prop} (hgd : op.guard = none) (x : Operand) (lo hi : Option Operand) (ho : op.op = .slice 155 x lo hi none)
  (ad : Option Addr) (len cap : Nat) (hx : a.eval x = .slice ad len cap) (l h : Nat) (hl : (lo = none /\ l = 0) \/ ∃y, lo = some y /\ a.eval y = .int .i64 l) (hh : (hi = none /\ h = len) \/ ∃y, hi = some y /\ a.eval y = .int .i64 h) (h1 : l <= h) (h2 : h <= cap)
  (hk : wpList Try.prog ops Q rest (a.put op.dst (.slice (Sp ad cap l) (h-l) (cap-l))) w) : wpList Try.prog ops Q (op::rest) a w :=
 wpList_plain hgd fun _ hK => by
  have hs : (sizeOf 188).run Try.prog w = .ok 261 w := by kernel_rfl
  have hr : (Instr.slice 155 (.slice ad len cap) (lo.map a.eval) (hi.map a.eval) none).run Try.prog w = .ok (.slice (Sp ad cap l) (h-l) (cap-l)) w := by
   have e1 : ∀c, (Instr.sliceBound (.int .i64 (h : Int)) cap c).run Try.prog w = .ok h w := fun c => by simp [Instr.sliceBound, asIntOf, Sem.run_ite]; omega
   have e2 : ∀c, (Instr.sliceBound (.int .i64 (l : Int)) h c).run Try.prog w = .ok l w := fun c => by simp [Instr.sliceBound, asIntOf, Sem.run_ite]; omega
   have e3 : (Instr.sliceBounds true len cap (lo.map a.eval) (hi.map a.eval) none).run Try.prog w = .ok (l, h, cap) w := by
    rcases hl with ⟨rfl, rfl⟩|⟨y, rfl, hy⟩<;>rcases hh with ⟨rfl, rfl⟩|⟨z, rfl, hz⟩<;>simp [Instr.sliceBounds, Sem.run_bind, *]
   simp only [Instr.slice, Sem.run_bind, run_underlying Try.underlying155, Result.andThen_ok, e3, hs, Sem.run_pure];rfl
  have hr2 : (Instr.sliceAt 155 (.slice ad len cap) (lo.map a.eval) (hi.map a.eval) none).run Try.prog w = .ok (.slice (Sp ad cap l) (h-l) (cap-l)) w := by
   simp only [Instr.sliceAt, Sem.run_bind, run_underlying Try.underlying155, Result.andThen_ok];exact hr
  unfold Oper.wp execOp;simp only [ho, hx, Sem.run_bind, Option.map_none, hr2, Result.andThen_ok, Sem.run_pure];exact hK _ _ hk
theorem Pm (ad:Option Addr) (cap:Nat) (ps:List Pt) (w:World) (hn:ps.length<=100) (hP:PS ad ps w) (hmo:∀p∈ps,0<=p.mo/\p.mo<=9):
  Calls Try.prog 91 #[.slice ad ps.length cap] w fun e w'=>e=.returned (.int .i64 (Pg.countPlaces ps))/\Below w.heap.size w w':=by
 rcases ps with _|⟨p0,ps0⟩
 ·go_enter Try.func91,Try.ntmps91;go_wp2_with fail
  go_loop [4,5,11] (fun xa xl x=>xa=.int .i64 0/\xl=.int .i64 0/\x=.int .i64 0) (fun _ _ _=>0)
  case atStart=>exact⟨rfl,rfl,rfl⟩
  case round=>
   obtain⟨rfl,rfl,rfl⟩:=hrel;go_wp2_with fail;refine(Yw _ _).mono ?_;rintro e W ⟨rfl,rfl⟩;go_wp2_with fail;go_ret;exact⟨rfl,Below.refl _ _⟩
 ·obtain⟨g,o,rfl,hr0⟩:=hP 0 p0 rfl;have hgw:g<w.heap.size:=World.block_lt_of_cell? w ⟨g,o+0*261+0,none⟩ (hr0 0 _ rfl);have HP:Hid (∀w',Below w.heap.size w w'->∀(k:Nat) (p:Pt),(p0::ps0)[k]?=some p->w'.rangeAt g (o+k*261) (YY p.kd p.pl p.f p.le p.mo p.fa)):=fun w' hW k p hp=>by
   obtain⟨g',o',e,h⟩:=hP k p hp;cases e;exact fun j v hv=>by rw[hW.cell (p:=⟨g,o+k*261+j,none⟩) hgw];exact h j v hv
  obtain⟨ps,hps⟩:=nam (p0::ps0);rw[<-hps]at HP hn hmo ⊢;clear hP hr0 hps;have Hmo:=hyd hmo;clear hmo;go_enter Try.func91,Try.ntmps91;go_wp2_with fail
  go_loopw [3,4,5,11] (fun vo xa xl x w'=>∃(k:Nat) (ah la:Int) (l:List Int),x=.int .i64 k/\xa=.int .i64 ah/\xl=.int .i64 la/\k<=ps.length/\0<=ah/\ah<=97/\0<=la/\la<=97/\l.length<=k/\(∀y∈l,0<=y/\y<=97)/\w'.ownsRow w.heap.size 3 1 vo l.length (Sn l)/\Below w.heap.size w w'/\Hid (Pg.cRun ps ⟨0,0,[]⟩=Pg.cRun (ps.drop k) ⟨ah,la,l.reverse⟩)) (fun _ _ _ x _=>101-(intOf x).toNat)
  case atStart=>exact⟨0,0,0,[],rfl,rfl,rfl,by omega,by omega,by omega,by omega,by omega,by simp,by simp,⟨rfl,Or.inl ⟨rfl,rfl⟩⟩,Below.refl _ _,rfl⟩
  case round=>
   obtain⟨k,ah,la,l,rfl,rfl,rfl,hk,ha0,ha1,hl0,hl1,hll,hly,hV,hB,HL⟩:=hrel;have Hly:=hyd hly;clear hly;have hcb:=Ux (ah+la) (by omega);by_cases hlt:k<ps.length
   ·obtain⟨p,hp⟩:∃p,ps[k]?=some p:=⟨ps[k],List.getElem?_eq_getElem hlt⟩;have hdr:ps.drop k=p::ps.drop (k+1):=by
     rw[List.drop_eq_getElem_cons hlt];congr 1;rw[List.getElem?_eq_getElem hlt]at hp;exact Option.some.inj hp
    have hr:=HP.out wr hB k p hp;have hz:=X5 wr;have hN:=YA.boxed wr 0 0 (fun _=>false) 0 0 0 188;have hNf:=hN.free;have hM:=hN.put p.kd p.pl p.f p.le p.mo p.fa;have hW3:Below wr.heap.size wr ((wr.alloc (Obj.cells (YY 0 0 (fun _=>false) 0 0 0).toArray 188)).setCells wr.heap.size 0 (YY p.kd p.pl p.f p.le p.mo p.fa)):=((Below.refl _ _).alloc (Nat.le_refl _) _).trans (Y3 wr.heap.size wr.heap.size 0 (Nat.le_refl _) _ _ 0);have hB3:=hB.trans (hW3.mono hB.size);have hlti:(k:Int)<(ps.length:Int):=by omega
    have hV3:=Ys hV hW3;have HL1:Hid (Pg.cRun ps ⟨0,0,[]⟩=Pg.cRun (ps.drop (k+1)) (Pg.cStep ⟨ah,la,l.reverse⟩ p)):=by show _=_;rw[HL.out,hdr,Pg.cRun]
    have hpm:=Hmo.out p (by have:=List.mem_of_getElem? hp;exact this);clear HL hdr hp;obtain⟨kd,pl,f,le,mo,fa⟩:=p;simp only at *;have c0:=hM.c0;have c4:=hM.c4;by_cases h1:kd=1
    ·subst h1;have HL2:Hid (Pg.cRun ps ⟨0,0,[]⟩=Pg.cRun (ps.drop (k+1)) ⟨Pg.capped (ah+la),1,l.reverse⟩):=HL1;clear HL1;go_wp2_with (first|(with_reducible refine gld 188 ?_;refine wpList_load_mid rfl 188 _ rfl _ _ rfl _ _ hr Try.underlying188 rfl (by rw[Y9];exact Y8) ?_)|(with_reducible refine gst 188 ?_;refine wpList_store_mid rfl 188 _ _ rfl _ _ _ rfl rfl (by simpa[Y9]using hNf) (by simpa[Y9]using Y8) (all_oneCell_toArray (YX _ _ _ _ _ _)) ?_));refine(Yw _ _).mono ?_;rintro e W ⟨rfl,rfl⟩;go_wp2_with fail;go_roundw
     case rel=>exact⟨k+1,_,1,l,by go_num,rfl,rfl,by omega,hcb.1,hcb.2,by omega,by omega,by omega,Hly.out,hV3,hB3,HL2⟩
     case measure=>simp[intOf];omega
    have b1:(kd==1)=false:=by simpa using h1
    by_cases h2:kd=2
    ·subst h2;have HL2:Hid (Pg.cRun ps ⟨0,0,[]⟩=Pg.cRun (ps.drop (k+1)) ⟨0,0,(l++[Pg.capped (ah+la)]).reverse⟩):=by show _=_;rw[HL1.out,List.reverse_append];rfl
     have hly2:∀y∈l++[Pg.capped (ah+la)],0<=y/\y<=97:=by
      intro y hy;rcases List.mem_append.1 hy with h|h
      ·exact Hly.out y h
      ·simp only[List.mem_singleton]at h;subst h;exact hcb
     have Hly2:=hyd hly2;clear HL1 hly2;go_wp2_with (first|(with_reducible refine gld 188 ?_;refine wpList_load_mid rfl 188 _ rfl _ _ rfl _ _ hr Try.underlying188 rfl (by rw[Y9];exact Y8) ?_)|(with_reducible refine gst 188 ?_;refine wpList_store_mid rfl 188 _ _ rfl _ _ _ rfl rfl (by simpa[Y9]using hNf) (by simpa[Y9]using Y8) (all_oneCell_toArray (YX _ _ _ _ _ _)) ?_));refine(Yw _ _).mono ?_;rintro e W ⟨rfl,rfl⟩;generalize Pg.capped (ah+la)=cc at *;generalize hWW:(wr.alloc (Obj.cells (YY 0 0 (fun _=>false) 0 0 0).toArray 188)).setCells wr.heap.size 0 (YY 2 pl f le mo fa)=W at *;clear hWW hr hz hN hNf hM c0 c4 hW3;have hV4:=Ys hV3 ((Below.refl _ _).alloc (Nat.le_refl _) (.cells #[.int .i64 cc] 3));have hB4:=hB3.alloc hB3.size (.cells #[.int .i64 cc] 3);have hnew:(W.alloc (.cells #[.int .i64 cc] 3)).cell? ⟨W.heap.size,0,none⟩=some (.int .i64 cc):=by rw[World.cell?_alloc_new];rfl
     go_wp2_with (first|(at_builtin;refine wpList_append_int (by rfl) _ _ (by rfl) w.heap.size u3 l (by rfl) hV4 (by omega) W.heap.size cc (by rfl) hnew hB4.size ?_;intro g2 cap2 w5 hV5 hgrow));go_roundw
     case rel=>exact⟨k+1,0,0,l++[cc],by go_num,rfl,rfl,by omega,by omega,by omega,by omega,by omega,by simp;omega,Hly2.out,by simpa using hV5,hB4.grown hgrow hB4.size (Sf hV4),HL2⟩
     case measure=>simp[intOf];omega
    have b2:(kd==2)=false:=by simpa using h2
    by_cases h3:kd=3
    ·subst h3;rcases List.eq_nil_or_concat l with hl|⟨l',x,hl⟩
     ·subst hl;have HL2:Hid (Pg.cRun ps ⟨0,0,[]⟩=Pg.cRun (ps.drop (k+1)) ⟨0,Pg.capped (ah+la),([]:List Int).reverse⟩):=HL1;clear HL1;rcases hV3.2 with ⟨hv3,_⟩|⟨g3,cap3,cur3,hv3,_⟩
      ·subst hv3;go_wp2_with (first|(with_reducible refine gld 188 ?_;refine wpList_load_mid rfl 188 _ rfl _ _ rfl _ _ hr Try.underlying188 rfl (by rw[Y9];exact Y8) ?_)|(with_reducible refine gst 188 ?_;refine wpList_store_mid rfl 188 _ _ rfl _ _ _ rfl rfl (by simpa[Y9]using hNf) (by simpa[Y9]using Y8) (all_oneCell_toArray (YX _ _ _ _ _ _)) ?_));refine(Yw _ _).mono ?_;rintro e W ⟨rfl,rfl⟩;go_wp2_with fail;go_roundw
       case rel=>exact⟨k+1,0,_,[],by go_num,rfl,rfl,by omega,by omega,by omega,hcb.1,hcb.2,by simp,by simp,hV3,hB3,HL2⟩
       case measure=>simp[intOf];omega
      ·subst hv3;go_wp2_with (first|(with_reducible refine gld 188 ?_;refine wpList_load_mid rfl 188 _ rfl _ _ rfl _ _ hr Try.underlying188 rfl (by rw[Y9];exact Y8) ?_)|(with_reducible refine gst 188 ?_;refine wpList_store_mid rfl 188 _ _ rfl _ _ _ rfl rfl (by simpa[Y9]using hNf) (by simpa[Y9]using Y8) (all_oneCell_toArray (YX _ _ _ _ _ _)) ?_));refine(Yw _ _).mono ?_;rintro e W ⟨rfl,rfl⟩;go_wp2_with fail;go_roundw
       case rel=>exact⟨k+1,0,_,[],by go_num,rfl,rfl,by omega,by omega,by omega,hcb.1,hcb.2,by simp,by simp,hV3,hB3,HL2⟩
       case measure=>simp[intOf];omega
     ·subst hl;have HL2:Hid (Pg.cRun ps ⟨0,0,[]⟩=Pg.cRun (ps.drop (k+1)) ⟨x,Pg.capped (ah+la),l'.reverse⟩):=by show _=_;rw[HL1.out,List.concat_eq_append,List.reverse_append];rfl
      clear HL1;have hx:=Hly.out x (by simp);have Hly2:Hid (∀y∈l',0<=y/\y<=97):=fun y hy=>Hly.out y (by simp[hy])
      have hlen:(l'.concat x).length=l'.length+1:=by simp
      rw[hlen,List.concat_eq_append]at hV3;have hll2:l'.length+1<=k:=by omega
      clear hll hlen Hly;rcases hV3.2 with ⟨_,h0⟩|⟨g3,cap3,cur3,hv3,hge3,hh3,hle3,_⟩
      ·omega
      subst hv3;have hla:=Qn hV3 rfl;have hpop:=SC hV3;have i1:(0:Int)<(l'.length:Int)+1:=by omega
      have i2:(0:Int)<=(l'.length:Int)/\(l'.length:Int)<(l'.length:Int)+1:=by omega
      go_wp2_with (first|(with_reducible refine gld 188 ?_;refine wpList_load_mid rfl 188 _ rfl _ _ rfl _ _ hr Try.underlying188 rfl (by rw[Y9];exact Y8) ?_)|(with_reducible refine gst 188 ?_;refine wpList_store_mid rfl 188 _ _ rfl _ _ _ rfl rfl (by simpa[Y9]using hNf) (by simpa[Y9]using Y8) (all_oneCell_toArray (YX _ _ _ _ _ _)) ?_));refine(Yw _ _).mono ?_;rintro e W ⟨rfl,rfl⟩;go_wp2_with fail;go_roundw
      case rel=>exact⟨k+1,x,_,l',by go_num,rfl,rfl,by omega,hx.1,hx.2,hcb.1,hcb.2,by omega,Hly2.out,hpop,hB3,HL2⟩
      case measure=>simp[intOf];omega
    have b3:(kd==3)=false:=by simpa using h3
    by_cases h4:kd=4
    ·subst h4;have HL2:Hid (Pg.cRun ps ⟨0,0,[]⟩=Pg.cRun (ps.drop (k+1)) ⟨Pg.capped (ah+la),0,l.reverse⟩):=HL1;clear HL1;go_wp2_with (first|(with_reducible refine gld 188 ?_;refine wpList_load_mid rfl 188 _ rfl _ _ rfl _ _ hr Try.underlying188 rfl (by rw[Y9];exact Y8) ?_)|(with_reducible refine gst 188 ?_;refine wpList_store_mid rfl 188 _ _ rfl _ _ _ rfl rfl (by simpa[Y9]using hNf) (by simpa[Y9]using Y8) (all_oneCell_toArray (YX _ _ _ _ _ _)) ?_));refine(Yw _ _).mono ?_;rintro e W ⟨rfl,rfl⟩;go_wp2_with fail;go_roundw
     case rel=>exact⟨k+1,_,0,l,by go_num,rfl,rfl,by omega,hcb.1,hcb.2,by omega,by omega,by omega,Hly.out,hV3,hB3,HL2⟩
     case measure=>simp[intOf];omega
    have b4:(kd==4)=false:=by simpa using h4
    by_cases h8:kd=8
    ·subst h8;have hm0:=Int.mul_nonneg hl0 hpm.1;have hm1:la*mo<=97*9:=Int.mul_le_mul hl1 hpm.2 hpm.1 (by omega);have hcm:=Ux (la*mo) hm0;have HL2:Hid (Pg.cRun ps ⟨0,0,[]⟩=Pg.cRun (ps.drop (k+1)) ⟨ah,Pg.capped (la*mo),l.reverse⟩):=HL1;clear HL1;go_wp2_with (first|(with_reducible refine gld 188 ?_;refine wpList_load_mid rfl 188 _ rfl _ _ rfl _ _ hr Try.underlying188 rfl (by rw[Y9];exact Y8) ?_)|(with_reducible refine gst 188 ?_;refine wpList_store_mid rfl 188 _ _ rfl _ _ _ rfl rfl (by simpa[Y9]using hNf) (by simpa[Y9]using Y8) (all_oneCell_toArray (YX _ _ _ _ _ _)) ?_));refine(Yw _ _).mono ?_;rintro e W ⟨rfl,rfl⟩;go_wp2_with fail;go_roundw
     case rel=>exact⟨k+1,ah,_,l,by go_num,rfl,rfl,by omega,ha0,ha1,hcm.1,hcm.2,by omega,Hly.out,hV3,hB3,HL2⟩
     case measure=>simp[intOf];omega
    ·have b8:(kd==8)=false:=by simpa using h8
     have HL2:Hid (Pg.cRun ps ⟨0,0,[]⟩=Pg.cRun (ps.drop (k+1)) ⟨ah,la,l.reverse⟩):=by
      show _=_;rw[HL1.out];simp only[Pg.cStep,if_neg h1,if_neg h2,if_neg h3,if_neg h4,if_neg h8]
     clear HL1 h1 h2 h3 h4 h8;go_wp2_with (first|(with_reducible refine gld 188 ?_;refine wpList_load_mid rfl 188 _ rfl _ _ rfl _ _ hr Try.underlying188 rfl (by rw[Y9];exact Y8) ?_)|(with_reducible refine gst 188 ?_;refine wpList_store_mid rfl 188 _ _ rfl _ _ _ rfl rfl (by simpa[Y9]using hNf) (by simpa[Y9]using Y8) (all_oneCell_toArray (YX _ _ _ _ _ _)) ?_));go_roundw
     case rel=>exact⟨k+1,ah,la,l,by go_num,rfl,rfl,by omega,ha0,ha1,hl0,hl1,by omega,Hly.out,hV3,hB3,HL2⟩
     case measure=>simp[intOf];omega
   ·have hge:¬(k:Int)<(ps.length:Int):=by omega
    have HL2:Hid (Pg.cRun ps ⟨0,0,[]⟩=⟨ah,la,l.reverse⟩):=by show _=_;rw[HL.out,List.drop_eq_nil_of_le (by omega)];rfl
    clear HL;go_wp2_with fail;refine(Yw _ _).mono ?_;rintro e W ⟨rfl,rfl⟩;go_wp2_with fail;go_ret;exact⟨YJ (by rw[Pg.countPlaces,HL2.out]),hB⟩
def TR:List Pt->Int->Nat->Nat
 |[],_,i=>i
 |p::ps,op,i=>if p.kd=4/\op=0 then i else TR ps (op+Pg.opn p.kd) (i+1)
def Xd:List Pt->Int->Nat->Nat
 |[],_,i=>i
 |p::ps,op,i=>if op+Pg.opn p.kd=0 then i+1 else Xd ps (op+Pg.opn p.kd) (i+1)
theorem Nk (ad:Option Addr) (cap:Nat) (ps:List Pt) (w:World) (hn:ps.length<=100) (hP:PS ad ps w):
  Calls Try.prog 109 #[.slice ad ps.length cap] w fun e w'=>e=.returned (.int .i64 (TR ps 0 0:Nat))/\Below w.heap.size w w':=by
 rcases ps with _|⟨p0,ps0⟩
 ·go_enter Try.func109,Try.ntmps109;go_wp2_with fail
  go_loop [8] (fun x=>x=.int .i64 0) (fun _=>0)
  case atStart=>rfl
  case round=>
   subst hrel;go_wp2_with fail;go_ret;exact⟨rfl,Below.refl _ _⟩
 ·obtain⟨g,o,rfl,hr0⟩:=hP 0 p0 rfl;have hgw:g<w.heap.size:=World.block_lt_of_cell? w ⟨g,o+0*261+0,none⟩ (hr0 0 _ rfl);have HP:Hid (∀w',Below w.heap.size w w'->∀(k:Nat) (p:Pt),(p0::ps0)[k]?=some p->w'.rangeAt g (o+k*261) (YY p.kd p.pl p.f p.le p.mo p.fa)):=fun w' hW k p hp=>by
   obtain⟨g',o',e,h⟩:=hP k p hp;cases e;exact fun j v hv=>by rw[hW.cell (p:=⟨g,o+k*261+j,none⟩) hgw];exact h j v hv
  obtain⟨ps,hps⟩:=nam (p0::ps0);rw[<-hps]at HP hn ⊢;clear hP hr0 hps;obtain⟨R,hR⟩:=nam (TR ps 0 0);rw[<-hR];have HR:=hyd hR;clear hR;go_enter Try.func109,Try.ntmps109;go_wp2_with fail
  go_loopw [3,8] (fun oo x w'=>∃(k:Nat) (op:Int),x=.int .i64 k/\oo=.int .i64 op/\k<=ps.length/\-(k:Int)<=op/\op<=k/\Below w.heap.size w w'/\Hid (R=TR (ps.drop k) op k)) (fun _ x _=>101-(intOf x).toNat)
  case atStart=>exact⟨0,0,rfl,rfl,by omega,by omega,by omega,Below.refl _ _,HR⟩
  case round=>
   clear HR;obtain⟨k,op,rfl,rfl,hk,ho0,ho1,hB,HL⟩:=hrel;by_cases hlt:k<ps.length
   ·obtain⟨p,hp⟩:∃p,ps[k]?=some p:=⟨ps[k],List.getElem?_eq_getElem hlt⟩;have hdr:ps.drop k=p::ps.drop (k+1):=by
     rw[List.drop_eq_getElem_cons hlt];congr 1;rw[List.getElem?_eq_getElem hlt]at hp;exact Option.some.inj hp
    have hr:=HP.out wr hB k p hp;have hz:=X5 wr;have hN:=YA.boxed wr 0 0 (fun _=>false) 0 0 0 188;have hNf:=hN.free;have hM:=hN.put p.kd p.pl p.f p.le p.mo p.fa;have hW3:Below wr.heap.size wr ((wr.alloc (Obj.cells (YY 0 0 (fun _=>false) 0 0 0).toArray 188)).setCells wr.heap.size 0 (YY p.kd p.pl p.f p.le p.mo p.fa)):=((Below.refl _ _).alloc (Nat.le_refl _) _).trans (Y3 wr.heap.size wr.heap.size 0 (Nat.le_refl _) _ _ 0);obtain⟨W3,hW3e⟩:=nam (((wr.alloc (Obj.cells (YY 0 0 (fun _=>false) 0 0 0).toArray 188)).setCells wr.heap.size 0 (YY p.kd p.pl p.f p.le p.mo p.fa)));rw[<-hW3e]at hM hW3;have HW3:=hyd hW3e;clear hW3e;have hB3:=hB.trans (hW3.mono hB.size);have hlti:(k:Int)<(ps.length:Int):=by omega
    have HL1:Hid (R=TR (p::ps.drop (k+1)) op k):=by show _=_;rw[HL.out,hdr]
    clear HL hdr hp;obtain⟨kd,pl,f,le,mo,fa⟩:=p;simp only at *;have c0:=hM.c0;have hon:=Pg.opn_bd kd;have HO:Hid (∀W,Calls Try.prog 107 #[.int .i64 kd] W fun e w'=>e=.returned (.int .i64 (Pg.opn kd))/\w'=W):=fun W=>UF kd W
    by_cases h4:kd=4
    ·subst h4;by_cases h0:op=0
     ·subst h0;have HL3:Hid (R=k):=by show _=_;rw[HL1.out,TR,if_pos (by exact⟨rfl,rfl⟩)]
      clear HL1;go_wp2_with (first|(with_reducible refine gld 188 ?_;refine wpList_load_mid rfl 188 _ rfl _ _ rfl _ _ hr Try.underlying188 rfl (by rw[Y9];exact Y8) ?_)|(with_reducible refine gst 188 ?_;refine wpList_store_mid rfl 188 _ _ rfl _ _ _ rfl rfl (by simpa[Y9]using hNf) (by simpa[Y9]using Y8) (all_oneCell_toArray (YX _ _ _ _ _ _)) ?_;rw[List.toList_toArray,<-HW3.out]));go_ret;exact⟨YJ (by have:=HL3.out;omega),hB3⟩
     ·have q0:(op==0)=false:=by simpa using h0
      have HL3:Hid (R=TR (ps.drop (k+1)) (op+Pg.opn 4) (k+1)):=by show _=_;rw[HL1.out,TR,if_neg (by rintro ⟨_,h⟩;exact h0 h)]
      clear HL1 h0;generalize Pg.opn 4=d at *;go_wp2_with (first|(with_reducible refine gld 188 ?_;refine wpList_load_mid rfl 188 _ rfl _ _ rfl _ _ hr Try.underlying188 rfl (by rw[Y9];exact Y8) ?_)|(with_reducible refine gst 188 ?_;refine wpList_store_mid rfl 188 _ _ rfl _ _ _ rfl rfl (by simpa[Y9]using hNf) (by simpa[Y9]using Y8) (all_oneCell_toArray (YX _ _ _ _ _ _)) ?_;rw[List.toList_toArray,<-HW3.out]));refine(HO.out _).mono ?_;rintro e w' ⟨rfl,rfl⟩;go_wp2_with fail;go_roundw
      case rel=>exact⟨k+1,op+d,by go_num,rfl,by omega,by omega,by omega,hB3,HL3⟩
      case measure=>simp[intOf];omega
    ·have q4:(kd==4)=false:=by simpa using h4
     have HL3:Hid (R=TR (ps.drop (k+1)) (op+Pg.opn kd) (k+1)):=by show _=_;rw[HL1.out,TR,if_neg (by rintro ⟨h,_⟩;exact h4 h)]
     clear HL1 h4;generalize Pg.opn kd=d at *;go_wp2_with (first|(with_reducible refine gld 188 ?_;refine wpList_load_mid rfl 188 _ rfl _ _ rfl _ _ hr Try.underlying188 rfl (by rw[Y9];exact Y8) ?_)|(with_reducible refine gst 188 ?_;refine wpList_store_mid rfl 188 _ _ rfl _ _ _ rfl rfl (by simpa[Y9]using hNf) (by simpa[Y9]using Y8) (all_oneCell_toArray (YX _ _ _ _ _ _)) ?_;rw[List.toList_toArray,<-HW3.out]));refine(HO.out _).mono ?_;rintro e w' ⟨rfl,rfl⟩;go_wp2_with fail;go_roundw
     case rel=>exact⟨k+1,op+d,by go_num,rfl,by omega,by omega,by omega,hB3,HL3⟩
     case measure=>simp[intOf];omega
   ·have hge:¬(k:Int)<(ps.length:Int):=by omega
    have hkn:k=ps.length:=by omega
    subst hkn;have HL2:Hid (R=ps.length):=by show _=_;rw[HL.out,List.drop_eq_nil_of_le (by omega)];rfl
    clear HL;go_wp2_with fail;go_ret;exact⟨YJ (by have:=HL2.out;omega),hB⟩
theorem NG (ad:Option Addr) (cap:Nat) (ps:List Pt) (w:World) (hn:ps.length<=100) (hP:PS ad ps w):
  Calls Try.prog 126 #[.slice ad ps.length cap] w fun e w'=>e=.returned (.int .i64 (Xd ps 0 0:Nat))/\Below w.heap.size w w':=by
 rcases ps with _|⟨p0,ps0⟩
 ·go_enter Try.func126,Try.ntmps126;go_wp2_with fail
  go_loop [8] (fun x=>x=.int .i64 0) (fun _=>0)
  case atStart=>rfl
  case round=>
   subst hrel;go_wp2_with fail;go_ret;exact⟨rfl,Below.refl _ _⟩
 ·obtain⟨g,o,rfl,hr0⟩:=hP 0 p0 rfl;have hgw:g<w.heap.size:=World.block_lt_of_cell? w ⟨g,o+0*261+0,none⟩ (hr0 0 _ rfl);have HP:Hid (∀w',Below w.heap.size w w'->∀(k:Nat) (p:Pt),(p0::ps0)[k]?=some p->w'.rangeAt g (o+k*261) (YY p.kd p.pl p.f p.le p.mo p.fa)):=fun w' hW k p hp=>by
   obtain⟨g',o',e,h⟩:=hP k p hp;cases e;exact fun j v hv=>by rw[hW.cell (p:=⟨g,o+k*261+j,none⟩) hgw];exact h j v hv
  obtain⟨ps,hps⟩:=nam (p0::ps0);rw[<-hps]at HP hn ⊢;clear hP hr0 hps;obtain⟨R,hR⟩:=nam (Xd ps 0 0);rw[<-hR];have HR:=hyd hR;clear hR;go_enter Try.func126,Try.ntmps126;go_wp2_with fail
  go_loopw [3,8] (fun oo x w'=>∃(k:Nat) (op:Int),x=.int .i64 k/\oo=.int .i64 op/\k<=ps.length/\-(k:Int)<=op/\op<=k/\Below w.heap.size w w'/\Hid (R=Xd (ps.drop k) op k)) (fun _ x _=>101-(intOf x).toNat)
  case atStart=>exact⟨0,0,rfl,rfl,by omega,by omega,by omega,Below.refl _ _,HR⟩
  case round=>
   clear HR;obtain⟨k,op,rfl,rfl,hk,ho0,ho1,hB,HL⟩:=hrel;by_cases hlt:k<ps.length
   ·obtain⟨p,hp⟩:∃p,ps[k]?=some p:=⟨ps[k],List.getElem?_eq_getElem hlt⟩;have hdr:ps.drop k=p::ps.drop (k+1):=by
     rw[List.drop_eq_getElem_cons hlt];congr 1;rw[List.getElem?_eq_getElem hlt]at hp;exact Option.some.inj hp
    have hr:=HP.out wr hB k p hp;have hz:=X5 wr;have hN:=YA.boxed wr 0 0 (fun _=>false) 0 0 0 188;have hNf:=hN.free;have hM:=hN.put p.kd p.pl p.f p.le p.mo p.fa;have hW3:Below wr.heap.size wr ((wr.alloc (Obj.cells (YY 0 0 (fun _=>false) 0 0 0).toArray 188)).setCells wr.heap.size 0 (YY p.kd p.pl p.f p.le p.mo p.fa)):=((Below.refl _ _).alloc (Nat.le_refl _) _).trans (Y3 wr.heap.size wr.heap.size 0 (Nat.le_refl _) _ _ 0);obtain⟨W3,hW3e⟩:=nam (((wr.alloc (Obj.cells (YY 0 0 (fun _=>false) 0 0 0).toArray 188)).setCells wr.heap.size 0 (YY p.kd p.pl p.f p.le p.mo p.fa)));rw[<-hW3e]at hM hW3;have HW3:=hyd hW3e;clear hW3e;have hB3:=hB.trans (hW3.mono hB.size);have hlti:(k:Int)<(ps.length:Int):=by omega
    have HL1:Hid (R=Xd (p::ps.drop (k+1)) op k):=by show _=_;rw[HL.out,hdr]
    clear HL hdr hp;obtain⟨kd,pl,f,le,mo,fa⟩:=p;simp only at *;have c0:=hM.c0;have hon:=Pg.opn_bd kd;have HO:Hid (∀W,Calls Try.prog 107 #[.int .i64 kd] W fun e w'=>e=.returned (.int .i64 (Pg.opn kd))/\w'=W):=fun W=>UF kd W
    have HA1:Hid (op+Pg.opn kd=0->Xd ((⟨kd,pl,f,le,mo,fa⟩:Pt)::ps.drop (k+1)) op k=k+1):=fun h=>by rw[Xd,if_pos h]
    have HA2:Hid (¬op+Pg.opn kd=0->Xd ((⟨kd,pl,f,le,mo,fa⟩:Pt)::ps.drop (k+1)) op k=Xd (ps.drop (k+1)) (op+Pg.opn kd) (k+1)):=fun h=>by rw[Xd,if_neg h]
    generalize Pg.opn kd=d at *;by_cases h0:op+d=0
    ·have q0:(op+d==0)=true:=by simpa using h0
     have HL3:Hid (R=k+1):=by show _=_;rw[HL1.out];exact HA1.out h0
     clear HL1 h0;go_wp2_with (first|(with_reducible refine gld 188 ?_;refine wpList_load_mid rfl 188 _ rfl _ _ rfl _ _ hr Try.underlying188 rfl (by rw[Y9];exact Y8) ?_)|(with_reducible refine gst 188 ?_;refine wpList_store_mid rfl 188 _ _ rfl _ _ _ rfl rfl (by simpa[Y9]using hNf) (by simpa[Y9]using Y8) (all_oneCell_toArray (YX _ _ _ _ _ _)) ?_;rw[List.toList_toArray,<-HW3.out]));refine(HO.out _).mono ?_;rintro e w' ⟨rfl,rfl⟩;go_wp2_with fail;go_ret;exact⟨YJ (by have:=HL3.out;omega),hB3⟩
    ·have q0:(op+d==0)=false:=by simpa using h0
     have HL3:Hid (R=Xd (ps.drop (k+1)) (op+d) (k+1)):=by show _=_;rw[HL1.out];exact HA2.out h0
     clear HL1 h0;go_wp2_with (first|(with_reducible refine gld 188 ?_;refine wpList_load_mid rfl 188 _ rfl _ _ rfl _ _ hr Try.underlying188 rfl (by rw[Y9];exact Y8) ?_)|(with_reducible refine gst 188 ?_;refine wpList_store_mid rfl 188 _ _ rfl _ _ _ rfl rfl (by simpa[Y9]using hNf) (by simpa[Y9]using Y8) (all_oneCell_toArray (YX _ _ _ _ _ _)) ?_;rw[List.toList_toArray,<-HW3.out]));refine(HO.out _).mono ?_;rintro e w' ⟨rfl,rfl⟩;go_wp2_with fail;go_roundw
     case rel=>exact⟨k+1,op+d,by go_num,rfl,by omega,by omega,by omega,hB3,HL3⟩
     case measure=>simp[intOf];omega
   ·have hge:¬(k:Int)<(ps.length:Int):=by omega
    have hkn:k=ps.length:=by omega
    subst hkn;have HL2:Hid (R=ps.length):=by show _=_;rw[HL.out,List.drop_eq_nil_of_le (by omega)];rfl
    clear HL;go_wp2_with fail;go_ret;exact⟨YJ (by have:=HL2.out;omega),hB⟩
def QK (ps:List Pt):Nat->Nat->Nat
 |0,i=>i
 |u+1,i=>match ps[i]? with
  |some p=>if Pg.isSuffix p.kd then QK ps u (i+1) else i
  |none=>i
def Rq (ps:List Pt):Nat:=QK ps (ps.length+1) (Xd ps 0 0)
theorem Jq (ps:List Pt):∀op i,Xd ps op i<=i+ps.length:=by
 induction ps with
 |nil=>intro op i;simp[Xd]
 |cons p ps ih=>
  intro op i;rw[Xd];split
  ·simp
  ·have:=ih (op+Pg.opn p.kd) (i+1);simp only[List.length_cons];omega
theorem PD (ad:Option Addr) (cap:Nat) (ps:List Pt) (w:World) (hn:ps.length<=100) (hP:PS ad ps w):
  Calls Try.prog 117 #[.slice ad ps.length cap] w fun e w'=>e=.returned (.int .i64 (Rq ps:Nat))/\Below w.heap.size w w':=by
 obtain⟨R,hR⟩:∃R,R=Rq ps:=⟨_,rfl⟩;rw[<-hR];have HR:Hid (R=QK ps (ps.length+1) (Xd ps 0 0)):=hR;have hal:=Jq ps 0 0;have HP:Hid (∀w',Below w.heap.size w w'->PS ad ps w'):=fun w' hW=>hP.below hW
 have HC:=NG ad cap ps w hn hP;have HC1:Hid (Calls Try.prog 126 #[.slice ad ps.length cap] w fun e w'=>e=.returned (.int .i64 (Xd ps 0 0:Nat))/\Below w.heap.size w w'):=HC;clear hR HC hP;generalize Xd ps 0 0=a0 at *;go_enter Try.func117,Try.ntmps117;go_wp2_with fail;refine HC1.out.mono ?_;rintro e w1 ⟨rfl,hB1⟩;go_wp2_with fail
 go_loopw [3] (fun x w'=>∃(u i:Nat),x=.int .i64 i/\i<=ps.length/\ps.length<u+i/\Below w.heap.size w w'/\Hid (R=QK ps u i)) (fun x _=>101-(intOf x).toNat)
 case atStart=>exact⟨ps.length+1,a0,rfl,by omega,by omega,hB1,HR⟩
 case round=>
  clear HR hB1;obtain⟨u,i,rfl,hi,hu,hB,HL⟩:=hrel;by_cases hlt:i<ps.length
  ·have hlt':(i:Int)<(ps.length:Int):=by omega
   obtain⟨p,hp⟩:∃p,ps[i]?=some p:=⟨ps[i],List.getElem?_eq_getElem hlt⟩;obtain⟨g,o,e,hr⟩:=HP.out wr hB i p hp;subst e;have c0:wr.cell? ⟨g,o+i*261,none⟩=some (.int .i64 p.kd):=hr 0 _ rfl;rcases u with _|u
   ·omega
   have HL1:Hid (R=if Pg.isSuffix p.kd then QK ps u (i+1) else i):=by show _=_;rw[HL.out,QK,hp]
   have HS:Hid (∀W,Calls Try.prog 112 #[.int .i64 p.kd] W fun e w'=>e=.returned (.bool (Pg.isSuffix p.kd))/\w'=W):=fun W=>Vt p.kd W
   clear HL hr hp;cases hs:Pg.isSuffix p.kd
   ·have HL2:Hid (R=i):=by show _=_;rw[HL1.out,hs];rfl
    rw[hs]at HS;clear HL1 hs;go_wp2_with fail;refine(HS.out _).mono ?_;rintro e w2 ⟨rfl,rfl⟩;go_wp2_with fail;go_ret;exact⟨YJ (by have:=HL2.out;omega),hB⟩
   ·have HL2:Hid (R=QK ps u (i+1)):=by show _=_;rw[HL1.out,hs];rfl
    rw[hs]at HS;clear HL1 hs;go_wp2_with fail;refine(HS.out _).mono ?_;rintro e w2 ⟨rfl,rfl⟩;go_wp2_with fail;go_roundw
    case rel=>exact⟨u,i+1,by go_num,by omega,by omega,hB,HL2⟩
    case measure=>simp[intOf];omega
  ·have hge:¬(i:Int)<(ps.length:Int):=by omega
   rcases u with _|u
   ·omega
   have HL2:Hid (R=i):=by show _=_;rw[HL.out,QK,List.getElem?_eq_none (by omega)]
   clear HL;go_wp2_with fail;go_ret;exact⟨YJ (by have:=HL2.out;omega),hB⟩
end Go.Proofs.Ytoaaklhpmhjhkab
