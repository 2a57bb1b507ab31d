import Derived.Test.YtoaaklhpmhjhkabC05
import Derived.Test.YtoaaklhpmhjhkabC11
set_option maxRecDepth 100000
set_option maxHeartbeats 4000000
set_option linter.all false
namespace Go.Proofs.Ytoaaklhpmhjhkab
open Go.RowKit
open Pg (Pt)
theorem Jv (c:Pg.C) (p:Pt) (h:0<=c.ah/\0<=c.la/\∀y∈c.st,0<=y) (hp:0<=p.mo):0<=(Pg.cStep c p).ah/\0<=(Pg.cStep c p).la/\∀y∈(Pg.cStep c p).st,0<=y:=by
 obtain⟨h1,h2,h3⟩:=h;have hc:=Pg.capped_le (c.ah+c.la) (by omega);have hm:=Pg.capped_le (c.la*p.mo) (Int.mul_nonneg h2 hp);unfold Pg.cStep;split
 ·exact⟨hc.1,by simp,h3⟩
 split
 ·refine⟨by simp,by simp,?_⟩;intro y hy;rcases List.mem_cons.1 hy with h|h
  ·subst h;exact hc.1
  ·exact h3 y h
 split
 ·split
  ·exact⟨by simp,hc.1,by simp⟩
  ·rename_i x r hst;refine⟨h3 x (by rw[hst];simp),hc.1,fun y hy=>h3 y (by rw[hst];simp[hy])⟩
 split
 ·exact⟨hc.1,by simp,h3⟩
 split
 ·exact⟨h1,hm.1,h3⟩
 ·exact⟨h1,h2,h3⟩
theorem Iu (ps:List Pt):∀(c:Pg.C),(0<=c.ah/\0<=c.la/\∀y∈c.st,0<=y)->(∀p∈ps,0<=p.mo)->0<=(Pg.cRun ps c).ah/\0<=(Pg.cRun ps c).la:=by
 induction ps with
 |nil=>intro c h _;exact⟨h.1,h.2.1⟩
 |cons p r ih=>intro c h hp;exact ih _ (Jv c p h (hp p (by simp))) (fun q hq=>hp q (by simp[hq]))
theorem Q5 (ps:List Pt) (hp:∀p∈ps,0<=p.mo):0<=Pg.countPlaces ps/\Pg.countPlaces ps<=97:=by
 have:=Iu ps ⟨0,0,[]⟩ ⟨by simp,by simp,by simp⟩ hp;exact Pg.capped_le _ (by omega)
def Ym (s:ByteArray):Int:=Pg.countPlaces (Pg.readParts (Y5 s) s.size).ps
theorem Uf (s:ByteArray):0<=Ym s/\Ym s<=97:=Q5 _ (fun p hp=>(Pg.readParts_mo _ _ p hp).1)
def Ji (f:Nat->ByteArray) (n:Nat) (e r a:Int):Prop:=
 (∃i:Nat,i<n/\(∀j,j<i->(Pg.wrong (Y5 (f j)) (f j).size).1=0)/\Pg.wrong (Y5 (f i)) (f i).size=(e,a)/\e≠0/\r=i) \/
 ((∀j,j<n->(Pg.wrong (Y5 (f j)) (f j).size).1=0)/\r=0/\a=0/\e=if 96<XV (fun j=>Ym (f j)) n then 7 else 0)
theorem IW (ad:Option Addr) (len cap:Nat) (w:World) (hl:len<=maxLen) (h:len=0\/8<len):
  Calls Try.prog 77 #[.slice ad len cap] w fun e' w'=>e'=.returned (.tuple #[.int .i64 1,.int .i64 0,.int .i64 0])/\w'=w:=by
 unfold maxLen at hl;rcases h with h|h
 ·subst h;go_enter Try.func77,Try.ntmps77;go_wp2_with fail;go_ret3;exact⟨rfl,rfl⟩
 ·have h0:((len:Int)==0)=false:=by simp;omega
  go_enter Try.func77,Try.ntmps77;go_wp2_with fail;go_ret3;exact⟨rfl,rfl⟩
theorem OG (b off cap n:Nat) (f:Nat->ByteArray) (e r a:Int) (w:World) (h1:1<=n) (h8:n<=8) (hb:b<w.heap.size) (hm:∀i,i<n->(f i).size<=maxLen) (hr:MH b off f n w) (h:Ji f n e r a):
  Calls Try.prog 77 #[.slice (some ⟨b,off,none⟩) n cap] w fun e' w'=>e'=.returned (.tuple #[.int .i64 e,.int .i64 r,.int .i64 a])/\Below w.heap.size w w':=by
 have hl0:((n:Int)==0)=false:=beq_eq_false_iff_ne.2 (by omega);have Hm:=hyd hm;have Hr:=hyd hr;have Hbd:Hid (∀k,k<=n->0<=XV (fun j=>Ym (f j)) k/\XV (fun j=>Ym (f j)) k<=97*k):=by
  show ∀k,k<=n->0<=XV (fun j=>Ym (f j)) k/\XV (fun j=>Ym (f j)) k<=97*k;intro k
  induction k with
  |zero=>intro _;simp[XV]
  |succ k ih=>
   intro hk;have:=ih (by omega);have h2:=Uf (f k);simp only[XV];omega
 clear hm hr;have Hgo:Hid (∀k,k<n->(Pg.wrong (Y5 (f k)) (f k).size).1=0->∀W,Calls Try.prog 78 #[.string (f k)] W fun e w'=>∃v ps,e=.returned (.tuple #[v,.int .i64 0,.int .i64 (Pg.wrong (Y5 (f k)) (f k).size).2])/\Below W.heap.size W w'/\(∀W2,W2=w'->Calls Try.prog 91 #[v] W2 fun e2 w2=>e2=.returned (.int .i64 (Ym (f k)))/\Below W2.heap.size W2 w2)/\ps=([]:List Pt)):=by
  show ∀k,k<n->(Pg.wrong (Y5 (f k)) (f k).size).1=0->∀W,Calls Try.prog 78 #[.string (f k)] W fun e w'=>∃v ps,e=.returned (.tuple #[v,.int .i64 0,.int .i64 (Pg.wrong (Y5 (f k)) (f k).size).2])/\Below W.heap.size W w'/\(∀W2,W2=w'->Calls Try.prog 91 #[v] W2 fun e2 w2=>e2=.returned (.int .i64 (Ym (f k)))/\Below W2.heap.size W2 w2)/\ps=([]:List Pt)
  intro k hk h0 W;refine(SO (f k) W (Hm.out k hk)).mono ?_;rintro e' w' ⟨v,ps,rfl,hW,hok⟩;obtain⟨hO,hst,hl,_⟩:=hok h0;refine⟨v,[],by rw[h0],hW,?_,rfl⟩;rintro W2 rfl;refine(Sj v ps _ _ hl hO ?_).mono ?_
  ·intro p hp;have:=Pg.readParts_mo (Y5 (f k)) (f k).size p.strip (by rw[<-hst];exact List.mem_map.2 ⟨p,hp,rfl⟩);exact this
  ·rintro e2 w2 ⟨rfl,h2⟩;refine⟨YJ ?_,h2⟩;rw[Ym,<-hst,Pg.countPlaces_strip]
 rcases h with ⟨i0,hi0,hok,hwr,he,rfl⟩|⟨hok,rfl,rfl,rfl⟩
 ·have Hok:=hyd hok;have Hwr:=hyd hwr;have hne:(e==0)=false:=by simpa using he
  clear hok hwr he;go_enter Try.func77,Try.ntmps77;go_wp2_with fail
  go_loopw [5,21] (fun x i w'=>∃k:Nat,k<=i0/\i=.int .i64 k/\x=.int .i64 (XV (fun j=>Ym (f j)) k)/\Below w.heap.size w w') (fun _ i _=>9-(intOf i).toNat)
  case atStart=>exact⟨0,by omega,rfl,rfl,Below.refl _ _⟩
  case round=>
   obtain⟨k,hk,rfl,rfl,hW⟩:=hrel;have hcell:=Hr.out.below hb hW k (by omega);have hkn:(k:Int)<n:=by omega
   by_cases hki:k=i0
   ·subst hki;go_wp2_with fail;refine(SO (f k) _ (Hm.out k hi0)).mono ?_;rintro e' w1 ⟨v,ps,rfl,hW1,_⟩;rw[Hwr.out];go_wp2_with fail;go_ret3;exact⟨rfl,hW.trans (hW1.mono hW.size)⟩
   ·have hk':k<i0:=by omega
    clear hki;have hb0:=Hbd.out k (by omega);have hpb:=Uf (f k);go_wp2_with fail;refine(Hgo.out k (by omega) (Hok.out k hk') _).mono ?_;rintro e' w1 ⟨v,ps,rfl,hW1,hc,_⟩;have Hc:=hc w1 rfl;clear hc;have HC:Hid (Calls Try.prog 91 #[v] w1 fun e2 w2=>e2=.returned (.int .i64 (Ym (f k)))/\Below w1.heap.size w1 w2):=Hc;clear Hc;go_wp2_with fail;refine HC.out.mono ?_;rintro e' w2 ⟨rfl,hW2⟩;go_wp2_with fail;go_roundw
    case rel=>
     have hX:=hW.trans (hW1.mono hW.size);exact⟨k+1,by omega,by go_num,rfl,hX.trans (hW2.mono hX.size)⟩
    case measure=>simp[intOf];omega
 ·have Hok:=hyd hok;clear hok;go_enter Try.func77,Try.ntmps77;go_wp2_with fail
  go_loopw [5,21] (fun x i w'=>∃k:Nat,k<=n/\i=.int .i64 k/\x=.int .i64 (XV (fun j=>Ym (f j)) k)/\Below w.heap.size w w') (fun _ i _=>9-(intOf i).toNat)
  case atStart=>exact⟨0,by omega,rfl,rfl,Below.refl _ _⟩
  case round=>
   obtain⟨k,hk,rfl,rfl,hW⟩:=hrel;have hb0:=Hbd.out k (by omega);by_cases hkn0:k<n
   ·have hcell:=Hr.out.below hb hW k hkn0;have hkn:(k:Int)<n:=by omega
    have hpb:=Uf (f k);go_wp2_with fail;refine(Hgo.out k hkn0 (Hok.out k hkn0) _).mono ?_;rintro e' w1 ⟨v,ps,rfl,hW1,hc,_⟩;have Hc:=hc w1 rfl;clear hc;have HC:Hid (Calls Try.prog 91 #[v] w1 fun e2 w2=>e2=.returned (.int .i64 (Ym (f k)))/\Below w1.heap.size w1 w2):=Hc;clear Hc;go_wp2_with fail;refine HC.out.mono ?_;rintro e' w2 ⟨rfl,hW2⟩;go_wp2_with fail;go_roundw
    case rel=>
     have hX:=hW.trans (hW1.mono hW.size);exact⟨k+1,by omega,by go_num,rfl,hX.trans (hW2.mono hX.size)⟩
    case measure=>simp[intOf];omega
   ·have hkk:k=n:=by omega
    subst hkk;by_cases h96:96<XV (fun j=>Ym (f j)) k
    ·go_wp2_with fail;go_ret3;exact⟨by first|rfl|rw[if_pos (by omega)],hW⟩
    ·go_wp2_with fail;go_ret3;exact⟨by first|rfl|rw[if_neg (by omega)],hW⟩
end Go.Proofs.Ytoaaklhpmhjhkab
namespace Go.Proofs.Ytoaaklhpmhjhkab
open Go.RowKit
theorem Jw:∀(f:Nat) (b:Bool) (l:List UInt8) (v:Int),Rf.cnt f b l=some v->Rf.cnt (f+1) b l=some v:=by
 intro f
 induction f with
 |zero=>intro b l v h;cases h
 |succ f ih=>
  intro b l v h;cases b
  ·unfold Rf.cnt at h ⊢;cases hs:Rf.split l with
   |none=>rw[hs]at h;cases h
   |some cut=>
    rw[hs]at h;simp only at h ⊢;cases hd:l.drop cut with
    |cons u us=>
     rw[hd]at h;simp only at h ⊢;cases hc:Rf.cnt f false (l.take cut)with
     |none=>rw[hc]at h;cases h
     |some n=>rw[hc]at h;rw[ih _ _ _ hc];exact h
    |nil=>
     rw[hd]at h;simp only at h ⊢;cases l with
     |nil=>cases h
     |cons c r=>
      simp only at h ⊢;split
      ·rename_i h40;rw[if_pos h40]at h;split
       ·rename_i h0;rw[if_pos h0]at h;cases h
       ·rename_i h0;rw[if_neg h0]at h;exact ih _ _ _ h
      ·rename_i h40;rw[if_neg h40]at h;exact h
  ·cases l with
   |nil=>rw[Rf.cnt]at h ⊢;exact h
   |cons c r=>
    rw[Rf.cnt]at h ⊢
    (try simp only at h ⊢)
    split
    ·rename_i h1;rw[if_pos h1]at h;exact ih _ _ _ h
    ·rename_i h1;rw[if_neg h1]at h;cases hp:Rf.piece (c::r)with
     |none=>rw[hp]at h;cases h
     |some k=>
      rw[hp]at h;simp only at h ⊢;cases ha:Rf.cnt f false ((c::r).take k)with
      |none=>rw[ha]at h;cases h
      |some a=>
       cases hb:Rf.cnt f true ((c::r).drop k)with
       |none=>rw[ha,hb]at h;cases h
       |some d=>rw[ha,hb]at h;rw[ih _ _ _ ha,ih _ _ _ hb];exact h
theorem Ma {f:Nat}{b:Bool}{l:List UInt8}{v:Int} (h:Rf.cnt f b l=some v):∀k,Rf.cnt (f+k) b l=some v
 |0=>h
 |k+1=>Jw _ _ _ _ (Ma h k)
variable {p r x y : List UInt8}{V d i : Nat}{f : Nat → Bool}{c : UInt8}
theorem Lu (h:WE x V d) (hd:d<=6) (hl:x.length<=40) (s:ByteArray) (hs:s.data.toList=x):(Pg.wrong (Y5 s) s.size).1=0/\Ym s=Pg.capped V:=by
 obtain⟨hW,hok⟩:=Xf s;rw[hs]at hW;obtain⟨m',b',hm,hr⟩:=h.run 0 0 (Int.le_refl _);obtain⟨r1,r2⟩:=hr 0 [];rw[List.append_nil]at r1 r2;have hm1:¬1<m':=by omega
 have hf:Rf.form x=-1:=by
  show Rf.formFrom 0 0 0 0 x=-1;rw[r1];simp[Rf.formFrom,hm1]
 have hdp:Rf.deep x=-1:=by
  show Rf.deepFrom 0 0 0 0 x=-1;rw[r2 (by omega)];rfl
 have hv:∀f v,Rf.valueFrom x f 0=some v->v=-1:=fun f v hv=>by
  obtain⟨f',h1⟩:=h.val x 0 [] (by simp) f v hv;cases f' with
  |zero=>cases h1
  |succ f'=>
   rw[Nat.zero_add,Rf.valueFrom,List.drop_length]at h1;exact(Option.some.inj h1).symm
 have he:∀f v,Rf.emptyFrom x f 0=some v->v=-1:=fun f v hv=>by
  obtain⟨f',h1⟩:=h.emp x 0 [] (by simp) f v hv;cases f' with
  |zero=>cases h1
  |succ f'=>
   rw[Nat.zero_add,Rf.emptyFrom,List.drop_length]at h1;exact(Option.some.inj h1).symm
 have h0:(Pg.wrong (Y5 s) s.size).1=0:=by
  rcases hW with ⟨h1,_⟩|⟨_,⟨h1,_⟩|⟨_,⟨h1,_⟩|⟨_,f,v,h1,⟨h2,_⟩|⟨_,g,u,h3,⟨h4,_⟩|⟨_,h4,_⟩⟩⟩⟩⟩
  ·omega
  ·omega
  ·omega
  ·have:=hv f v h1;omega
  ·have:=he g u h3;omega
  ·exact h4
 refine⟨h0,?_⟩;obtain⟨V',g,p1,_,p3⟩:=PF s (hok h0).2.2;obtain⟨ts,F,t1,t2⟩:=h.tok;obtain⟨G,hG⟩:=Jy F true ts V t2;have h1:=hG g;rw[t1]at h1;rw[hs]at p1;have h2:=Ma p1 G;rw[h1]at h2;show Pg.countPlaces _=_;rw[p3,<-Option.some.inj h2]
theorem Rv (hst:∀m b o:Int,(m=0\/m=1)->∃b',YH m b o x=some (1,b')) (hpl:UO x)
  (hval:∀(p:List UInt8) (i:Nat) (r:List UInt8),p.drop i=x++r->∀f v,Rf.valueFrom p f i=some v->∃f',Rf.valueFrom p f' (i+x.length)=some v)
  (hemp:∀(p:List UInt8) (i:Nat) (r:List UInt8),p.drop i=x++r->∀f v,Rf.emptyFrom p f i=some v->∃f',Rf.emptyFrom p f' (i+x.length)=some v):Rt x 1 0:=by
 refine⟨fun m b o hm ho=>?_,hval,hemp,?_⟩
 ·obtain⟨b',hb⟩:=hst m b o hm;exact⟨b',fun i r=>⟨Yc x m b 1 b' i r hb,fun h6=>XX (by omega) x m b 1 b' i r hb⟩⟩
 ·refine⟨[{ w:=x,kd:=1,mo:=0 }],by simp[Yg],⟨_,[],rfl,Re _ (show(1:Int)<5 by omega)⟩,fun G r W hI hn=>?_⟩;refine⟨G+2,Or.inr (Or.inr ⟨[{ w:=x,kd:=1,mo:=0 }],r,1,W,rfl,Or.inl ⟨_,rfl,Or.inl ⟨rfl,hpl⟩,rfl,rfl⟩,Wp hI (by omega),rfl,hn⟩)⟩
theorem Tz:∀ {n k:Nat},k<n->f k=true->Rf.cntTo f n≠0
 |n+1,k,hk,h=>by
  rw[Rf.cntTo];by_cases e:k=n
  ·subst e;rw[if_pos h];omega
  ·have:=Tz (show k<n by omega) h;omega
theorem Sg (c:UInt8) (hc:¬XY c):Rt [c] 1 0:=by
 have hs:=hc;unfold XY at hs;simp only[not_or]at hs;obtain⟨s1,s2,s3,s4,s5,s6,s7,s8,s9,s10,s11⟩:=hs;have ne:∀k:UInt8,c≠k->((c.toNat:Int)≠(k.toNat:Int)):=fun k h e=>h (UInt8.toNat_inj.1 (by omega))
 refine Rv (fun m b o hm=>⟨b,?_⟩) (Or.inl ⟨c,rfl,hc⟩) (fun p i r hp f v hv=>Ye hp s1 s2 s3 hv) (fun p i r hp f v hv=>Yi hp s1 s2 hv);have n1:=ne 92 s1;have n2:=ne 91 s2;have n3:=ne 123 s3;have n4:=ne 40 s4;have n5:=ne 41 s5;have n6:=ne 124 s6;have n7:=ne 42 s7;have n8:=ne 43 s8;have n9:=ne 63 s9;have n10:=ne 93 s10;have n11:=ne 125 s11;have hr:Rf.read m b o c.toNat=⟨true,1,b,o⟩:=by
  rw[U7 _ _ _ hm];unfold Rf.outside;simp at n1 n2 n3 n4 n5 n6 n7 n8 n9 n10 n11;simp[n1,n2,n3,n4,n5,n6,n7,n8,n9,n10,n11]
 rw[YE _ hr rfl rfl];rfl
theorem Nn {e:List UInt8}{v:Int} (ho:∀r,Rf.one (92::(e++r))=some (v,e.length+1)) (hst:∀m b o:Int,(m=0\/m=1)->∃b',YH m b o (92::e)=some (1,b')):Rt (92::e) 1 0:=by
 refine Rv hst (Or.inr (Or.inl ⟨e,v,rfl,ho⟩)) (fun p i r hp f x hx=>?_) (fun p i r hp f x hx=>?_)
 ·cases f with
  |zero=>cases hx
  |succ f=>
   have hp':p.drop i=92::(e++r):=hp;rw[Rf.valueFrom,hp']at hx;simp only[if_true]at hx;rw[ho r]at hx;exact⟨f,hx⟩
 ·cases f with
  |zero=>cases hx
  |succ f=>
   have hp':p.drop i=92::(e++r):=hp;rw[Rf.emptyFrom,hp']at hx;simp only[if_true]at hx;rw[ho r]at hx;exact⟨f,hx⟩
theorem Np {e:List UInt8}{g:Nat->Bool} (ho:∀r i,Rf.set (e++r) i=some (i+(e.length+1),-1,g)) (hg:Rf.cntTo g 256≠0) (hst:∀m b o:Int,(m=0\/m=1)->∃b',YH m b o (91::e)=some (1,b')):Rt (91::e) 1 0:=by
 have h91:¬(91:UInt8)=92:=by decide
 refine Rv hst (Or.inr (Or.inr ⟨e,rfl,fun r i=>⟨_,_,ho r i⟩⟩)) (fun p i r hp f x hx=>?_) (fun p i r hp f x hx=>?_)
 ·cases f with
  |zero=>cases hx
  |succ f=>
   have hp':p.drop i=91::(e++r):=hp;rw[Rf.valueFrom,hp']at hx;simp only[h91,if_false,if_true]at hx;rw[ho r i]at hx;simp only at hx;rw[if_neg (by omega)]at hx;exact⟨f,hx⟩
 ·cases f with
  |zero=>cases hx
  |succ f=>
   have hp':p.drop i=91::(e++r):=hp;rw[Rf.emptyFrom,hp']at hx;simp only[h91,if_false,if_true]at hx;rw[ho r i]at hx;simp only at hx;rw[if_neg hg]at hx;exact⟨f,hx⟩
theorem Gt:Rt [92,110] 1 0:=Nn (e:=[110]) (v:=10) (fun r=>rfl) (fun m b o hm=>⟨1,by rcases hm with rfl|rfl<;>simp[YH,Rf.read,Rf.rest,Rf.outside,Rf.to,Rf.has,Rf.marks]⟩)
theorem GK:Rt [92,120,48,48] 1 0:=Nn (e:=[120,48,48]) (v:=0) (fun r=>rfl) (fun m b o hm=>⟨1,by rcases hm with rfl|rfl<;>simp[YH,Rf.read,Rf.rest,Rf.outside,Rf.to,Rf.hex,Rf.digit]⟩)
theorem GJ:Rt [92,42] 1 0:=Nn (e:=[42]) (v:=42) (fun r=>rfl) (fun m b o hm=>⟨1,by rcases hm with rfl|rfl<;>simp[YH,Rf.read,Rf.rest,Rf.outside,Rf.to,Rf.has,Rf.marks]⟩)
theorem Sh (a b:UInt8) (ha:a≠94/\a≠93/\a≠92/\a≠45) (hb:b≠93/\b≠92/\b≠45) (r:List UInt8) (i:Nat):Rf.set ([a,b,93]++r) i=some (i+4,-1,fun k:Nat=>((false || (decide ((a.toNat:Int)<=k)&&decide ((k:Int)<=a.toNat))) || (decide ((b.toNat:Int)<=k)&&decide ((k:Int)<=b.toNat))) != false):=by
 simp[Rf.set,Rf.items,Rf.one,ha,hb]
theorem Mz (a:UInt8) (ha:a≠93/\a≠92/\a≠45) (r:List UInt8) (i:Nat):Rf.set ([94,a,93]++r) i=some (i+4,-1,fun k:Nat=>(false || (decide ((a.toNat:Int)<=k)&&decide ((k:Int)<=a.toNat))) != true):=by
 simp[Rf.set,Rf.items,Rf.one,ha]
theorem GG:Rt [91,97,98,93] 1 0:=Np (e:=[97,98,93]) (fun r i=>Sh 97 98 (by decide) (by decide) r i) (Tz (k:=97) (by omega) (by decide)) (fun m b o hm=>⟨b,by rcases hm with rfl|rfl<;>simp[YH,Rf.read,Rf.rest,Rf.outside,Rf.inner,Rf.to,Rf.has,Rf.notInner]⟩)
theorem GH:Rt [91,98,99,93] 1 0:=Np (e:=[98,99,93]) (fun r i=>Sh 98 99 (by decide) (by decide) r i) (Tz (k:=98) (by omega) (by decide)) (fun m b o hm=>⟨b,by rcases hm with rfl|rfl<;>simp[YH,Rf.read,Rf.rest,Rf.outside,Rf.inner,Rf.to,Rf.has,Rf.notInner]⟩)
theorem GI:Rt [91,94,97,93] 1 0:=Np (e:=[94,97,93]) (fun r i=>Mz 97 (by decide) r i) (Tz (k:=98) (by omega) (by decide)) (fun m b o hm=>⟨b,by rcases hm with rfl|rfl<;>simp[YH,Rf.read,Rf.rest,Rf.outside,Rf.inner,Rf.to,Rf.has,Rf.notInner]⟩)
def YB:Nat->List UInt8
 |0=>[97]
 |1=>[98]
 |2=>[99]
 |3=>[91,97,98,93]
 |4=>[91,94,97,93]
 |5=>[46]
 |6=>[92,110]
 |7=>[91,98,99,93]
 |8=>[92,120,48,48]
 |_=>[92,42]
theorem Qr:∀k,k<10->Rt (YB k) 1 0
 |0,_=>Sg 97 (by unfold XY;decide)
 |1,_=>Sg 98 (by unfold XY;decide)
 |2,_=>Sg 99 (by unfold XY;decide)
 |3,_=>GG
 |4,_=>GI
 |5,_=>Sg 46 (by unfold XY;decide)
 |6,_=>Gt
 |7,_=>GH
 |8,_=>GK
 |9,_=>GJ
theorem MD {x:UInt8} (hp:p.drop i=123::x::125::r) {f:Nat}{v:Int} (h:Rf.valueFrom p f i=some v):∃f',Rf.valueFrom p f' (i+1)=some v:=by
 have h1:¬(123:UInt8)=92:=by decide
 have h2:¬(123:UInt8)=91:=by decide
 have h3:¬(125:UInt8)=44:=by decide
 cases f with
 |zero=>cases h
 |succ f=>rw[Rf.valueFrom,hp]at h;simp only[h1,h2,h3,if_false,if_true]at h;exact⟨f,h⟩
theorem Qt {x z:UInt8} (hp:p.drop i=123::x::44::z::r) (hxz:¬z.toNat<x.toNat) {f:Nat}{v:Int} (h:Rf.valueFrom p f i=some v):∃f',Rf.valueFrom p f' (i+1)=some v:=by
 have h1:¬(123:UInt8)=92:=by decide
 have h2:¬(123:UInt8)=91:=by decide
 cases f with
 |zero=>cases h
 |succ f=>rw[Rf.valueFrom,hp]at h;simp only[h1,h2,hxz,if_false,if_true]at h;exact⟨f,h⟩
theorem YD (hp:p.drop i=c::r):p.drop (i+1)=r:=by rw[<-List.drop_drop,hp];rfl
def Dx (x:List UInt8) (g:Fr->Fr):Prop:=∀(qs:List Tq) (r:List UInt8),(∀q∈qs,Vf q)->Yg (qs.map Tq.t)=x++r ->
 ∃qr:List Tq,(∀q∈qr,Vf q)/\Yg (qr.map Tq.t)=r/\∀c st,Uu qs (c,st)=Uu qr (g c,st)
theorem YV {g k:Fr->Fr} (hx:Dx x g) (hy:Dx y k):Dx (x++y) (fun c=>k (g c)):=fun qs r hq e=>by
 obtain⟨q1,a1,a2,a3⟩:=hx qs (y++r) hq (by rw[e,List.append_assoc]);obtain⟨q2,b1,b2,b3⟩:=hy q1 r a1 a2;exact⟨q2,b1,b2,fun c st=>by rw[a3,b3]⟩
theorem GY:Dx [] (fun c=>c):=fun qs _ hq e=>⟨qs,hq,e,fun _ _=>rfl⟩
theorem GQ {q:Tq} (h:Vf q):q.t.w≠[]:=by
 rcases h.1 with ⟨_,h⟩|⟨_,h⟩|⟨_,h⟩|⟨_,h⟩|⟨_,h⟩|⟨_,h⟩|⟨_,h⟩|⟨_,h⟩
 ·rcases h with ⟨c,h,_⟩|⟨e,v,h,_⟩|⟨e,h,_⟩<;>simp[h]
 all_goals first|(simp[h];done)|(rcases h with ⟨x,h,_⟩|⟨x,z,h,_⟩<;>simp[h])
theorem WZ {qs:List Tq} (h:∀q∈qs,Vf q) (e:Yg (qs.map Tq.t)=c::r):∃q qs' w',qs=q::qs'/\Vf q/\(∀q'∈qs',Vf q')/\q.t.w=c::w'/\w'++Yg (qs'.map Tq.t)=r:=by
 cases qs with
 |nil=>simp[Yg]at e
 |cons q qs=>
  have hq:=h q (by simp);rw[List.map_cons,Yp]at e;cases hw:q.t.w with
  |nil=>exact absurd hw (GQ hq)
  |cons d w'=>
   rw[hw,List.cons_append]at e;cases e;exact⟨q,qs,w',rfl,hq,fun q' hq'=>h q' (by simp[hq']),hw,rfl⟩
theorem UW {q:Tq} (h:Vf q) {c:UInt8}{w':List UInt8} (hw:q.t.w=c::w'):
  (c=40->q.t.kd=2/\w'=[])/\(c=41->q.t.kd=3/\w'=[])/\(c=124->q.t.kd=4/\w'=[])/\(c=42->q.t.kd=5/\w'=[])/\(c=43->q.t.kd=6/\w'=[])/\(c=63->q.t.kd=7/\w'=[]) /\
  (c=123->q.t.kd=8/\V9 q.t.w q.t.mo)/\(c≠40->c≠41->c≠124->c≠42->c≠43->c≠63->c≠123->q.t.kd=1):=by
 rcases h.1 with ⟨k,h⟩|⟨k,h⟩|⟨k,h⟩|⟨k,h⟩|⟨k,h⟩|⟨k,h⟩|⟨k,h⟩|⟨k,h⟩
 ·have hn:c≠40/\c≠41/\c≠124/\c≠42/\c≠43/\c≠63/\c≠123:=by
   rcases h with ⟨d,h,hs⟩|⟨e,v,h,_⟩|⟨e,h,_⟩
   ·rw[hw]at h;cases h;unfold XY at hs;simp only[not_or]at hs;exact⟨hs.2.2.2.1,hs.2.2.2.2.1,hs.2.2.2.2.2.1,hs.2.2.2.2.2.2.1,hs.2.2.2.2.2.2.2.1,hs.2.2.2.2.2.2.2.2.1,hs.2.2.1⟩
   ·rw[hw]at h;cases h;decide
   ·rw[hw]at h;cases h;decide
  obtain⟨n1,n2,n3,n4,n5,n6,n7⟩:=hn;exact⟨fun e=>absurd e n1,fun e=>absurd e n2,fun e=>absurd e n3,fun e=>absurd e n4,fun e=>absurd e n5,fun e=>absurd e n6,fun e=>absurd e n7,fun _ _ _ _ _ _ _=>k⟩
 all_goals first
  |(rw[hw]at h;cases h;refine⟨?_,?_,?_,?_,?_,?_,?_,?_⟩<;>first|(intro e;exact⟨k,rfl⟩)|(intro e;exact absurd e (by decide))|(intro a1 a2 a3 a4 a5 a6 a7;first|exact absurd rfl a1|exact absurd rfl a2|exact absurd rfl a3|exact absurd rfl a4|exact absurd rfl a5|exact absurd rfl a6))
  |skip
 have hc:c=123:=by
  rcases h with ⟨x,h,_⟩|⟨x,z,h,_⟩<;>(rw[hw]at h;cases h;rfl)
 subst hc;exact⟨fun e=>absurd e (by decide),fun e=>absurd e (by decide),fun e=>absurd e (by decide),fun e=>absurd e (by decide),fun e=>absurd e (by decide),fun e=>absurd e (by decide),fun _=>⟨k,h⟩,fun _ _ _ _ _ _ a=>absurd rfl a⟩
theorem UU:Dx [124] Fr.bar:=fun qs r hq e=>by
 obtain⟨q,qs',w',rfl,h1,h2,h3,h4⟩:=WZ hq e;obtain⟨k,rfl⟩:=(UW h1 h3).2.2.1 rfl;exact⟨qs',h2,h4,fun c st=>by rw[X4,GO k]⟩
theorem XT:Dx [42] (fun c=>⟨c.A,c.R,St c.P⟩):=fun qs r hq e=>by
 obtain⟨q,qs',w',rfl,h1,h2,h3,h4⟩:=WZ hq e;obtain⟨k,rfl⟩:=(UW h1 h3).2.2.2.1 rfl;exact⟨qs',h2,h4,fun c st=>by rw[X4,KF (Or.inl k),OX,if_pos k]⟩
theorem Pq:Dx [43] (fun c=>⟨c.A,c.R,Cc c.P (St c.P)⟩):=fun qs r hq e=>by
 obtain⟨q,qs',w',rfl,h1,h2,h3,h4⟩:=WZ hq e;obtain⟨k,rfl⟩:=(UW h1 h3).2.2.2.2.1 rfl;exact⟨qs',h2,h4,fun c st=>by rw[X4,KF (Or.inr (Or.inl k)),OX,if_neg (by omega),if_pos k]⟩
theorem ST:Dx [63] (fun c=>⟨c.A,c.R,Op c.P⟩):=fun qs r hq e=>by
 obtain⟨q,qs',w',rfl,h1,h2,h3,h4⟩:=WZ hq e;obtain⟨k,rfl⟩:=(UW h1 h3).2.2.2.2.2.1 rfl;exact⟨qs',h2,h4,fun c st=>by rw[X4,KF (Or.inr (Or.inr (Or.inl k))),OX,if_neg (by omega),if_neg (by omega),if_pos k]⟩
theorem Mb {q:Tq} (k:q.t.kd=8) (c:Fr) (st:List Fr):Ui q (c,st)=(⟨c.A,c.R,Pc c.P q.le.toNat q.t.mo.toNat⟩,st):=by
 rw[KF (Or.inr (Or.inr (Or.inr k))),OX,if_neg (by omega),if_neg (by omega),if_neg (by omega)]
theorem Pn (x:UInt8):Dx [123,x,125] (fun c=>⟨c.A,c.R,Pc c.P ((x.toNat:Int)-48).toNat ((x.toNat:Int)-48).toNat⟩):=fun qs r hq e=>by
 obtain⟨q,qs',w',rfl,h1,h2,h3,h4⟩:=WZ (r:=[x,125]++r) hq e;obtain⟨k,hc⟩:=(UW h1 h3).2.2.2.2.2.2.1 rfl;obtain⟨x',r',l1,_,_,l2⟩:=h1.2.2 k;rcases hc with ⟨y,c1,_,_,c2⟩|⟨y,z,c1,_,_,_,_,c2⟩
 ·rw[h3]at c1;cases c1;simp only[List.cons_append,List.nil_append,List.cons.injEq]at h4;obtain⟨rfl,_,h4⟩:=h4;rw[h3]at l1;cases l1;exact⟨qs',h2,h4,fun c st=>by rw[X4,Mb k,l2,c2]⟩
 ·rw[h3]at c1;cases c1;simp only[List.cons_append,List.nil_append,List.cons.injEq]at h4;exact absurd h4.2.1 (by decide)
theorem Po (x z:UInt8):Dx [123,x,44,z,125] (fun c=>⟨c.A,c.R,Pc c.P ((x.toNat:Int)-48).toNat ((z.toNat:Int)-48).toNat⟩):=fun qs r hq e=>by
 obtain⟨q,qs',w',rfl,h1,h2,h3,h4⟩:=WZ (r:=[x,44,z,125]++r) hq e;obtain⟨k,hc⟩:=(UW h1 h3).2.2.2.2.2.2.1 rfl;obtain⟨x',r',l1,_,_,l2⟩:=h1.2.2 k;rcases hc with ⟨y,c1,_,_,c2⟩|⟨y,z',c1,_,_,_,_,c2⟩
 ·rw[h3]at c1;cases c1;simp only[List.cons_append,List.nil_append,List.cons.injEq]at h4;exact absurd h4.2.1 (by decide)
 ·rw[h3]at c1;cases c1;simp only[List.cons_append,List.nil_append,List.cons.injEq]at h4;obtain⟨rfl,_,rfl,_,h4⟩:=h4;rw[h3]at l1;cases l1;exact⟨qs',h2,h4,fun c st=>by rw[X4,Mb k,l2,c2]⟩
theorem X1 {g:Fr->Fr} (h:Dx y g):Dx (40::(y++[41])) (fun c=>c.piece (g Fr.zero).val):=fun qs r hq e=>by
 obtain⟨q,qs',w',rfl,h1,h2,h3,h4⟩:=WZ hq e;obtain⟨k,rfl⟩:=(UW h1 h3).1 rfl;obtain⟨q1,a1,a2,a3⟩:=h qs' ([41]++r) h2 (by rw[<-List.append_assoc];exact h4);obtain⟨p,ps,v',rfl,b1,b2,b3,b4⟩:=WZ a1 a2;obtain⟨kp,rfl⟩:=(UW b1 b3).2.1 rfl;exact⟨ps,b2,b4,fun c st=>by rw[X4,GL k,a3,X4,GM kp]⟩
theorem Om {g:Nat->Bool} (h:∀b,b<256->f b=g b):Li f=Li g:=XI fun w=>by
 constructor
 ·rintro ⟨b,e,hb,hf⟩;exact⟨b,e,hb,by rw[<-h b hb];exact hf⟩
 ·rintro ⟨b,e,hb,hf⟩;exact⟨b,e,hb,by rw[h b hb];exact hf⟩
theorem GX:Dx [46] (fun c=>c.piece (Li fun b=>b != 10)):=fun qs r hq e=>by
 obtain⟨q,qs',w',rfl,h1,h2,h3,h4⟩:=WZ hq e;have k:=(UW h1 h3).2.2.2.2.2.2.2 (by decide) (by decide) (by decide) (by decide) (by decide) (by decide) (by decide);rcases h1.2.1 k with ⟨p1,p2⟩|⟨c,v,r0,p1,p2,_⟩|⟨e,p1,_⟩
 ·rw[h3]at p1;cases p1;exact⟨qs',h2,h4,fun c st=>by rw[X4,I4 k,Om p2]⟩
 ·rw[h3]at p1;cases p1;exact absurd rfl p2
 ·rw[h3]at p1;cases p1
theorem Kk {a b c d:List UInt8} (h:a++b=c++d) (hl:a.length=c.length):a=c/\b=d:=List.append_inj h hl
theorem SS {X:List UInt8}{v:Int} (hs:c≠40/\c≠41/\c≠124/\c≠42/\c≠43/\c≠63/\c≠123) (h46:c≠46) (h91:c≠91) (h:∀r,Rf.one (c::(X++r))=some (v,X.length+1)):Dx (c::X) (fun c=>c.piece (Li fun b=>decide ((b:Int)=v))):=fun qs r hq e=>by
 obtain⟨q,qs',w',rfl,h1,h2,h3,h4⟩:=WZ (r:=X++r) hq e;obtain⟨n1,n2,n3,n4,n5,n6,n7⟩:=hs;have k:=(UW h1 h3).2.2.2.2.2.2.2 n1 n2 n3 n4 n5 n6 n7;rcases h1.2.1 k with ⟨p1,p2⟩|⟨d,v',r0,p1,_,_,_,p3,p4⟩|⟨e,p1,_⟩
 ·rw[h3]at p1;cases p1;exact absurd rfl h46
 ·have h5:=p3 (Yg (qs'.map Tq.t));rw[h3,List.cons_append,h4,h r]at h5;simp only[Option.some.injEq,Prod.mk.injEq,List.length_cons]at h5;obtain⟨rfl,h6⟩:=h5;obtain⟨e1,e2⟩:=Kk h4 (by omega);subst e1;exact⟨qs',h2,e2,fun c st=>by rw[X4,I4 k,Om p4]⟩
 ·rw[h3]at p1;cases p1;exact absurd rfl h91
theorem MQ {X:List UInt8} (h:∀r,∃fa,Rf.set (X++r) 0=some (X.length+1,fa,f)):Dx (91::X) (fun c=>c.piece (Li f)):=fun qs r hq e=>by
 obtain⟨q,qs',w',rfl,h1,h2,h3,h4⟩:=WZ (r:=X++r) hq e;have k:=(UW h1 h3).2.2.2.2.2.2.2 (by decide) (by decide) (by decide) (by decide) (by decide) (by decide) (by decide);rcases h1.2.1 k with ⟨p1,p2⟩|⟨d,v',r0,p1,_,p2,_⟩|⟨e,p1,p2⟩
 ·rw[h3]at p1;cases p1
 ·rw[h3]at p1;cases p1;exact absurd rfl p2
 ·rw[h3]at p1;cases p1;obtain⟨fa,h5⟩:=p2 (Yg (qs'.map Tq.t)) 0;obtain⟨fb,h6⟩:=h r;rw[h4,h6]at h5;simp only[Option.some.injEq,Prod.mk.injEq]at h5;obtain⟨h7,_,h8⟩:=h5;obtain⟨e1,e2⟩:=Kk h4 (by omega);subst e1;exact⟨qs',h2,e2,fun c st=>by rw[X4,I4 k,h8]⟩
theorem SU:∀k,k<10->∃f,Dx (YB k) (fun c=>c.piece (Li f))
 |0,_=>⟨_,SS (c:=97) (X:=[]) (v:=97) (by decide) (by decide) (by decide) (fun r=>rfl)⟩
 |1,_=>⟨_,SS (c:=98) (X:=[]) (v:=98) (by decide) (by decide) (by decide) (fun r=>rfl)⟩
 |2,_=>⟨_,SS (c:=99) (X:=[]) (v:=99) (by decide) (by decide) (by decide) (fun r=>rfl)⟩
 |3,_=>⟨_,MQ (X:=[97,98,93]) (fun r=>⟨-1,rfl⟩)⟩
 |4,_=>⟨_,MQ (X:=[94,97,93]) (fun r=>⟨-1,rfl⟩)⟩
 |5,_=>⟨_,GX⟩
 |6,_=>⟨_,SS (c:=92) (X:=[110]) (v:=10) (by decide) (by decide) (by decide) (fun r=>rfl)⟩
 |7,_=>⟨_,MQ (X:=[98,99,93]) (fun r=>⟨-1,rfl⟩)⟩
 |8,_=>⟨_,SS (c:=92) (X:=[120,48,48]) (v:=0) (by decide) (by decide) (by decide) (fun r=>rfl)⟩
 |9,_=>⟨_,SS (c:=92) (X:=[42]) (v:=42) (by decide) (by decide) (by decide) (fun r=>rfl)⟩
theorem Ml {s:ByteArray}{g:Fr->Fr} (hok:(Pg.readParts (Y5 s) s.size).ok=true) (h:Dx s.data.toList g):(VM s).Lq=(g Fr.zero).val:=by
 obtain⟨qs,f,h1,h2,_,h4⟩:=UG s hok;obtain⟨c',r1,r2⟩:=(Hq f 2 qs _ h4).2.2 (Nat.le_refl _) No [];obtain⟨qr,a1,a2,a3⟩:=h qs [] h2 (by rw[h1,List.append_nil]);have hq:qr=[]:=by
  cases qr with
  |nil=>rfl
  |cons q qr=>
   rw[List.map_cons,Yp]at a2;exact absurd (List.append_eq_nil_iff.1 a2).1 (GQ (a1 q (by simp)))
 subst hq;have e:=a3 Fr.zero [];have e2:Uu qs (Fr.zero,[])=(c',[]):=r1;rw[e2]at e;have e3:c'=g Fr.zero:=congrArg Prod.fst e;rw[<-e3,r2,Xs]
theorem Uh {L M:Ln} (h:∀w,L w->M w):∀w,St L w->St M w:=fun _ k=>by
 induction k with
 |nil=>exact .nil
 |cons h1 _ ih=>exact .cons (h _ h1) ih
theorem PV {L:Ln}{u v:List Nat} (h:St L u) (k:St L v):St L (u++v):=by
 induction h with
 |nil=>exact k
 |cons h1 _ ih=>rw[List.append_assoc];exact .cons h1 ih
theorem KD (L:Ln):St (St L)=St L:=XI fun w=>by
 constructor
 ·intro h
  induction h with
  |nil=>exact .nil
  |cons h1 _ ih=>exact PV h1 ih
 ·exact fun h=>St.one h
theorem PY (L M:Ln):Un L M=Un M L:=XI fun w=>by simp[Un,or_comm]
theorem I9 (L:Ln):Un L L=L:=XI fun w=>by simp[Un]
theorem KO (L M N:Ln):Cc (Un L M) N=Un (Cc L N) (Cc M N):=XI fun w=>by
 constructor
 ·rintro ⟨u,v,e,h|h,k⟩
  ·exact Or.inl ⟨u,v,e,h,k⟩
  ·exact Or.inr ⟨u,v,e,h,k⟩
 ·rintro (⟨u,v,e,h,k⟩|⟨u,v,e,h,k⟩)
  ·exact⟨u,v,e,Or.inl h,k⟩
  ·exact⟨u,v,e,Or.inr h,k⟩
theorem L9 (L M N:Ln):Cc L (Un M N)=Un (Cc L M) (Cc L N):=XI fun w=>by
 constructor
 ·rintro ⟨u,v,e,h,k|k⟩
  ·exact Or.inl ⟨u,v,e,h,k⟩
  ·exact Or.inr ⟨u,v,e,h,k⟩
 ·rintro (⟨u,v,e,h,k⟩|⟨u,v,e,h,k⟩)
  ·exact⟨u,v,e,h,Or.inl k⟩
  ·exact⟨u,v,e,h,Or.inr k⟩
theorem OF (L:Ln):Op L=Un Ep L:=rfl
theorem Hl (L:Ln):Op L=Un L Ep:=by rw[OF,PY]
theorem H8 (L:Ln):Op (Cc L (St L))=St L:=XI fun w=>by
 constructor
 ·rintro (rfl|⟨u,v,rfl,h,k⟩)
  ·exact .nil
  ·exact .cons h k
 ·intro h;cases h with
  |nil=>exact Or.inl rfl
  |cons h k=>exact Or.inr ⟨_,_,rfl,h,k⟩
theorem KC (L M:Ln):Cc L (St (Cc M L))=Cc (St (Cc L M)) L:=XI fun w=>by
 constructor
 ·rintro ⟨u,v,rfl,h,k⟩
  induction k generalizing u with
  |nil=>exact⟨[],u,by simp,.nil,h⟩
  |@cons x y hx _ ih=>
   obtain⟨a,b,rfl,ha,hb⟩:=hx;obtain⟨p,q,e,hp,hq⟩:=ih b hb;refine⟨(u++a)++p,q,by simp[e],.cons ⟨u,a,rfl,h,ha⟩ hp,hq⟩
 ·rintro ⟨u,v,rfl,k,h⟩
  induction k with
  |nil=>exact⟨v,[],by simp,h,.nil⟩
  |@cons x y hx _ ih=>
   obtain⟨a,b,rfl,ha,hb⟩:=hx;obtain⟨p,q,e,hp,hq⟩:=ih;exact⟨a,(b++p)++q,by simp[<-e],ha,.cons ⟨b,p,rfl,hb,hp⟩ hq⟩
theorem H7 (L M:Ln):St (Un L M)=St (Cc (St L) (St M)):=XI fun w=>by
 constructor
 ·refine Uh (fun u h=>?_) w;rcases h with h|h
  ·exact⟨u,[],by simp,St.one h,.nil⟩
  ·exact⟨[],u,by simp,.nil,St.one h⟩
 ·intro h;rw[<-KD];refine Uh (fun u h=>?_) w h;obtain⟨a,b,rfl,ha,hb⟩:=h;exact PV (Uh (fun _=>Or.inl) _ ha) (Uh (fun _=>Or.inr) _ hb)
theorem KE (L M:Ln):St (Un L M)=Cc (St (Cc (St L) M)) (St L):=XI fun w=>by
 constructor
 ·intro h
  induction h with
  |nil=>exact⟨[],[],rfl,.nil,.nil⟩
  |@cons u v h _ ih=>
   obtain⟨p,q,rfl,hp,hq⟩:=ih;rcases h with h|h
   ·by_cases e:p=[]
    ·subst e;exact⟨[],u++q,by simp,.nil,.cons h hq⟩
    ·obtain⟨c,x,y,e1,hx,hy⟩:=hp.split e;obtain⟨a,b,e2,ha,hb⟩:=hx;refine⟨(u++a++b)++y,q,?_,.cons ⟨u++a,b,rfl,.cons h ha,hb⟩ hy,hq⟩;rw[e1,<-List.cons_append,e2];simp
   ·exact⟨u++p,q,by simp,.cons ⟨[],u,rfl,.nil,h⟩ hp,hq⟩
 ·rintro ⟨u,v,rfl,h,k⟩;refine PV ?_ (Uh (fun _=>Or.inl) _ k);rw[<-KD];refine Uh (fun x hx=>?_) u h;obtain⟨a,b,rfl,ha,hb⟩:=hx;exact PV (Uh (fun _=>Or.inl) _ ha) (St.one (Or.inr hb))
theorem Hj (L:Ln):Cc (Op L) (Op L)=Op (Cc L (Op L)):=by
 rw[OF L,OF (Cc L _),L9,KO,KO,L9];simp only[XO,Xr];exact XI fun w=>by
  simp only[Un];constructor
  ·rintro ((h|h)|h|h)
   ·exact Or.inl h
   ·exact Or.inr (Or.inl h)
   ·exact Or.inr (Or.inl h)
   ·exact Or.inr (Or.inr h)
  ·rintro (h|h|h)
   ·exact Or.inl (Or.inl h)
   ·exact Or.inl (Or.inr h)
   ·exact Or.inr (Or.inr h)
def Y1 (x y z:List UInt8):Nat->List UInt8 × List UInt8
 |0=>(x++[124]++y,y++[124]++x)
 |1=>([40]++x++[124]++y++[41]++z,x++z++[124]++y++z)
 |2=>(x++[40]++y++x++[41,42],[40]++x++y++[41,42]++x)
 |3=>([40]++x++[42,41,42],x++[42])
 |4=>(x++[43],x++x++[42])
 |5=>(x++[123,50,44,51,125],x++x++[124]++x++x++x)
 |6=>([40]++x++[124]++y++[41,42],[40]++x++[42]++y++[42,41,42])
 |7=>([40]++x++[124]++y++[41,42],[40]++x++[42]++y++[41,42]++x++[42])
 |8=>(x++[63],[124]++x)
 |9=>(x++[123,48,44,50,125],[40]++x++x++[63,41,63])
 |10=>([40,40]++x++[41,41],x)
 |11=>(x++[124]++x,x)
 |12=>([40]++x++y++[41]++z,x++[40]++y++z++[41])
 |13=>(x++[123,48,125],[40,41])
 |14=>([40]++x++[124]++y++[41,43],[40]++x++[124]++y++[41,40]++y++[124]++x++[41,42])
 |15=>([40]++x++[63,41,123,50,125],x++[123,48,44,50,125])
 |16=>([40]++x++[43,41,63],x++[42])
 |17=>(z++[40]++x++[124]++y++[41],z++x++[124]++z++y)
 |18=>([40]++x++y++[41,123,50,125],x++y++x++y)
 |_=>([40]++x++[124,41]++y,x++[63]++y)
theorem Dx.as {g:Fr->Fr} (h:Dx x g) (e:x=y):Dx y g:=e▸h
theorem IK {z:List UInt8}{X Y Z:Ln} (hx:Dx x (fun c=>c.piece X)) (hy:Dx y (fun c=>c.piece Y)) (hz:Dx z (fun c=>c.piece Z)):
  ∀k,∃g h,Dx (Y1 x y z k).1 g/\Dx (Y1 x y z k).2 h/\(g Fr.zero).val=(h Fr.zero).val:=by
 have hxy:=YV (YV hx UU) hy;have hyx:=YV (YV hy UU) hx;intro k;rcases k with _|_|_|_|_|_|_|_|_|_|_|_|_|_|_|_|_|_|_|k
 ·exact⟨_,_,hxy,hyx,by simp only[Fr.val,Fr.row,Fr.piece,Fr.bar,Fr.zero,Xr,XO,Xs];exact PY X Y⟩
 ·exact⟨_,_,(YV (X1 hxy) hz).as (by simp[Y1]),YV (YV (YV (YV hx hz) UU) hy) hz,by simp only[Fr.val,Fr.row,Fr.piece,Fr.bar,Fr.zero,Xr,XO,Xs];exact KO X Y Z⟩
 ·exact⟨_,_,(YV (YV hx (X1 (YV hy hx))) XT).as (by simp[Y1]),(YV (YV (X1 (YV hx hy)) XT) hx).as (by simp[Y1]),by simp only[Fr.val,Fr.row,Fr.piece,Fr.zero,Xr,XO,Xs];exact KC X Y⟩
 ·exact⟨_,_,(YV (X1 (YV hx XT)) XT).as (by simp[Y1]),YV hx XT,by simp only[Fr.val,Fr.row,Fr.piece,Fr.zero,Xr,XO,Xs];exact KD X⟩
 ·exact⟨_,_,YV hx Pq,YV (YV hx hx) XT,by simp only[Fr.val,Fr.row,Fr.piece,Fr.zero,Xr,XO,Xs]⟩
 ·refine⟨_,_,YV hx (Po 50 51),YV (YV (YV (YV (YV hx hx) UU) hx) hx) hx,?_⟩;show(Fr.val ⟨No,Fr.zero.row,Pc X 2 3⟩)=_;simp only[Fr.val,Fr.row,Fr.piece,Fr.bar,Fr.zero,Xr,XO,Xs,Pc];simp only[show(0:Nat)<2 by omega,show(1:Nat)<2 by omega,show ¬(2:Nat)<2 by omega,if_true,if_false];rw[OF,L9,XO]
 ·exact⟨_,_,(YV (X1 hxy) XT).as (by simp[Y1]),(YV (X1 (YV (YV (YV hx XT) hy) XT)) XT).as (by simp[Y1]),by simp only[Fr.val,Fr.row,Fr.piece,Fr.bar,Fr.zero,Xr,XO,Xs];exact H7 X Y⟩
 ·exact⟨_,_,(YV (X1 hxy) XT).as (by simp[Y1]),(YV (YV (YV (X1 (YV (YV hx XT) hy)) XT) hx) XT).as (by simp[Y1]),by simp only[Fr.val,Fr.row,Fr.piece,Fr.bar,Fr.zero,Xr,XO,Xs];exact KE X Y⟩
 ·exact⟨_,_,YV hx ST,YV UU hx,by simp only[Fr.val,Fr.row,Fr.piece,Fr.bar,Fr.zero,Xr,XO,Xs];exact OF X⟩
 ·refine⟨_,_,YV hx (Po 48 50),(YV (X1 (YV (YV hx hx) ST)) ST).as (by simp[Y1]),?_⟩;show(Fr.val ⟨No,Fr.zero.row,Pc X 0 2⟩)=_;simp only[Fr.val,Fr.row,Fr.piece,Fr.zero,Xr,XO,Xs,Pc];simp only[Nat.not_lt_zero,if_false];exact Hj X
 ·exact⟨_,_,(X1 (X1 hx)).as (by simp[Y1]),hx,by simp only[Fr.val,Fr.row,Fr.piece,Fr.zero,Xr,XO,Xs]⟩
 ·exact⟨_,_,YV (YV hx UU) hx,hx,by simp only[Fr.val,Fr.row,Fr.piece,Fr.bar,Fr.zero,Xr,XO,Xs];exact I9 X⟩
 ·exact⟨_,_,(YV (X1 (YV hx hy)) hz).as (by simp[Y1]),(YV hx (X1 (YV hy hz))).as (by simp[Y1]),by simp only[Fr.val,Fr.row,Fr.piece,Fr.zero,Xr,XO,Xs];exact Q0 X Y Z⟩
 ·refine⟨_,_,YV hx (Pn 48),(X1 GY).as (by simp[Y1]),?_⟩;show(Fr.val ⟨No,Fr.zero.row,Pc X 0 0⟩)=_;simp only[Fr.val,Fr.row,Fr.piece,Fr.zero,XO,Xs,Pc]
 ·exact⟨_,_,(YV (X1 hxy) Pq).as (by simp[Y1]),(YV (YV (X1 hxy) (X1 hyx)) XT).as (by simp[Y1]),by simp only[Fr.val,Fr.row,Fr.piece,Fr.bar,Fr.zero,Xr,XO,Xs];rw[PY Y X]⟩
 ·refine⟨_,_,(YV (X1 (YV hx ST)) (Pn 50)).as (by simp[Y1]),YV hx (Po 48 50),?_⟩;show(Fr.val ⟨No,Fr.zero.row,Pc (Fr.val ⟨No,Fr.zero.row,Op X⟩) 2 2⟩)=(Fr.val ⟨No,Fr.zero.row,Pc X 0 2⟩);simp only[Fr.val,Fr.row,Fr.zero,Xr,XO,Xs,Pc];simp only[show(0:Nat)<2 by omega,show(1:Nat)<2 by omega,Nat.not_lt_zero,if_true,if_false]
 ·exact⟨_,_,(YV (X1 (YV hx Pq)) ST).as (by simp[Y1]),YV hx XT,by simp only[Fr.val,Fr.row,Fr.piece,Fr.zero,Xr,XO,Xs];exact H8 X⟩
 ·exact⟨_,_,(YV hz (X1 hxy)).as (by simp[Y1]),YV (YV (YV (YV hz hx) UU) hz) hy,by simp only[Fr.val,Fr.row,Fr.piece,Fr.bar,Fr.zero,Xr,XO,Xs];exact L9 Z X Y⟩
 ·refine⟨_,_,(YV (X1 (YV hx hy)) (Pn 50)).as (by simp[Y1]),YV (YV (YV hx hy) hx) hy,?_⟩;show(Fr.val ⟨No,Fr.zero.row,Pc (Fr.val ⟨No,Fr.row (Fr.piece Fr.zero X),Y⟩) 2 2⟩)=_;simp only[Fr.val,Fr.row,Fr.piece,Fr.zero,Xr,XO,Xs,Pc];simp only[show(0:Nat)<2 by omega,show(1:Nat)<2 by omega,if_true];rw[Q0 (Cc X Y) X Y]
 ·exact⟨_,_,(YV (X1 (YV hx UU)) hy).as (by simp[Y1]),YV (YV hx ST) hy,by simp only[Fr.val,Fr.row,Fr.piece,Fr.bar,Fr.zero,Xr,XO,Xs];rw[<-Hl]⟩
end Go.Proofs.Ytoaaklhpmhjhkab
