import Derived.Test.YtoaaklhpmhjhkabGreatC22
set_option maxRecDepth 100000
set_option maxHeartbeats 4000000
set_option linter.all false
namespace Go.Proofs.YtoaaklhpmhjhkabGreat
section
open Go.RowKit
structure Rt (x:List UInt8) (V:Nat) (d:Nat):Prop where
 run:∀(m b o:Int),(m=0\/m=1)->0<=o->∃b',∀(i:Nat) (r:List UInt8),Rf.formFrom m b o i (x++r)=Rf.formFrom 1 b' o (i+x.length) r/\(o+d<=6->Rf.deepFrom m b o i (x++r)=Rf.deepFrom 1 b' o (i+x.length) r)
 val:∀(p:List UInt8) (i:Nat) (r:List UInt8),p.drop i=x++r->∀f v,Rf.valueFrom p f i=some v->∃f',Rf.valueFrom p f' (i+x.length)=some v
 emp:∀(p:List UInt8) (i:Nat) (r:List UInt8),p.drop i=x++r->∀f v,Rf.emptyFrom p f i=some v->∃f',Rf.emptyFrom p f' (i+x.length)=some v
 tok:∃ts:List Tk,Ye ts=x/\(∃t r',ts=t::r'/\¬Ym t)/\∀G r W,Is G true r W->(∀t r',r=t::r'->¬Ym t)->∃F,Is F true (ts++r) (V+W)
variable {ck:List Int}{r:List UInt8}{V b d i k n:Nat}{nx:Nat->Int}{c:UInt8}
theorem Gw {x y:List UInt8}{W:Nat} (h:Rt x V d) (k:Rt y W d):Rt (x++y) (V+W) d:=by
 refine⟨fun m b o hm ho=>?_,fun p i r hp f v hv=>?_,fun p i r hp f v hv=>?_,?_⟩
 ·obtain⟨b1,h1⟩:=h.run m b o hm ho;obtain⟨b2,h2⟩:=k.run 1 b1 o (Or.inr rfl) ho;refine⟨b2,fun i r=>?_⟩;rw[List.append_assoc,List.length_append,<-Nat.add_assoc];refine⟨by rw[(h1 i _).1,(h2 _ r).1],fun h6=>by rw[(h1 i _).2 h6,(h2 _ r).2 h6]⟩
 ·rw[List.append_assoc]at hp;obtain⟨f1,h1⟩:=h.val p i _ hp f v hv;have hp2:p.drop (i+x.length)=y++r:=by rw[<-List.drop_drop,hp,List.drop_left]
  obtain⟨f2,h2⟩:=k.val p _ r hp2 f1 v h1;exact⟨f2,by rw[List.length_append,<-Nat.add_assoc];exact h2⟩
 ·rw[List.append_assoc]at hp;obtain⟨f1,h1⟩:=h.emp p i _ hp f v hv;have hp2:p.drop (i+x.length)=y++r:=by rw[<-List.drop_drop,hp,List.drop_left]
  obtain⟨f2,h2⟩:=k.emp p _ r hp2 f1 v h1;exact⟨f2,by rw[List.length_append,<-Nat.add_assoc];exact h2⟩
 ·obtain⟨ts,t1,⟨t,r',t2,t3⟩,t4⟩:=h.tok;obtain⟨us,u1,⟨u,q',u2,u3⟩,u4⟩:=k.tok;refine⟨ts++us,by rw[Yg,t1,u1],⟨t,r'++us,by rw[t2];rfl,t3⟩,fun G r X hI hn=>?_⟩;obtain⟨F1,h1⟩:=u4 G r X hI hn;obtain⟨F2,h2⟩:=t4 F1 (us++r) _ h1 (fun a b e=>by rw[u2]at e;have:=(List.cons.inj e).1;rw[<-this];exact u3);exact⟨F2,by
    rw[List.append_assoc];have e:((V+W:Nat):Int)+X=V+(W+X):=by omega
    rw[e];exact h2⟩
theorem It {p:List UInt8} (hp:p.drop i=c::r) (h1:c≠92) (h2:c≠91) (h3:c≠123) {f:Nat}{v:Int} (h:Rf.valueFrom p f i=some v):∃f',Rf.valueFrom p f' (i+1)=some v:=by
 cases f with
 |zero=>cases h
 |succ f=>rw[Rf.valueFrom,hp]at h;simp only[h1,h2,h3,if_false]at h;exact⟨f,h⟩
theorem G0 {p:List UInt8} (hp:p.drop i=c::r) (h1:c≠92) (h2:c≠91) {f:Nat}{v:Int} (h:Rf.emptyFrom p f i=some v):∃f',Rf.emptyFrom p f' (i+1)=some v:=by
 cases f with
 |zero=>cases h
 |succ f=>rw[Rf.emptyFrom,hp]at h;simp only[h1,h2,if_false]at h;exact⟨f,h⟩
theorem Gl (t:Tk) (h:t.kd<5):¬Ym t:=by unfold Ym;omega
theorem Iz:Is 1 true [] 0:=Or.inl ⟨rfl,rfl⟩
structure Fv (x:List UInt8) (V:Nat) (d:Nat):Prop where
 run:∀(b o:Int),0<=o->∃(m' b':Int),(m'=0\/m'=1)/\∀(i:Nat) (r:List UInt8),Rf.formFrom 0 b o i (x++r)=Rf.formFrom m' b' o (i+x.length) r/\(o+d<=6->Rf.deepFrom 0 b o i (x++r)=Rf.deepFrom m' b' o (i+x.length) r)
 val:∀(p:List UInt8) (i:Nat) (r:List UInt8),p.drop i=x++r->∀f v,Rf.valueFrom p f i=some v->∃f',Rf.valueFrom p f' (i+x.length)=some v
 emp:∀(p:List UInt8) (i:Nat) (r:List UInt8),p.drop i=x++r->∀f v,Rf.emptyFrom p f i=some v->∃f',Rf.emptyFrom p f' (i+x.length)=some v
 tok:∃(ts:List Tk) (F:Nat),Ye ts=x/\Is F true ts V
theorem H8 {x:List UInt8} (h:Rt x V d):Fv x V d:=by
 refine⟨fun b o ho=>?_,h.val,h.emp,?_⟩
 ·obtain⟨b',hb⟩:=h.run 0 b o (Or.inl rfl) ho;exact⟨1,b',Or.inr rfl,hb⟩
 ·obtain⟨ts,t1,_,t4⟩:=h.tok;obtain⟨F,hF⟩:=t4 1 [] 0 Iz (fun t r e=>by cases e);rw[List.append_nil,Int.add_zero]at hF;exact⟨ts,F,t1,hF⟩
theorem H7:Fv [] 0 0:=
 ⟨fun b o _=>⟨0,b,Or.inl rfl,fun i r=>⟨rfl,fun _=>rfl⟩⟩,fun p i r hp f v hv=>⟨f,hv⟩,fun p i r hp f v hv=>⟨f,hv⟩,[],1,rfl,Iz⟩
end
section
namespace Pk
def ld (nx:Nat->Int) (n:Nat) (s:Int) (c:Nat):Int:=if s=-1 then -1 else nx (s.toNat*n+c)
theorem ld_none (nx:Nat->Int) (n c:Nat):ld nx n (-1) c=-1:=if_pos rfl
theorem ld_nat (nx:Nat->Int) (n s c:Nat):ld nx n (s:Int) c=nx (s*n+c):=by
 rw[ld,if_neg (by omega),Int.toNat_natCast]
def dif (nx:Nat->Int) (n:Nat) (s d:Int):Nat->List Nat
 |0=>[]
 |k+1=>if ld nx n s k=ld nx n d k then dif nx n s d k else dif nx n s d k++[k]
variable {n:Nat}{nx:Nat->Int}
theorem dif_mem {s d:Int}{c:Nat}:∀ {k:Nat},c∈dif nx n s d k<->c<k/\ld nx n s c≠ld nx n d c
 |0=>by simp[dif]
 |k+1=>by
  rw[dif];split
  ·rename_i h;rw[dif_mem];constructor
   ·rintro ⟨h1,h2⟩;exact⟨by omega,h2⟩
   ·rintro ⟨h1,h2⟩;refine⟨?_,h2⟩;by_cases e:c=k
    ·subst e;exact absurd h h2
    ·omega
  ·rename_i h;rw[List.mem_append,dif_mem,List.mem_singleton];constructor
   ·rintro (⟨h1,h2⟩|rfl)
    ·exact⟨by omega,h2⟩
    ·exact⟨by omega,h⟩
   ·rintro ⟨h1,h2⟩;by_cases e:c=k
    ·exact Or.inr e
    ·exact Or.inl ⟨by omega,h2⟩
theorem dif_len (nx:Nat->Int) (n:Nat) (s d:Int):∀k:Nat,(dif nx n s d k).length<=k
 |0=>by simp[dif]
 |k+1=>by
  rw[dif];have:=dif_len nx n s d k;split
  ·omega
  ·simp;omega
variable {k:Nat}
theorem dif_eq {s d:Int} (h:ld nx n s k=ld nx n d k):dif nx n s d (k+1)=dif nx n s d k:=by rw[dif,if_pos h]
theorem dif_ne {s d:Int} (h:¬ld nx n s k=ld nx n d k):dif nx n s d (k+1)=dif nx n s d k++[k]:=by rw[dif,if_neg h]
def near (nx:Nat->Int) (n s:Nat):Nat->Int × List Nat
 |0=>(-1,dif nx n s (-1) n)
 |d+1=>if (dif nx n s d n).length<(near nx n s d).2.length then ((d:Int),dif nx n s d n) else near nx n s d
variable {d:Nat}
theorem near_lt {s:Nat} (h:(dif nx n s d n).length<(near nx n s d).2.length):near nx n s (d+1)=((d:Int),dif nx n s d n):=by rw[near,if_pos h]
theorem near_ge {s:Nat} (h:¬(dif nx n s d n).length<(near nx n s d).2.length):near nx n s (d+1)=near nx n s d:=by rw[near,if_neg h]
theorem near_own (nx:Nat->Int) (n s:Nat):∀d,(near nx n s d).2=dif nx n s (near nx n s d).1 n
 |0=>rfl
 |d+1=>by
  by_cases h:(dif nx n s d n).length<(near nx n s d).2.length
  ·rw[near_lt h]
  ·rw[near_ge h];exact near_own nx n s d
theorem near_def (nx:Nat->Int) (n s:Nat):∀d,-1<=(near nx n s d).1/\(near nx n s d).1<d
 |0=>by simp[near]
 |d+1=>by
  have:=near_def nx n s d;by_cases h:(dif nx n s d n).length<(near nx n s d).2.length
  ·rw[near_lt h];simp only;omega
  ·rw[near_ge h];omega
def df (nx:Nat->Int) (n s:Nat):Int:=(near nx n s s).1
def own (nx:Nat->Int) (n s:Nat):List Nat:=(near nx n s s).2
theorem df_bd (nx:Nat->Int) (n s:Nat):-1<=df nx n s/\df nx n s<s:=near_def nx n s s
theorem own_lt {s c:Nat} (h:c∈own nx n s):c<n:=by
 unfold own at h;rw[near_own]at h;exact(dif_mem.1 h).1
theorem own_not {s c:Nat} (hc:c<n) (h:c ∉ own nx n s):ld nx n s c=ld nx n (df nx n s) c:=by
 unfold own at h;rw[near_own,dif_mem]at h;by_cases e:ld nx n s c=ld nx n (df nx n s) c
 ·exact e
 ·exact absurd ⟨hc,e⟩ h
def fr (ck:List Int) (b:Nat) (l:List Nat):Bool:=l.all fun c=>ck.getD (b+c) (-1)==-1
variable {ck:List Int}{b:Nat}
theorem fr_iff {l:List Nat}:fr ck b l=true<->∀c∈l,ck.getD (b+c) (-1)=-1:=by
 unfold fr;rw[List.all_eq_true];simp
theorem fr_len (ck:List Int) (l:List Nat):fr ck ck.length l=true:=by
 rw[fr_iff];intro c _;rw[List.getD_eq_getElem?_getD,List.getElem?_eq_none (by omega)];rfl
def lf (p:Nat->Bool):Nat->Nat->Nat
 |0,b=>b
 |u+1,b=>if p b then b else lf p u (b+1)
theorem lf_spec (p:Nat->Bool):∀(u b:Nat),p (b+u)=true->p (lf p u b)=true/\lf p u b<=b+u/\∀i,b<=i->i<lf p u b->p i=false
 |0,b,h=>⟨by simpa[lf]using h,by simp[lf],fun i h1 h2=>by simp only[lf]at h2;omega⟩
 |u+1,b,h=>by
  rw[lf];by_cases e:p b=true
  ·rw[if_pos e];exact⟨e,by omega,fun i h1 h2=>by omega⟩
  ·rw[if_neg e];obtain⟨h1,h2,h3⟩:=lf_spec p u (b+1) (by rw[show b+1+u=b+(u+1) by omega];exact h);refine⟨h1,by omega,fun i hi hl=>?_⟩;by_cases e2:i=b
   ·subst e2;simpa using e
   ·exact h3 i (by omega) hl
def bas (ck:List Int) (l:List Nat):Nat:=lf (fun b=>fr ck b l) ck.length 0
theorem bas_spec (ck:List Int) (l:List Nat):fr ck (bas ck l) l=true/\bas ck l<=ck.length/\∀i,i<bas ck l->fr ck i l=false:=by
 obtain⟨h1,h2,h3⟩:=lf_spec (fun b=>fr ck b l) ck.length 0 (by rw[Nat.zero_add];exact fr_len ck l);exact⟨h1,by rw[Nat.zero_add]at h2;exact h2,fun i hi=>h3 i (by omega) hi⟩
theorem bas_eq {l:List Nat} (h:fr ck b l=true) (h':∀i,i<b->fr ck i l=false):bas ck l=b:=by
 obtain⟨h1,_,h3⟩:=bas_spec ck l;rcases Nat.lt_trichotomy (bas ck l) b with h4|h4|h4
 ·rw[h' _ h4]at h1;cases h1
 ·exact h4
 ·rw[h3 _ h4]at h;cases h
def put (l:List Int) (k:Nat) (v:Int):List Int:=(l++List.replicate (k+1-l.length) (-1)).set k v
theorem put_len (l:List Int) (k:Nat) (v:Int):(put l k v).length=max l.length (k+1):=by
 unfold put;simp;omega
theorem put_at (l:List Int) (k:Nat) (v:Int) (i:Nat):(put l k v).getD i (-1)=if i=k then v else l.getD i (-1):=by
 unfold put;rw[List.getD_eq_getElem?_getD,List.getD_eq_getElem?_getD,List.getElem?_set];by_cases e:k=i
 ·subst e;rw[if_pos rfl,if_pos rfl,if_pos (by simp;omega)];rfl
 ·rw[if_neg e,if_neg (fun h=>e h.symm)];by_cases h:i<l.length
  ·rw[List.getElem?_append_left h]
  ·rw[List.getElem?_append_right (by omega),List.getElem?_eq_none (l:=l) (by omega),List.getElem?_replicate];split<;>rfl
def lay (nx:Nat->Int) (n s b:Nat):List Nat->List Int × List Int->List Int × List Int
 |[],p=>p
 |c::r,p=>lay nx n s b r (put p.1 (b+c) s,put p.2 (b+c) (ld nx n s c))
theorem lay_append (nx:Nat->Int) (n s b:Nat):∀(l r:List Nat) (p:List Int × List Int),lay nx n s b (l++r) p=lay nx n s b r (lay nx n s b l p)
 |[],_,_=>rfl
 |c::l,r,p=>by rw[List.cons_append,lay,lay_append nx n s b l,lay]
theorem lay_at (nx:Nat->Int) (n s b:Nat):∀(l:List Nat) (p:List Int × List Int) (i:Nat),
  ((∃c∈l,i=b+c/\(lay nx n s b l p).1.getD i (-1)=s/\(lay nx n s b l p).2.getD i (-1)=ld nx n s c)) \/
  ((∀c∈l,i≠b+c)/\(lay nx n s b l p).1.getD i (-1)=p.1.getD i (-1)/\(lay nx n s b l p).2.getD i (-1)=p.2.getD i (-1))
 |[],p,i=>Or.inr ⟨by simp,rfl,rfl⟩
 |c::r,p,i=>by
  rw[lay];rcases lay_at nx n s b r (put p.1 (b+c) s,put p.2 (b+c) (ld nx n s c)) i with ⟨c',h1,h2⟩|⟨h1,h2,h3⟩
  ·exact Or.inl ⟨c',List.mem_cons_of_mem _ h1,h2⟩
  ·rw[h2,h3,put_at,put_at];by_cases e:i=b+c
   ·left;exact⟨c,List.mem_cons_self,e,if_pos e,if_pos e⟩
   ·right;refine⟨fun c' hc'=>?_,if_neg e,if_neg e⟩;rcases List.mem_cons.1 hc' with rfl|h
    ·exact e
    ·exact h1 c' h
theorem lay_len (nx:Nat->Int) (n s b:Nat):∀(l:List Nat) (p:List Int × List Int),p.1.length=p.2.length->(∀c∈l,c<n) ->
  (lay nx n s b l p).1.length=(lay nx n s b l p).2.length/\p.1.length<=(lay nx n s b l p).1.length/\(lay nx n s b l p).1.length<=max p.1.length (b+n)
 |[],p,h,_=>⟨h,Nat.le_refl _,by rw[lay];omega⟩
 |c::r,p,h,hl=>by
  rw[lay];have hc:=hl c List.mem_cons_self;obtain⟨h1,h2,h3⟩:=lay_len nx n s b r (put p.1 (b+c) s,put p.2 (b+c) (ld nx n s c)) (by simp only[put_len,h]) (fun c' h'=>hl c' (List.mem_cons_of_mem _ h'));simp only[put_len]at h2 h3;exact⟨h1,by omega,by omega⟩
theorem lay_last (nx:Nat->Int) (n s b:Nat):∀(l:List Nat) (p:List Int × List Int),(p.1.length=0\/p.1.getD (p.1.length-1) (-1)≠-1) ->
  ((lay nx n s b l p).1.length=0\/(lay nx n s b l p).1.getD ((lay nx n s b l p).1.length-1) (-1)≠-1)
 |[],p,h=>h
 |c::r,p,h=>by
  rw[lay];refine lay_last nx n s b r _ (Or.inr ?_);simp only[put_len,put_at];by_cases e:max p.1.length (b+c+1)-1=b+c
  ·rw[if_pos e];omega
  ·rw[if_neg e];have:max p.1.length (b+c+1)=p.1.length:=by omega
   rw[this];rcases h with h|h
   ·omega
   ·exact h
structure St where
 ck:List Int
 nt:List Int
 bs:List Int
 df:List Int
def step (nx:Nat->Int) (n:Nat) (S:St) (s:Nat):St:=
 ⟨(lay nx n s (bas S.ck (own nx n s)) (own nx n s) (S.ck,S.nt)).1,(lay nx n s (bas S.ck (own nx n s)) (own nx n s) (S.ck,S.nt)).2,S.bs++[(bas S.ck (own nx n s):Int)],S.df++[df nx n s]⟩
def run (nx:Nat->Int) (n:Nat):Nat->St
 |0=>⟨[],[],[],[]⟩
 |k+1=>step nx n (run nx n k) k
structure Inv (nx:Nat->Int) (n k:Nat) (S:St):Prop where
 l1:S.ck.length=S.nt.length
 l2:S.ck.length<=k*n
 l3:S.bs.length=k
 l4:S.df.length=k
 b3:∀i,i<k->0<=S.bs.getD i 0/\S.bs.getD i 0<=S.ck.length
 b4:∀i,i<k->S.df.getD i 0=df nx n i
 cs:∀j,j<S.ck.length->(S.ck.getD j (-1)=-1/\S.nt.getD j (-1)=-1)\/∃i c:Nat,i<k/\c<n/\S.ck.getD j (-1)=i/\(j:Int)=S.bs.getD i 0+c/\S.nt.getD j (-1)=ld nx n i c
 on:∀i c,i<k->c∈own nx n i->S.ck.getD (S.bs.getD i 0+c).toNat (-1)=i
 la:S.ck.length=0\/S.ck.getD (S.ck.length-1) (-1)≠-1
theorem getD_left (l r:List Int) (i:Nat) (d:Int) (h:i<l.length):(l++r).getD i d=l.getD i d:=by
 rw[List.getD_eq_getElem?_getD,List.getD_eq_getElem?_getD,List.getElem?_append_left h]
theorem getD_last (l:List Int) (x d:Int):(l++[x]).getD l.length d=x:=by simp
theorem getD_out (l:List Int) (i:Nat) (d:Int) (h:l.length<=i):l.getD i d=d:=by
 rw[List.getD_eq_getElem?_getD,List.getElem?_eq_none h];rfl
theorem inv (nx:Nat->Int) (n:Nat):∀k,Inv nx n k (run nx n k)
 |0=>⟨rfl,by simp[run],rfl,rfl,fun i h=>by omega,fun i h=>by omega,fun j h=>by simp[run]at h,fun i c h=>by omega,Or.inl rfl⟩
 |k+1=>by
  have I:=inv nx n k;rw[run];generalize run nx n k=S at I;obtain⟨f1,f2,f3⟩:=bas_spec S.ck (own nx n k);unfold step;generalize hb:bas S.ck (own nx n k)=b at f1 f2 f3;have hl:=lay_len nx n k b (own nx n k) (S.ck,S.nt) I.l1 (fun c hc=>own_lt hc);have ha:=lay_at nx n k b (own nx n k) (S.ck,S.nt);have hz:=lay_last nx n k b (own nx n k) (S.ck,S.nt) I.la;generalize lay nx n k b (own nx n k) (S.ck,S.nt)=p at hl ha hz;obtain⟨g1,g2,g3⟩:=hl;simp only at g1 g2 g3 ha hz;have i2:=I.l2;have bsl:∀i,i<k->(S.bs++[(b:Int)]).getD i 0=S.bs.getD i 0:=fun i hi=>getD_left _ _ _ _ (by rw[I.l3];exact hi)
  have bsk:(S.bs++[(b:Int)]).getD k 0=b:=by have:=getD_last S.bs (b:Int) 0;rwa [I.l3]at this
  refine⟨g1,?_,by simp[I.l3],by simp[I.l4],fun i hi=>?_,fun i hi=>?_,fun j hj=>?_,fun i c hi hc=>?_,hz⟩
  ·simp only;rw[Nat.succ_mul];omega
  ·simp only;by_cases e:i=k
   ·subst e;rw[bsk];omega
   ·rw[bsl i (by omega)];have:=I.b3 i (by omega);omega
  ·simp only;by_cases e:i=k
   ·subst e;have:=getD_last S.df (df nx n i) 0;rwa [I.l4]at this
   ·rw[getD_left _ _ _ _ (by rw[I.l4];omega)];exact I.b4 i (by omega)
  ·simp only at hj ⊢;rcases ha j with ⟨c,h1,h2,h3,h4⟩|⟨h1,h2,h3⟩
   ·right;refine⟨k,c,by omega,own_lt h1,h3,?_,h4⟩;rw[bsk];omega
   ·by_cases hj2:j<S.ck.length
    ·rcases I.cs j hj2 with ⟨h4,h5⟩|⟨i,c,h4,h5,h6,h7,h8⟩
     ·left;exact⟨by rw[h2];exact h4,by rw[h3];exact h5⟩
     ·right;refine⟨i,c,by omega,h5,by rw[h2];exact h6,by rw[bsl i h4];exact h7,by rw[h3];exact h8⟩
    ·left;have:=I.l1;exact⟨by rw[h2,getD_out _ _ _ (by omega)],by rw[h3,getD_out _ _ _ (by omega)]⟩
  ·simp only;by_cases e:i=k
   ·subst e;rw[bsk];rw[show((b:Int)+(c:Int)).toNat=b+c by omega];rcases ha (b+c)with ⟨c',h1,h2,h3,h4⟩|⟨h1,_⟩
    ·exact h3
    ·exact absurd rfl (h1 c hc)
   ·rw[bsl i (by omega)];have ho:=I.on i c (by omega) hc;rcases ha (S.bs.getD i 0+c).toNat with ⟨c',h1,h2,h3,h4⟩|⟨h1,h2,_⟩
    ·have:=fr_iff.1 f1 c' h1;rw[<-h2,ho]at this;omega
    ·rw[h2];exact ho
theorem leads {S:St} (I:Inv nx n k S) (i c:Nat) (hi:i<k) (hc:c<n):
  if S.bs.getD i 0+c<S.ck.length/\S.ck.getD (S.bs.getD i 0+c).toNat (-1)=i then S.nt.getD (S.bs.getD i 0+c).toNat (-1)=ld nx n i c else ld nx n i c=ld nx n (S.df.getD i 0) c:=by
 have hb:=I.b3 i hi;split
 ·rename_i h;rcases I.cs (S.bs.getD i 0+c).toNat (by omega)with ⟨h1,_⟩|⟨i',c',h1,h2,h3,h4,h5⟩
  ·have:=h.2;omega
  ·have e:i'=i:=by have:=h.2;omega
   subst e;have e2:c'=c:=by omega
   subst e2;exact h5
 ·rename_i h;rw[I.b4 i hi];refine own_not hc (fun hm=>h ⟨?_,I.on i c hi hm⟩);have ho:=I.on i c hi hm;by_cases hl:(S.bs.getD i 0+c).toNat<S.ck.length
  ·omega
  ·rw[getD_out _ _ _ (by omega)]at ho;omega
end Pk
end
end Go.Proofs.YtoaaklhpmhjhkabGreat
