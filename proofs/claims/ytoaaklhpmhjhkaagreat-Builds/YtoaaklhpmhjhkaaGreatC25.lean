import Derived.Test.YtoaaklhpmhjhkaaGreatC24
set_option maxRecDepth 100000
set_option maxHeartbeats 4000000
set_option linter.all false
namespace Go.Proofs.YtoaaklhpmhjhkaaGreat
open Go.RowKit
variable {mo : Int}{p r : List UInt8}{f g i n : Nat}{F : Nat → Bool}{c : UInt8}
theorem q2w {l:List UInt8}{v:Int} (h:Rf.one l=some (v,n)) (r:List UInt8):Rf.one (l.take n++r)=some (v,n):=by
 unfold Rf.one at h;rcases l with _|⟨c,t⟩
 ·cases h
 simp only at h;by_cases h92:c=92
 ·rw[if_pos h92]at h;rcases t with _|⟨d,t⟩
  ·cases h
  simp only at h;by_cases h110:d=110
  ·rw[if_pos h110]at h;simp only[Option.some.injEq,Prod.mk.injEq]at h;obtain⟨rfl,rfl⟩:=h;simp[Rf.one,h92,h110]
  rw[if_neg h110]at h;by_cases h116:d=116
  ·rw[if_pos h116]at h;simp only[Option.some.injEq,Prod.mk.injEq]at h;obtain⟨rfl,rfl⟩:=h;simp[Rf.one,h92,h116]
  rw[if_neg h116]at h;by_cases h120:d=120
  ·rw[if_pos h120]at h;rcases t with _|⟨x,_|⟨y,t⟩⟩
   ·cases h
   ·cases h
   simp only at h;split at h
   ·rename_i hxy;simp only[Option.some.injEq,Prod.mk.injEq]at h;obtain⟨rfl,rfl⟩:=h;rw[Bool.and_eq_true]at hxy;simp[Rf.one,h92,h120,hxy.1,hxy.2]
   ·cases h
  ·rw[if_neg h120]at h;simp only[Option.some.injEq,Prod.mk.injEq]at h;obtain⟨rfl,rfl⟩:=h;simp[Rf.one,h92,h110,h116,h120]
 ·rw[if_neg h92]at h;simp only[Option.some.injEq,Prod.mk.injEq]at h;obtain⟨rfl,rfl⟩:=h;simp[Rf.one,h92]
theorem q4I:∀(f:Nat) (l:List UInt8) (i:Nat) (fa:Int) (inn:Nat->Bool) (j:Nat) (FA:Int) (F:Nat->Bool),Rf.items f l i fa inn=some (j,FA,F) ->
  ∀(r:List UInt8) (f' i':Nat) (fa':Int),j-i+1<=f'->∃FA',Rf.items f' (l.take (j-i+1)++r) i' fa' inn=some (i'+(j-i),FA',F):=by
 intro f
 induction f with
 |zero=>intro l i fa inn j FA F h;simp[Rf.items]at h
 |succ f ih=>
  intro l i fa inn j FA F h r f' i' fa' hf;obtain⟨f',rfl⟩:∃q,f'=q+1:=⟨f'-1,by omega⟩;have hge:=Rf.items_ge h;unfold Rf.items at h;rcases l with _|⟨c,t⟩
  ·cases h
  simp only at h;by_cases h93:c=93
  ·rw[if_pos h93]at h;simp only[Option.some.injEq,Prod.mk.injEq]at h;obtain⟨rfl,_,rfl⟩:=h;refine⟨fa',?_⟩;simp[Rf.items,h93]
  rw[if_neg h93]at h;rcases ho:Rf.one (c::t)with _|⟨a,n⟩
  ·rw[ho]at h;cases h
  rw[ho]at h;simp only at h;have hn:=Rf.one_le ho;have hnb:=Rf.one_bd ho;rcases hd:(c::t).drop n with _|⟨d,l'⟩
  ·rw[hd]at h;cases h
  rw[hd]at h;simp only at h;by_cases h45:d=45
  ·rw[if_pos h45]at h;rcases ho2:Rf.one l' with _|⟨b,n'⟩
   ·rw[ho2]at h;cases h
   rw[ho2]at h;simp only at h;have hge2:=Rf.items_ge h;have hnb2:=Rf.one_bd ho2;obtain⟨FA',hI⟩:=ih _ _ _ _ _ _ _ h r f' (i'+n+1+n') (if b<a/\fa'<0 then (i':Int) else fa') (by omega);refine⟨FA',?_⟩;have e1:(c::t).take (j-i+1)++r=(c::t).take n++(d::(l'.take n'++((l'.drop n').take (j-(i+n+1+n')+1)++r))):=by
    rw[show j-i+1=n+(1+(n'+(j-(i+n+1+n')+1))) by omega,List.take_add,hd,show 1+(n'+(j-(i+n+1+n')+1))=(n'+(j-(i+n+1+n')+1))+1 by omega,List.take_succ_cons,List.take_add];simp[List.append_assoc]
   have htn:((c::t).take n).length=n:=by rw[List.length_take];omega
   have hhead:∃r2,(c::t).take n++(d::(l'.take n'++((l'.drop n').take (j-(i+n+1+n')+1)++r)))=c::r2:=by
    obtain⟨n0,rfl⟩:∃q,n=q+1:=⟨n-1,by omega⟩;exact⟨_,by rw[List.take_succ_cons,List.cons_append]⟩
   obtain⟨r2,hr2⟩:=hhead;have hone:=q2w ho (d::(l'.take n'++((l'.drop n').take (j-(i+n+1+n')+1)++r)));rw[e1,hr2,Rf.items];simp only[if_neg h93];rw[<-hr2,hone];simp only;rw[show((c::t).take n++(d::(l'.take n'++((l'.drop n').take (j-(i+n+1+n')+1)++r)))).drop n=d::(l'.take n'++((l'.drop n').take (j-(i+n+1+n')+1)++r)) by
    rw[List.drop_append_of_le_length (by omega),List.drop_of_length_le (by omega)];rfl]
   simp only[if_pos h45];rw[q2w ho2];simp only;have hn':=Rf.one_le ho2;rw[show(l'.take n'++((l'.drop n').take (j-(i+n+1+n')+1)++r)).drop n'=(l'.drop n').take (j-(i+n+1+n')+1)++r by
    rw[List.drop_append_of_le_length (by rw[List.length_take];omega),List.drop_of_length_le (by rw[List.length_take];omega)];rfl]
   rw[hI];congr 2;omega
  ·rw[if_neg h45]at h;have hge2:=Rf.items_ge h;obtain⟨FA',hI⟩:=ih _ _ _ _ _ _ _ h r f' (i'+n) fa' (by omega);refine⟨FA',?_⟩;have e1:(c::t).take (j-i+1)++r=(c::t).take n++((d::l').take (j-(i+n)+1)++r):=by
    rw[show j-i+1=n+(j-(i+n)+1) by omega,List.take_add,hd,List.append_assoc]
   have htn:((c::t).take n).length=n:=by rw[List.length_take];omega
   have hhead:∃r2,(c::t).take n++((d::l').take (j-(i+n)+1)++r)=c::r2:=by
    obtain⟨n0,rfl⟩:∃q,n=q+1:=⟨n-1,by omega⟩;exact⟨_,by rw[List.take_succ_cons,List.cons_append]⟩
   obtain⟨r2,hr2⟩:=hhead;have hone:=q2w ho ((d::l').take (j-(i+n)+1)++r);rw[e1,hr2,Rf.items];simp only[if_neg h93];rw[<-hr2,hone];simp only;rw[show((c::t).take n++((d::l').take (j-(i+n)+1)++r)).drop n=(d::l').take (j-(i+n)+1)++r by
    rw[List.drop_append_of_le_length (by omega),List.drop_of_length_le (by omega)];rfl]
   rw[List.take_succ_cons,List.cons_append]at hI ⊢;simp only[if_neg h45];rw[hI];congr 2;omega
theorem q6Q {l:List UInt8}{FA:Int} (h:Rf.set l i=some (n,FA,F)) (r:List UInt8) (i':Nat):∃FA',Rf.set (l.take (n-i-1)++r) i'=some (i'+(n-i),FA',F):=by
 have hge:=Rf.set_ge h;unfold Rf.set at h;rcases l with _|⟨c,t⟩
 ·cases h
 simp only at h;by_cases h94:c=94
 ·rw[if_pos h94]at h;rcases hx:Rf.items (t.length+1) t (i+2) (-1) (fun _=>false)with _|⟨a,b,d⟩
  ·rw[hx]at h;cases h
  rw[hx]at h;have hg:=Rf.items_ge hx;simp only[Option.map_some,Option.some.injEq,Prod.mk.injEq]at h;obtain⟨rfl,_,rfl⟩:=h;have hlt:=Rf.items_lt hx;have e1:(c::t).take (a+1-i-1)++r=c::(t.take (a-(i+2)+1)++r):=by
   rw[show a+1-i-1=(a-(i+2)+1)+1 by omega,List.take_succ_cons,List.cons_append]
  have hl:a-(i+2)+1<=(t.take (a-(i+2)+1)++r).length+1:=by
   rw[List.length_append,List.length_take];omega
  obtain⟨FA',hI⟩:=q4I _ _ _ _ _ _ _ _ hx r ((t.take (a-(i+2)+1)++r).length+1) (i'+2) (-1) hl;rw[e1,Rf.set];simp only[if_pos h94,hI,Option.map_some];exact⟨FA',by rw[show i'+2+(a-(i+2))+1=i'+(a+1-i) by omega]⟩
 ·rw[if_neg h94]at h;rcases hx:Rf.items (t.length+2) (c::t) (i+1) (-1) (fun _=>false)with _|⟨a,b,d⟩
  ·rw[hx]at h;cases h
  rw[hx]at h;have hg:=Rf.items_ge hx;simp only[Option.map_some,Option.some.injEq,Prod.mk.injEq]at h;obtain⟨rfl,_,rfl⟩:=h;have hlt:=Rf.items_lt hx;have e1:(c::t).take (a+1-i-1)++r=c::(t.take (a-(i+1))++r):=by
   rw[show a+1-i-1=(a-(i+1))+1 by omega,List.take_succ_cons,List.cons_append]
  have e2:(c::t).take (a-(i+1)+1)++r=c::(t.take (a-(i+1))++r):=by
   rw[List.take_succ_cons,List.cons_append]
  have hl:a-(i+1)+1<=(t.take (a-(i+1))++r).length+2:=by
   simp only[List.length_cons]at hlt;rw[List.length_append,List.length_take];omega
  obtain⟨FA',hI⟩:=q4I _ _ _ _ _ _ _ _ hx r ((t.take (a-(i+1))++r).length+2) (i'+1) (-1) hl;rw[e2]at hI;rw[e1,Rf.set];simp only[if_neg h94,hI,Option.map_some];exact⟨FA',by rw[show i'+1+(a-(i+1))+1=i'+(a+1-i) by omega]⟩
structure Tk where
 w:List UInt8
 kd:Int
 mo:Int
def txt (ts:List Tk):List UInt8:=ts.flatMap (·.w)
theorem q0K (a b:List Tk):txt (a++b)=txt a++txt b:=by simp[txt]
theorem q0P (t:Tk) (b:List Tk):txt (t::b)=t.w++txt b:=by simp[txt]
def Special (c:UInt8):Prop:=c=92\/c=91\/c=123\/c=40\/c=41\/c=124\/c=42\/c=43\/c=63\/c=93\/c=125
def IsPlaceW (w:List UInt8):Prop:=
 (∃c,w=[c]/\¬Special c)\/(∃e v,w=92::e/\∀r,Rf.one (92::(e++r))=some (v,e.length+1)) \/
 (∃e,w=91::e/\∀r i,∃fa inn,Rf.set (e++r) i=some (i+(e.length+1),fa,inn))
def IsCountW (w:List UInt8) (mo:Int):Prop:=
 (∃x:UInt8,w=[123,x,125]/\48<=(x.toNat:Int)/\(x.toNat:Int)<=57/\mo=(x.toNat:Int)-48) \/
 (∃x z:UInt8,w=[123,x,44,z,125]/\48<=(x.toNat:Int)/\(x.toNat:Int)<=57/\48<=(z.toNat:Int)/\(z.toNat:Int)<=57/\mo=(z.toNat:Int)-48)
def TkOK (t:Tk):Prop:=
 (t.kd=1/\IsPlaceW t.w)\/(t.kd=2/\t.w=[40])\/(t.kd=3/\t.w=[41])\/(t.kd=4/\t.w=[124])\/(t.kd=5/\t.w=[42])\/(t.kd=6/\t.w=[43])\/(t.kd=7/\t.w=[63])\/(t.kd=8/\IsCountW t.w t.mo)
def isSuf (t:Tk):Prop:=t.kd=5\/t.kd=6\/t.kd=7\/t.kd=8
def Is:Nat->Bool->List Tk->Int->Prop
 |0,_,_,_=>False
 |f+1,true,ts,V=>(ts=[]/\V=0)\/(∃t r,ts=t::r/\TkOK t/\t.kd=4/\Is f true r V) \/
   (∃p r A B,ts=p++r/\Is f false p A/\Is f true r B/\V=A+B/\∀t r',r=t::r'->¬isSuf t)
 |f+1,false,ts,V=>(∃t,ts=[t]/\TkOK t/\t.kd=1/\V=1)\/(∃a inn b,ts=a::(inn++[b])/\TkOK a/\a.kd=2/\TkOK b/\b.kd=3/\Is f true inn V) \/
   (∃q t A,ts=q++[t]/\Is f false q A/\TkOK t/\isSuf t/\V=if t.kd=8 then A*t.mo else A)
theorem y3g:∀(f:Nat) (g:Bool) (ts:List Tk) (V:Int),Is f g ts V->Is (f+1) g ts V:=by
 intro f
 induction f with
 |zero=>intro g ts V h;exact absurd h (by simp[Is])
 |succ f ih=>
  intro g ts V h;cases g
  ·unfold Is at h ⊢;rcases h with h|⟨a,inn,b,h1,h2,h3,h4,h5,h6⟩|⟨q,t,A,h1,h2,h3,h4,h5⟩
   ·exact Or.inl h
   ·exact Or.inr (Or.inl ⟨a,inn,b,h1,h2,h3,h4,h5,ih _ _ _ h6⟩)
   ·exact Or.inr (Or.inr ⟨q,t,A,h1,ih _ _ _ h2,h3,h4,h5⟩)
  ·unfold Is at h ⊢;rcases h with h|⟨t,r,h1,h2,h3,h4⟩|⟨p,r,A,B,h1,h2,h3,h4,h5⟩
   ·exact Or.inl h
   ·exact Or.inr (Or.inl ⟨t,r,h1,h2,h3,ih _ _ _ h4⟩)
   ·exact Or.inr (Or.inr ⟨p,r,A,B,h1,ih _ _ _ h2,ih _ _ _ h3,h4,h5⟩)
theorem q6J {b:Bool}{ts:List Tk}{V:Int} (h:Is f b ts V) (hfg:f<=g):Is g b ts V:=by
 induction g with
 |zero=>
   have:f=0:=by omega
   subst this;exact h
 |succ g ih=>
  by_cases e:f=g+1
  ·subst e;exact h
  ·exact y3g _ _ _ _ (ih (by omega))
def Val:List Tk->Int->Int->Prop
 |[],_,op=>op=0
 |t::r,bf,op=>TkOK t/\Pg.canStand t.kd bf op=true/\Val r t.kd (Pg.opens t.kd op)
theorem y1E {t:Tk} (h:TkOK t):t.kd=1\/t.kd=2\/t.kd=3\/t.kd=4\/isSuf t:=by
 unfold isSuf;rcases h with h|h|h|h|h|h|h|h<;>omega
theorem q7g {t:Tk} (h:isSuf t) (op:Int):Pg.opens t.kd op=op:=by
 unfold Pg.opens isSuf at *;rw[if_neg (by omega),if_neg (by omega)]
theorem peel:∀(r:List Tk) (f:Nat) (q:List Tk) (A bf op:Int),Is f false q A->Val r bf op ->
  ∃f' q' A' r' bf',q++r=q'++r'/\Is f' false q' A'/\Val r' bf' op/\r'.length<=r.length/\∀t r'',r'=t::r''->¬isSuf t:=by
 intro r
 induction r with
 |nil=>intro f q A bf op h hv;exact⟨f,q,A,[],bf,rfl,h,hv,Nat.le_refl _,by simp⟩
 |cons t r ih=>
  intro f q A bf op h hv;by_cases hs:isSuf t
  ·obtain⟨h1,h2,h3⟩:=hv;rw[q7g hs]at h3;have hq:Is (f+1) false (q++[t]) (if t.kd=8 then A*t.mo else A):=Or.inr (Or.inr ⟨q,t,A,rfl,h,h1,hs,rfl⟩);obtain⟨f',q',A',r',bf',e1,e2,e3,e4,e5⟩:=ih (f+1) (q++[t]) _ _ op hq h3;exact⟨f',q',A',r',bf',by rw[<-e1];simp,e2,e3,by simp;omega,e5⟩
  ·exact⟨f,q,A,t::r,bf,rfl,h,hv,Nat.le_refl _,fun t' r'' e=>by cases e;exact hs⟩
theorem parse:∀(n:Nat) (ts:List Tk) (bf op:Int),ts.length<=n->0<=op->Val ts bf op->(∀t r,ts=t::r->¬isSuf t) ->
  ∃f inn rest V,ts=inn++rest/\Is f true inn V/\((rest=[]/\op=0)\/(∃b r,rest=b::r/\TkOK b/\b.kd=3/\0<op/\Val r 3 (op-1))):=by
 intro n
 induction n with
 |zero=>
  intro ts bf op hl h0 hv _;have:ts=[]:=List.eq_nil_of_length_eq_zero (by omega);subst this;exact⟨1,[],[],0,rfl,Or.inl ⟨rfl,rfl⟩,Or.inl ⟨rfl,hv⟩⟩
 |succ n ih=>
  intro ts bf op hl h0 hv hns;rcases ts with _|⟨t,r⟩
  ·exact⟨1,[],[],0,rfl,Or.inl ⟨rfl,rfl⟩,Or.inl ⟨rfl,hv⟩⟩
  obtain⟨h1,h2,h3⟩:=hv;simp only[List.length_cons]at hl;have go:∀(f:Nat) (q r0:List Tk) (A bf0:Int),Is f false q A->Val r0 bf0 op->r0.length<=n->t::r=q++r0 ->
    ∃f inn rest V,t::r=inn++rest/\Is f true inn V/\((rest=[]/\op=0)\/(∃b r,rest=b::r/\TkOK b/\b.kd=3/\0<op/\Val r 3 (op-1))):=by
   intro f q r0 A bf0 hq hv0 hl0 he;obtain⟨f',q',A',r',bf',e1,e2,e3,e4,e5⟩:=peel r0 f q A bf0 op hq hv0;obtain⟨f2,inn,rest,V,g1,g2,g3⟩:=ih r' bf' op (by omega) h0 e3 e5;refine⟨max f' f2+1,q'++inn,rest,A'+V,by rw[he,e1,g1,List.append_assoc],Or.inr (Or.inr ⟨q',inn,A',V,rfl,q6J e2 (Nat.le_max_left _ _),q6J g2 (Nat.le_max_right _ _),rfl,?_⟩),g3⟩;intro t' r'' e;exact e5 t' (r''++rest) (by rw[g1,e];rfl)
  rcases y1E h1 with hk|hk|hk|hk|hk
  ·rw[hk]at h3;exact go 1 [t] r 1 1 (Or.inl ⟨t,rfl,h1,hk,rfl⟩) h3 (by omega) rfl
  ·rw[hk]at h3;have h3':=h3;obtain⟨f2,inn,rest,V,g1,g2,g3⟩:=ih r 2 (op+1) (by omega) (by omega) h3' (by
    intro t' r' e hs;rw[e]at h3';have:=h3'.2.1;unfold isSuf at hs;simp[Pg.canStand,Pg.endsPiece,Pg.isSuffix]at this;rcases hs with h|h|h|h<;>simp[h]at this)
   rcases g3 with ⟨_,g⟩|⟨b,r2,rfl,k1,k2,k3,k4⟩
   ·omega
   ·rw[show op+1-1=op by omega]at k4;refine go (f2+1) (t::(inn++[b])) r2 V 3 (Or.inr (Or.inl ⟨t,inn,b,rfl,h1,hk,k1,k2,g2⟩)) k4 ?_ (by rw[g1];simp);rw[g1]at hl;simp at hl;omega
  ·refine⟨1,[],t::r,0,rfl,Or.inl ⟨rfl,rfl⟩,Or.inr ⟨t,r,rfl,h1,hk,?_,?_⟩⟩
   ·rw[hk]at h2;simpa[Pg.canStand]using h2
   ·rw[hk]at h3;exact h3
  ·rw[hk]at h3;have h3':=h3;obtain⟨f2,inn,rest,V,g1,g2,g3⟩:=ih r 4 op (by omega) h0 h3' (by
    intro t' r' e hs;rw[e]at h3';have:=h3'.2.1;unfold isSuf at hs;simp[Pg.canStand,Pg.endsPiece,Pg.isSuffix]at this;rcases hs with h|h|h|h<;>simp[h]at this)
   exact⟨f2+1,t::inn,rest,V,by rw[g1];rfl,Or.inr (Or.inl ⟨t,inn,rfl,h1,hk,g2⟩),g3⟩
  ·exact absurd hk (hns t r rfl)
def ptOf (t:Tk):Pg.Pt:=⟨t.kd,0,fun _=>false,0,t.mo,0⟩
theorem q1P (n:Int):Pg.capped n=if 96<n then 97 else n:=rfl
theorem q2K {a b:Int} (_ha:0<=a) (hb:0<=b):Pg.capped (Pg.capped a+b)=Pg.capped (a+b):=by
 simp only[q1P];repeat' split
 all_goals omega
theorem q9M {a m:Int} (_ha:0<=a) (hm:0<=m):Pg.capped (Pg.capped a*m)=Pg.capped (a*m):=by
 by_cases h:96<a
 ·rw[q1P a,if_pos h];by_cases h0:m=0
  ·subst h0;simp
  ·have h1:97*1<=97*m:=Int.mul_le_mul_of_nonneg_left (by omega) (by omega);have h2:97*m<=a*m:=Int.mul_le_mul_of_nonneg_right (by omega) hm;rw[q1P,q1P,if_pos (by omega),if_pos (by omega)]
 ·rw[q1P a,if_neg h]
theorem q2i {a:Int} (ha:0<=a):0<=Pg.capped a:=(Pg.capped_le a ha).1
theorem q8b {t:Tk} (h:TkOK t) (h8:t.kd=8):0<=t.mo/\IsCountW t.w t.mo:=by
 have hc:IsCountW t.w t.mo:=by
  rcases h with h|h|h|h|h|h|h|h
  all_goals first|(exact absurd h.1 (by omega))|exact h.2
 refine⟨?_,hc⟩;rcases hc with ⟨x,_,h1,h2,h3⟩|⟨x,z,_,_,_,h1,h2,h3⟩<;>omega
theorem q2Y (a b:List Pg.Pt):∀c,Pg.cRun (a++b) c=Pg.cRun b (Pg.cRun a c):=by
 induction a with
 |nil=>intro c;rfl
 |cons p r ih=>intro c;simp only[List.cons_append,Pg.cRun];exact ih _
theorem machine:∀(f:Nat) (g:Bool) (ts:List Tk) (V:Int),Is f g ts V->0<=V /\
  (g=false->∀c:Pg.C,0<=c.ah->0<=c.la->Pg.cRun (ts.map ptOf) c=⟨Pg.capped (c.ah+c.la),Pg.capped V,c.st⟩) /\
  (g=true->∀c:Pg.C,0<=c.ah->0<=c.la->∃ah la,Pg.cRun (ts.map ptOf) c=⟨ah,la,c.st⟩/\0<=ah/\0<=la/\Pg.capped (ah+la)=Pg.capped (c.ah+c.la+V)):=by
 intro f
 induction f with
 |zero=>intro g ts V h;exact absurd h (by simp[Is])
 |succ f ih=>
  intro g ts V h;cases g
  ·unfold Is at h;rcases h with ⟨t,rfl,h2,h3,rfl⟩|⟨a,inn,b,rfl,h2,h3,h4,h5,h6⟩|⟨q,t,A,rfl,h2,h3,h4,rfl⟩
   ·refine⟨by omega,fun _ c h1 h2=>?_,fun h=>by cases h⟩;simp only[List.map_cons,List.map_nil,Pg.cRun,Pg.cStep,ptOf,h3,if_true];rfl
   ·obtain⟨hV,_,hT⟩:=ih true inn V h6;refine⟨hV,fun _ c c1 c2=>?_,fun h=>by cases h⟩;obtain⟨ah,la,e1,e2,e3,e4⟩:=hT rfl ⟨0,0,Pg.capped (c.ah+c.la)::c.st⟩ (by simp) (by simp);simp only[List.map_cons,List.map_append,List.map_nil,Pg.cRun];have s1:Pg.cStep c (ptOf a)=⟨0,0,Pg.capped (c.ah+c.la)::c.st⟩:=by simp[Pg.cStep,ptOf,h3]
    rw[s1,q2Y,e1];simp only[Pg.cRun];have s2:Pg.cStep ⟨ah,la,Pg.capped (c.ah+c.la)::c.st⟩ (ptOf b)=⟨Pg.capped (c.ah+c.la),Pg.capped (ah+la),c.st⟩:=by simp[Pg.cStep,ptOf,h5]
    rw[s2,e4];simp
   ·obtain⟨hA,hF,_⟩:=ih false q A h2;have hV:0<=(if t.kd=8 then A*t.mo else A):=by
     split
     ·rename_i h8;exact Int.mul_nonneg hA (q8b h3 h8).1
     ·exact hA
    refine⟨hV,fun _ c c1 c2=>?_,fun h=>by cases h⟩;rw[List.map_append,q2Y,hF rfl c c1 c2];simp only[List.map_cons,List.map_nil,Pg.cRun];by_cases h8:t.kd=8
    ·rw[if_pos h8];simp only[Pg.cStep,ptOf,h8];rw[if_neg (by decide),if_neg (by decide),if_neg (by decide),if_neg (by decide),if_pos trivial,q9M hA (q8b h3 h8).1]
    ·rw[if_neg h8];unfold isSuf at h4;unfold Pg.cStep;rw[if_neg (show ¬(ptOf t).kd=1 by simp only[ptOf];omega),if_neg (show ¬(ptOf t).kd=2 by simp only[ptOf];omega),if_neg (show ¬(ptOf t).kd=3 by simp only[ptOf];omega),if_neg (show ¬(ptOf t).kd=4 by simp only[ptOf];omega),if_neg (show ¬(ptOf t).kd=8 from h8)]
  ·unfold Is at h;rcases h with ⟨rfl,rfl⟩|⟨t,r,rfl,h2,h3,h4⟩|⟨p,r,A,B,rfl,h2,h3,rfl,h5⟩
   ·refine⟨by omega,(fun h=>by cases h),fun _ c c1 c2=>⟨c.ah,c.la,rfl,c1,c2,by simp⟩⟩
   ·obtain⟨hV,_,hT⟩:=ih true r V h4;refine⟨hV,(fun h=>by cases h),fun _ c c1 c2=>?_⟩;obtain⟨ah,la,e1,e2,e3,e4⟩:=hT rfl ⟨Pg.capped (c.ah+c.la),0,c.st⟩ (q2i (by omega)) (by simp);refine⟨ah,la,?_,e2,e3,?_⟩
    ·simp only[List.map_cons,Pg.cRun];have s1:Pg.cStep c (ptOf t)=⟨Pg.capped (c.ah+c.la),0,c.st⟩:=by simp[Pg.cStep,ptOf,h3]
     rw[s1,e1]
    ·rw[e4];simp only[Int.add_zero];exact q2K (by omega) hV
   ·obtain⟨hA,hF,_⟩:=ih false p A h2;obtain⟨hB,_,hT⟩:=ih true r B h3;refine⟨by omega,(fun h=>by cases h),fun _ c c1 c2=>?_⟩;obtain⟨ah,la,e1,e2,e3,e4⟩:=hT rfl ⟨Pg.capped (c.ah+c.la),Pg.capped A,c.st⟩ (q2i (by omega)) (q2i hA);refine⟨ah,la,by rw[List.map_append,q2Y,hF rfl c c1 c2,e1],e2,e3,?_⟩;rw[e4];simp only;have k1:=q2K (a:=c.ah+c.la) (b:=Pg.capped A+B) (by omega) (by have:=q2i hA;omega);have k2:=q2K (a:=A) (b:=c.ah+c.la+B) hA (by omega);rw[show Pg.capped (c.ah+c.la)+Pg.capped A+B=Pg.capped (c.ah+c.la)+(Pg.capped A+B) by omega,k1,show c.ah+c.la+(Pg.capped A+B)=Pg.capped A+(c.ah+c.la+B) by omega,k2];congr 1;omega
theorem q6u {t:Tk} (h:TkOK t) (h3:t.kd≠3):∃C,C<=t.w.length/\1<=t.w.length/\∀(p:List UInt8) (i v:Nat) (o:Int) (r:List UInt8),p.drop i=t.w++r->Rf.groupFrom p (v+C) i o=Rf.groupFrom p v (i+t.w.length) (Pg.opens t.kd o):=by
 have one:∀(c:UInt8) (p:List UInt8) (i v:Nat) (o:Int) (r:List UInt8),c≠92->c≠91->c≠40->c≠41->p.drop i=c::r->Rf.groupFrom p (v+1) i o=Rf.groupFrom p v (i+1) o:=by
  intro c p i v o r n1 n2 n3 n4 hd;rw[Rf.groupFrom,hd];simp only[if_neg n1,if_neg n2,if_neg n3,if_neg n4]
 rcases h with ⟨hk,h⟩|⟨hk,hw⟩|⟨hk,hw⟩|⟨hk,hw⟩|⟨hk,hw⟩|⟨hk,hw⟩|⟨hk,hw⟩|⟨hk,h⟩
 ·have ho:∀o,Pg.opens t.kd o=o:=fun o=>by simp[Pg.opens,hk]
  rcases h with ⟨c,hw,hs⟩|⟨e,v0,hw,hone⟩|⟨e,hw,hset⟩
  ·refine⟨1,by simp[hw],by simp[hw],fun p i v o r hd=>?_⟩;rw[ho,hw];rw[hw]at hd;unfold Special at hs;exact one c p i v o r (fun e=>hs (by simp[e])) (fun e=>hs (by simp[e])) (fun e=>hs (by simp[e])) (fun e=>hs (by simp[e])) hd
  ·refine⟨1,by simp[hw],by simp[hw],fun p i v o r hd=>?_⟩;rw[ho,hw];rw[hw]at hd;rw[Rf.groupFrom,hd];simp only[List.cons_append];rw[if_pos trivial,hone r];rfl
  ·refine⟨1,by simp[hw],by simp[hw],fun p i v o r hd=>?_⟩;rw[ho,hw];rw[hw]at hd;obtain⟨fa,inn,hs⟩:=hset r i;rw[Rf.groupFrom,hd];simp only[List.cons_append];rw[if_neg (by decide),if_pos trivial,hs];rfl
 ·refine⟨1,by simp[hw],by simp[hw],fun p i v o r hd=>?_⟩;rw[hw]at hd;rw[Rf.groupFrom,hd,hw];simp[Pg.opens,hk]
 ·exact absurd hk h3
 ·refine⟨1,by simp[hw],by simp[hw],fun p i v o r hd=>?_⟩;rw[hw]at hd;rw[show Pg.opens t.kd o=o by simp[Pg.opens,hk],hw];exact one 124 p i v o r (by decide) (by decide) (by decide) (by decide) hd
 ·refine⟨1,by simp[hw],by simp[hw],fun p i v o r hd=>?_⟩;rw[hw]at hd;rw[show Pg.opens t.kd o=o by simp[Pg.opens,hk],hw];exact one 42 p i v o r (by decide) (by decide) (by decide) (by decide) hd
 ·refine⟨1,by simp[hw],by simp[hw],fun p i v o r hd=>?_⟩;rw[hw]at hd;rw[show Pg.opens t.kd o=o by simp[Pg.opens,hk],hw];exact one 43 p i v o r (by decide) (by decide) (by decide) (by decide) hd
 ·refine⟨1,by simp[hw],by simp[hw],fun p i v o r hd=>?_⟩;rw[hw]at hd;rw[show Pg.opens t.kd o=o by simp[Pg.opens,hk],hw];exact one 63 p i v o r (by decide) (by decide) (by decide) (by decide) hd
 ·have ho:∀o,Pg.opens t.kd o=o:=fun o=>by simp[Pg.opens,hk]
  have dig:∀x:UInt8,48<=(x.toNat:Int)->(x.toNat:Int)<=57->x≠92/\x≠91/\x≠40/\x≠41:=by
   intro x h1 h2;refine⟨?_,?_,?_,?_⟩<;>(intro e;subst e;revert h1 h2;decide)
  rcases h with ⟨x,hw,x1,x2,_⟩|⟨x,z,hw,x1,x2,z1,z2,_⟩
  ·refine⟨3,by simp[hw],by simp[hw],fun p i v o r hd=>?_⟩;rw[hw]at hd;obtain⟨q1,q2,q3,q4⟩:=dig x x1 x2;have d1:p.drop (i+1)=x::125::r:=by rw[<-q0n,hd];rfl
   have d2:p.drop (i+2)=125::r:=by rw[<-q0n,hd];rfl
   rw[ho,hw,show v+3=v+2+1 by omega,one 123 p i _ o _ (by decide) (by decide) (by decide) (by decide) hd,show v+2=v+1+1 by omega,one x p _ _ o _ q1 q2 q3 q4 d1,one 125 p _ _ o _ (by decide) (by decide) (by decide) (by decide) d2];rfl
  ·refine⟨5,by simp[hw],by simp[hw],fun p i v o r hd=>?_⟩;rw[hw]at hd;obtain⟨q1,q2,q3,q4⟩:=dig x x1 x2;obtain⟨p1,p2,p3,p4⟩:=dig z z1 z2;have d1:p.drop (i+1)=x::44::z::125::r:=by rw[<-q0n,hd];rfl
   have d2:p.drop (i+2)=44::z::125::r:=by rw[<-q0n,hd];rfl
   have d3:p.drop (i+3)=z::125::r:=by rw[<-q0n,hd];rfl
   have d4:p.drop (i+4)=125::r:=by rw[<-q0n,hd];rfl
   rw[ho,hw,show v+5=v+4+1 by omega,one 123 p i _ o _ (by decide) (by decide) (by decide) (by decide) hd,show v+4=v+3+1 by omega,one x p _ _ o _ q1 q2 q3 q4 d1,show v+3=v+2+1 by omega,one 44 p _ _ o _ (by decide) (by decide) (by decide) (by decide) d2,show v+2=v+1+1 by omega,one z p _ _ o _ p1 p2 p3 p4 d3,one 125 p _ _ o _ (by decide) (by decide) (by decide) (by decide) d4];rfl
theorem grp:∀(f:Nat) (g:Bool) (ts:List Tk) (V:Int),Is f g ts V->∃C,C<=(txt ts).length/\∀(p:List UInt8) (i v:Nat) (o:Int) (r:List UInt8),1<=o->p.drop i=txt ts++r->Rf.groupFrom p (v+C) i o=Rf.groupFrom p v (i+(txt ts).length) o:=by
 intro f
 induction f with
 |zero=>intro g ts V h;exact absurd h (by simp[Is])
 |succ f ih=>
  have chain:∀(a b:List UInt8) (Ca Cb:Nat),(∀(p:List UInt8) (i v:Nat) (o:Int) (r:List UInt8),1<=o->p.drop i=a++r->Rf.groupFrom p (v+Ca) i o=Rf.groupFrom p v (i+a.length) o) ->
    (∀(p:List UInt8) (i v:Nat) (o:Int) (r:List UInt8),1<=o->p.drop i=b++r->Rf.groupFrom p (v+Cb) i o=Rf.groupFrom p v (i+b.length) o) ->
    ∀(p:List UInt8) (i v:Nat) (o:Int) (r:List UInt8),1<=o->p.drop i=(a++b)++r->Rf.groupFrom p (v+(Ca+Cb)) i o=Rf.groupFrom p v (i+(a++b).length) o:=by
   intro a b Ca Cb ha hb p i v o r ho hd;rw[show v+(Ca+Cb)=(v+Cb)+Ca by omega,ha p i (v+Cb) o (b++r) ho (by rw[hd,List.append_assoc]),hb p (i+a.length) v o r ho (by rw[<-q0n,hd,List.append_assoc,List.drop_left])];rw[List.length_append,Nat.add_assoc]
  intro g ts V h;cases g
  ·unfold Is at h;rcases h with ⟨t,rfl,h2,h3,_⟩|⟨a,inn,b,rfl,h2,h3,h4,h5,h6⟩|⟨q,t,A,rfl,h2,h3,h4,_⟩
   ·obtain⟨C,c1,c2,c3⟩:=q6u h2 (by omega);refine⟨C,by simpa[txt]using c1,fun p i v o r ho hd=>?_⟩;have:=c3 p i v o r (by simpa[txt]using hd);rw[this,show Pg.opens t.kd o=o by simp[Pg.opens,h3]];simp[txt]
   ·obtain⟨Ca,a1,a2,a3⟩:=q6u h2 (by omega);obtain⟨Ci,i1,i2⟩:=ih true inn V h6;have hbw:b.w=[41]:=by
     rcases h4 with h|h|h|h|h|h|h|h
     all_goals first|(exact absurd h.1 (by omega))|exact h.2
    refine⟨Ca+Ci+1,by simp[txt,hbw]at *;omega,fun p i v o r ho hd=>?_⟩;have hd':p.drop i=a.w++(txt inn++(41::r)):=by
     rw[hd,q0P,q0K];simp[txt,hbw]
    have hd2:p.drop (i+a.w.length)=txt inn++(41::r):=by rw[<-q0n,hd',List.drop_left]
    have hd3:p.drop (i+a.w.length+(txt inn).length)=41::r:=by rw[<-q0n,hd2,List.drop_left]
    rw[show v+(Ca+Ci+1)=(v+1+Ci)+Ca by omega,a3 p i _ o _ hd',show Pg.opens a.kd o=o+1 by simp[Pg.opens,h3],i2 p _ _ (o+1) _ (by omega) hd2,Rf.groupFrom,hd3];simp only;rw[if_neg (by decide),if_neg (by decide),if_neg (by decide),if_pos trivial,if_neg (by omega),show o+1-1=o by omega];congr 1;rw[q0P,q0K];simp[txt,hbw];omega
   ·obtain⟨Cq,q1,q2⟩:=ih false q A h2;obtain⟨C,c1,c2,c3⟩:=q6u h3 (by unfold isSuf at h4;omega);refine⟨Cq+C,by rw[q0K];simp[txt]at *;omega,fun p i v o r ho hd=>?_⟩;rw[q0K]at hd ⊢;refine chain (txt q) (txt [t]) Cq C q2 ?_ p i v o r ho hd;intro p i v o r ho hd;have:=c3 p i v o r (by simpa[txt]using hd);rw[this,q7g h4];simp[txt]
  ·unfold Is at h;rcases h with ⟨rfl,_⟩|⟨t,r0,rfl,h2,h3,h4⟩|⟨p0,r0,A,B,rfl,h2,h3,_,h5⟩
   ·exact⟨0,by simp,fun p i v o r ho hd=>by simp[txt]⟩
   ·obtain⟨C,c1,c2,c3⟩:=q6u h2 (by omega);obtain⟨Cr,r1,r2⟩:=ih true r0 V h4;refine⟨C+Cr,by rw[q0P,List.length_append];omega,fun p i v o r ho hd=>?_⟩;rw[q0P]at hd ⊢;refine chain t.w (txt r0) C Cr ?_ r2 p i v o r ho hd;intro p i v o r ho hd;rw[c3 p i v o r hd,show Pg.opens t.kd o=o by simp[Pg.opens,h3]]
   ·obtain⟨Cp,p1,p2⟩:=ih false p0 A h2;obtain⟨Cr,r1,r2⟩:=ih true r0 B h3;refine⟨Cp+Cr,by rw[q0K,List.length_append];omega,fun p i v o r ho hd=>?_⟩;rw[q0K]at hd ⊢;exact chain (txt p0) (txt r0) Cp Cr p2 r2 p i v o r ho hd
theorem y3I:∀(f:Nat) (g:Bool) (ts:List Tk) (V:Int),Is f g ts V->∀t∈ts,TkOK t:=by
 intro f
 induction f with
 |zero=>intro g ts V h;exact absurd h (by simp[Is])
 |succ f ih=>
  intro g ts V h t ht;cases g
  ·unfold Is at h;rcases h with ⟨t',rfl,h2,_,_⟩|⟨a,inn,b,rfl,h2,_,h4,_,h6⟩|⟨q,t',A,rfl,h2,h3,_,_⟩
   ·rw[List.mem_singleton]at ht;subst ht;exact h2
   ·simp only[List.mem_cons,List.mem_append,List.not_mem_nil,or_false]at ht;rcases ht with rfl|ht|rfl
    ·exact h2
    ·exact ih _ _ _ h6 t ht
    ·exact h4
   ·simp only[List.mem_append,List.mem_singleton]at ht;rcases ht with ht|rfl
    ·exact ih _ _ _ h2 t ht
    ·exact h3
  ·unfold Is at h;rcases h with ⟨rfl,_⟩|⟨t',r,rfl,h2,_,h4⟩|⟨p,r,A,B,rfl,h2,h3,_,_⟩
   ·exact absurd ht (by simp)
   ·rcases List.mem_cons.1 ht with rfl|ht
    ·exact h2
    ·exact ih _ _ _ h4 t ht
   ·rcases List.mem_append.1 ht with ht|ht
    ·exact ih _ _ _ h2 t ht
    ·exact ih _ _ _ h3 t ht
def sufB (c:UInt8):Bool:=Rf.has Rf.suffixes c.toNat
theorem y1j (c:UInt8):sufB c=true<->(c=42\/c=43\/c=63\/c=123):=by
 have h:∀d:UInt8,((d.toNat:Int)==(c.toNat:Int))=true<->c=d:=by
  intro d;rw[beq_iff_eq];constructor
  ·intro h;exact(UInt8.toNat_inj.1 (by omega))
  ·intro h;rw[h]
 simp only[sufB,Rf.has,Rf.suffixes,Bool.or_eq_true,h,Bool.false_eq_true,or_false]
theorem q1k {t:Tk} (h:TkOK t):∃c w,t.w=c::w/\(sufB c=true<->isSuf t)/\(c=124<->t.kd=4)/\(c=40<->t.kd=2)/\(c=123<->t.kd=8):=by
 have fin:∀(c:UInt8) (w:List UInt8) (k:Int),t.w=c::w->t.kd=k->(sufB c=true<->(k=5\/k=6\/k=7\/k=8))->(c=124<->k=4)->(c=40<->k=2)->(c=123<->k=8) ->
   ∃c w,t.w=c::w/\(sufB c=true<->isSuf t)/\(c=124<->t.kd=4)/\(c=40<->t.kd=2)/\(c=123<->t.kd=8):=by
  intro c w k h1 h2 h3 h4 h5 h6;refine⟨c,w,h1,?_,?_,?_,?_⟩
  ·unfold isSuf;rw[h2];exact h3
  ·rw[h2];exact h4
  ·rw[h2];exact h5
  ·rw[h2];exact h6
 rcases h with ⟨hk,h⟩|⟨hk,hw⟩|⟨hk,hw⟩|⟨hk,hw⟩|⟨hk,hw⟩|⟨hk,hw⟩|⟨hk,hw⟩|⟨hk,h⟩
 ·rcases h with ⟨c,hw,hs⟩|⟨e,v0,hw,_⟩|⟨e,hw,_⟩
  ·unfold Special at hs;refine fin c [] 1 hw hk ?_ ?_ ?_ ?_
   ·rw[y1j];constructor
    ·intro h;exact absurd (by rcases h with h|h|h|h<;>simp[h]) hs
    ·intro h;omega
   ·constructor
    ·intro h;exact absurd (by simp[h]) hs
    ·intro h;omega
   ·constructor
    ·intro h;exact absurd (by simp[h]) hs
    ·intro h;omega
   ·constructor
    ·intro h;exact absurd (by simp[h]) hs
    ·intro h;omega
  ·exact fin 92 e 1 hw hk (by decide) (by decide) (by decide) (by decide)
  ·exact fin 91 e 1 hw hk (by decide) (by decide) (by decide) (by decide)
 ·exact fin 40 [] 2 hw hk (by decide) (by decide) (by decide) (by decide)
 ·exact fin 41 [] 3 hw hk (by decide) (by decide) (by decide) (by decide)
 ·exact fin 124 [] 4 hw hk (by decide) (by decide) (by decide) (by decide)
 ·exact fin 42 [] 5 hw hk (by decide) (by decide) (by decide) (by decide)
 ·exact fin 43 [] 6 hw hk (by decide) (by decide) (by decide) (by decide)
 ·exact fin 63 [] 7 hw hk (by decide) (by decide) (by decide) (by decide)
 ·rcases h with ⟨x,hw,_⟩|⟨x,z,hw,_⟩
  ·exact fin 123 _ 8 hw hk (by decide) (by decide) (by decide) (by decide)
  ·exact fin 123 _ 8 hw hk (by decide) (by decide) (by decide) (by decide)
theorem q1L (hd:p.drop i=c::r) (h:c≠125):Rf.closeFrom p (f+1) i=Rf.closeFrom p f (i+1):=by
 rw[Rf.closeFrom,hd];simp only[if_neg h]
theorem q5z (hd:p.drop i=125::r):Rf.closeFrom p (f+1) i=some (i+1):=by
 rw[Rf.closeFrom,hd];simp only[if_true]
theorem q4H {l:List UInt8} (hd:p.drop i=l):l.length=p.length-i:=by
 rw[<-hd];simp
theorem q5Q {t:Tk} (h:TkOK t) (hs:isSuf t) (p:List UInt8) (i:Nat) (r:List UInt8) (hd:p.drop i=t.w++r):Rf.suffixed p i=some (i+t.w.length):=by
 have one:∀c:UInt8,c≠123->t.w=[c]->Rf.suffixed p i=some (i+t.w.length):=by
  intro c hc hw;rw[hw]at hd ⊢;rw[Rf.suffixed,hd];simp only[List.cons_append,if_neg hc];rfl
 unfold isSuf at hs;rcases h with ⟨hk,_⟩|⟨hk,_⟩|⟨hk,_⟩|⟨hk,_⟩|⟨hk,hw⟩|⟨hk,hw⟩|⟨hk,hw⟩|⟨hk,h⟩
 ·omega
 ·omega
 ·omega
 ·omega
 ·exact one 42 (by decide) hw
 ·exact one 43 (by decide) hw
 ·exact one 63 (by decide) hw
 ·have dig:∀x:UInt8,48<=(x.toNat:Int)->(x.toNat:Int)<=57->x≠125:=by
   intro x h1 h2 e;subst e;revert h1 h2;decide
  rcases h with ⟨x,hw,x1,x2,_⟩|⟨x,z,hw,x1,x2,z1,z2,_⟩
  ·rw[hw]at hd ⊢;have d1:p.drop (i+1)=x::125::r:=by rw[<-q0n,hd];rfl
   have d2:p.drop (i+2)=125::r:=by rw[<-q0n,hd];rfl
   have hl:=q4H hd;simp at hl;obtain⟨v,hv⟩:∃v,p.length+1=v+1+1+1:=⟨p.length-2,by omega⟩;rw[Rf.suffixed,hd];simp only[List.cons_append,if_true];rw[hv,q1L hd (by decide),q1L d1 (dig x x1 x2),q5z d2];rfl
  ·rw[hw]at hd ⊢;have d1:p.drop (i+1)=x::44::z::125::r:=by rw[<-q0n,hd];rfl
   have d2:p.drop (i+2)=44::z::125::r:=by rw[<-q0n,hd];rfl
   have d3:p.drop (i+3)=z::125::r:=by rw[<-q0n,hd];rfl
   have d4:p.drop (i+4)=125::r:=by rw[<-q0n,hd];rfl
   have hl:=q4H hd;simp at hl;obtain⟨v,hv⟩:∃v,p.length+1=v+1+1+1+1+1:=⟨p.length-4,by omega⟩;rw[Rf.suffixed,hd];simp only[List.cons_append,if_true];rw[hv,q1L hd (by decide),q1L d1 (dig x x1 x2),q1L d2 (by decide),q1L d3 (dig z z1 z2),q5z d4];rfl
def Sufs (ts:List Tk):Prop:=∀t∈ts,TkOK t/\isSuf t
theorem q5L {ts:List Tk} (h:∀t∈ts,TkOK t):ts.length<=(txt ts).length:=by
 induction ts with
 |nil=>simp
 |cons t r ih=>
  obtain⟨c,w,hw,_⟩:=q1k (h t (by simp));have:=ih (fun t' ht=>h t' (by simp[ht]));rw[q0P,List.length_append,hw];simp;omega
theorem q5m:∀(ts:List Tk),Sufs ts->∀(p:List UInt8) (i f:Nat) (r:List UInt8),p.drop i=txt ts++r->(∀c r',r=c::r'->sufB c=false)->ts.length<f->Rf.pieceFrom p f i=some (i+(txt ts).length):=by
 intro ts
 induction ts with
 |nil=>
  intro _ p i f r hd hr hf;obtain⟨f,rfl⟩:∃q,f=q+1:=⟨f-1,by omega⟩;simp only[txt,List.flatMap_nil,List.nil_append,List.length_nil,Nat.add_zero]at hd ⊢;rw[Rf.pieceFrom,hd];rcases r with _|⟨c,r'⟩
  ·rfl
  ·have:=hr c r' rfl;unfold sufB at this;simp only[this];rfl
 |cons t ts ih=>
  intro hs p i f r hd hr hf;obtain⟨f,rfl⟩:∃q,f=q+1:=⟨f-1,by omega⟩;obtain⟨h1,h2⟩:=hs t (by simp);rw[q0P,List.append_assoc]at hd;obtain⟨c,w,hw,hc,_⟩:=q1k h1;have hcs:=hc.2 h2;unfold sufB at hcs;have hstep:=q5Q h1 h2 p i _ hd;have hd2:p.drop (i+t.w.length)=txt ts++r:=by rw[<-q0n,hd,List.drop_left]
  have hd':=hd;rw[hw,List.cons_append]at hd';rw[Rf.pieceFrom,hd'];simp only[hcs,if_true];rw[hstep];simp only;rw[ih (fun t' ht=>hs t' (by simp[ht])) p _ f r hd2 hr (by simp at hf;omega),q0P,List.length_append,Nat.add_assoc]
theorem q5g:∀(ts:List Tk),Sufs ts->∀(t:Tk),TkOK t->isSuf t->∀(p:List UInt8) (i cut f:Nat),p.drop i=txt ts++t.w->ts.length+1<f->Rf.splitFrom p f i cut=some (i+(txt ts).length):=by
 intro ts
 induction ts with
 |nil=>
  intro _ t h1 h2 p i cut f hd hf;obtain⟨f,rfl⟩:∃q,f=q+1+1:=⟨f-2,by simp at hf;omega⟩;have hd0:p.drop i=t.w++[]:=by rw[hd];simp[txt]
  have hstep:=q5Q h1 h2 p i [] hd0;have hd2:p.drop (i+t.w.length)=[]:=by rw[<-q0n,hd0,List.drop_left]
  obtain⟨c,w,hw,_⟩:=q1k h1;rw[hw,List.cons_append]at hd0;rw[Rf.splitFrom,hd0];simp only[hstep];rw[Rf.splitFrom,hd2];rfl
 |cons t0 ts ih=>
  intro hs t h1 h2 p i cut f hd hf;obtain⟨f,rfl⟩:∃q,f=q+1:=⟨f-1,by omega⟩;obtain⟨g1,g2⟩:=hs t0 (by simp);rw[q0P,List.append_assoc]at hd;have hstep:=q5Q g1 g2 p i _ hd;have hd2:p.drop (i+t0.w.length)=txt ts++t.w:=by rw[<-q0n,hd,List.drop_left]
  obtain⟨c,w,hw,_⟩:=q1k g1;rw[hw,List.cons_append]at hd;rw[Rf.splitFrom,hd];simp only[hstep];rw[ih (fun t' ht=>hs t' (by simp[ht])) t h1 h2 p _ i f hd2 (by simp at hf;omega),q0P,List.length_append,Nat.add_assoc]
theorem q1N:∀(f:Nat) (p:List Tk) (V:Int),Is f false p V->∃(base:List UInt8) (sufs:List Tk),txt p=base++txt sufs/\Sufs sufs/\(∃c w,base=c::w/\c≠124)/\∀r,Rf.atom (base++r)=some base.length:=by
 intro f
 induction f with
 |zero=>intro p V h;exact absurd h (by simp[Is])
 |succ f ih=>
  intro p V h;unfold Is at h;rcases h with ⟨t,rfl,h2,h3,rfl⟩|⟨a,inn,b,rfl,h2,h3,h4,h5,h6⟩|⟨q,t,A,rfl,h2,h3,h4,_⟩
  ·obtain⟨c,w,hw,_,hc,h40,_⟩:=q1k h2;refine⟨t.w,[],by simp[txt],(by intro t' ht;simp at ht),⟨c,w,hw,fun e=>by have:=hc.1 e;omega⟩,fun r=>?_⟩;have hp:IsPlaceW t.w:=by
    rcases h2 with h|h|h|h|h|h|h|h
    all_goals first|(exact absurd h.1 (by omega))|exact h.2
   rcases hp with ⟨c,hw,hs⟩|⟨e,v0,hw,hone⟩|⟨e,hw,hset⟩
   ·unfold Special at hs;rw[hw,List.cons_append,Rf.atom]
    (try simp only)
    rw[if_neg (fun e=>hs (by simp[e])),if_neg (fun e=>hs (by simp[e])),if_neg (fun e=>hs (by simp[e]))];rfl
   ·rw[hw,List.cons_append,Rf.atom];simp only[if_true];rw[hone r];rfl
   ·obtain⟨fa,inn,hs⟩:=hset r 0;rw[hw,List.cons_append,Rf.atom];simp only;rw[if_neg (by decide),if_pos trivial,hs];simp
  ·have haw:a.w=[40]:=by
    rcases h2 with h|h|h|h|h|h|h|h
    all_goals first|(exact absurd h.1 (by omega))|exact h.2
   have hbw:b.w=[41]:=by
    rcases h4 with h|h|h|h|h|h|h|h
    all_goals first|(exact absurd h.1 (by omega))|exact h.2
   have ht:txt (a::(inn++[b]))=40::(txt inn++[41]):=by
    rw[q0P,q0K,haw];simp[txt,hbw]
   refine⟨40::(txt inn++[41]),[],by rw[ht];simp[txt],(by intro t' ht;simp at ht),⟨40,_,rfl,by decide⟩,fun r=>?_⟩;obtain⟨C,c1,c2⟩:=grp f true inn V h6;rw[List.cons_append,Rf.atom];simp only;rw[if_neg (by decide),if_neg (by decide),if_pos trivial,Rf.groupFrom,List.drop_zero];simp only;rw[if_neg (by decide),if_neg (by decide),if_pos trivial];have hlen:(txt inn++[41]++r).length=(txt inn).length+1+r.length:=by simp;omega
   obtain⟨v,hv⟩:∃v,(txt inn++[41]++r).length+1=(v+1)+C:=⟨(txt inn).length+1+r.length-C,by omega⟩;have hd1:(40::(txt inn++[41]++r)).drop (0+1)=txt inn++(41::r):=by simp
   have hd2:(40::(txt inn++[41]++r)).drop (0+1+(txt inn).length)=41::r:=by rw[<-q0n,hd1,List.drop_left]
   rw[hv,c2 _ _ (v+1) (0+1) (41::r) (by omega) hd1,Rf.groupFrom,hd2];simp only;rw[if_neg (by decide),if_neg (by decide),if_neg (by decide),if_pos trivial,if_pos (by decide)];simp;omega
  ·obtain⟨base,sufs,e1,e2,e3,e4⟩:=ih q A h2;refine⟨base,sufs++[t],by rw[q0K,q0K,e1,List.append_assoc],?_,e3,e4⟩;intro t' ht;rcases List.mem_append.1 ht with ht|ht
   ·exact e2 t' ht
   ·rw[List.mem_singleton]at ht;subst ht;exact⟨h3,h4⟩
theorem y1I {r:List Tk} (h:∀t∈r,TkOK t) (hn:∀t r',r=t::r'->¬isSuf t):∀c r',txt r=c::r'->sufB c=false:=by
 intro c r' he;rcases r with _|⟨t,r⟩
 ·simp[txt]at he
 ·obtain⟨d,w,hw,hc,_⟩:=q1k (h t (by simp));rw[q0P,hw,List.cons_append]at he;injection he with he1 he2;subst he1;cases hb:sufB d
  ·rfl
  ·exact absurd (hc.1 hb) (hn t r rfl)
theorem q5r {w:List UInt8} (h:IsCountW w mo):Rf.most w=some mo:=by
 have dig:∀x:UInt8,48<=(x.toNat:Int)->(x.toNat:Int)<=57->Rf.digit x.toNat=true:=by
  intro x h1 h2;simp[Rf.digit];omega
 rcases h with ⟨x,rfl,x1,x2,rfl⟩|⟨x,z,rfl,x1,x2,z1,z2,rfl⟩
 ·simp[Rf.most,dig x x1 x2]
 ·simp[Rf.most,dig x x1 x2,dig z z1 z2]
theorem counts:∀(f:Nat) (g:Bool) (ts:List Tk) (V:Int),Is f g ts V->∃G,∀v,Rf.cnt (v+G) g (txt ts)=some V:=by
 intro f
 induction f with
 |zero=>intro g ts V h;exact absurd h (by simp[Is])
 |succ f ih=>
  intro g ts V h;have hall:=y3I _ _ _ _ h;cases g
  ·have h0:=h;unfold Is at h;rcases h with ⟨t,rfl,h2,h3,rfl⟩|⟨a,inn,b,rfl,h2,h3,h4,h5,h6⟩|⟨q,t,A,rfl,h2,h3,h4,rfl⟩
   ·refine⟨1,fun v=>?_⟩;obtain⟨base,sufs,e1,e2,e3,e4⟩:=q1N 1 [t] 1 (Or.inl ⟨t,rfl,h2,h3,rfl⟩);obtain⟨c,w,hw,hsf,hc,h40,_⟩:=q1k h2;have ht:txt [t]=t.w:=by simp[txt]
    have hp:IsPlaceW t.w:=by
     rcases h2 with h|h|h|h|h|h|h|h
     all_goals first|(exact absurd h.1 (by omega))|exact h.2
    have hat:Rf.atom t.w=some t.w.length:=by
     rcases hp with ⟨c,hw,hs⟩|⟨e,v0,hw,hone⟩|⟨e,hw,hset⟩
     ·unfold Special at hs;rw[hw,Rf.atom]
      (try simp only)
      rw[if_neg (fun e=>hs (by simp[e])),if_neg (fun e=>hs (by simp[e])),if_neg (fun e=>hs (by simp[e]))];rfl
     ·have:=hone [];rw[List.append_nil]at this;rw[hw,Rf.atom];simp only[if_true];rw[this];rfl
     ·obtain⟨fa,inn,hs⟩:=hset [] 0;rw[List.append_nil]at hs;rw[hw,Rf.atom];simp only;rw[if_neg (by decide),if_pos trivial,hs];simp
    have hsp:Rf.split t.w=some t.w.length:=by
     rw[Rf.split,hat];simp only;rw[Rf.splitFrom,List.drop_length]
    rw[ht,Rf.cnt.eq_def];simp only[hsp,List.drop_length];rw[hw];simp only;rw[if_neg (fun e=>by have:=h40.1 e;omega)]
   ·obtain⟨G,hG⟩:=ih true inn V h6;have haw:a.w=[40]:=by
     rcases h2 with h|h|h|h|h|h|h|h
     all_goals first|(exact absurd h.1 (by omega))|exact h.2
    have hbw:b.w=[41]:=by
     rcases h4 with h|h|h|h|h|h|h|h
     all_goals first|(exact absurd h.1 (by omega))|exact h.2
    have ht:txt (a::(inn++[b]))=40::(txt inn++[41]):=by
     rw[q0P,q0K,haw];simp[txt,hbw]
    refine⟨G+1,fun v=>?_⟩;obtain⟨C,c1,c2⟩:=grp f true inn V h6;have hat:Rf.atom (40::(txt inn++[41]))=some (40::(txt inn++[41])).length:=by
     rw[Rf.atom];simp only;rw[if_neg (by decide),if_neg (by decide),if_pos trivial,Rf.groupFrom,List.drop_zero];simp only;rw[if_neg (by decide),if_neg (by decide),if_pos trivial];have hlen:(txt inn++[41]).length=(txt inn).length+1:=by simp
     obtain⟨v,hv⟩:∃v,(txt inn++[41]).length+1=(v+1)+C:=⟨(txt inn).length+1-C,by omega⟩;have hd1:(40::(txt inn++[41])).drop (0+1)=txt inn++[41]:=by simp
     have hd2:(40::(txt inn++[41])).drop (0+1+(txt inn).length)=[41]:=by rw[<-q0n,hd1,List.drop_left]
     rw[hv,c2 _ _ (v+1) (0+1) [41] (by omega) hd1,Rf.groupFrom,hd2];simp only;rw[if_neg (by decide),if_neg (by decide),if_neg (by decide),if_pos trivial,if_pos (by decide)];simp;omega
    have hsp:Rf.split (40::(txt inn++[41]))=some (40::(txt inn++[41])).length:=by
     rw[Rf.split,hat];simp only;rw[Rf.splitFrom,List.drop_length]
    rw[ht,show v+(G+1)=(v+G)+1 by omega,Rf.cnt.eq_def];have hx:(txt inn++[41]).length-1=(txt inn).length:=by simp
    have hy:¬(txt inn++[41]).length=0:=by simp
    simp only[hsp,List.drop_length,if_true,if_neg hy,hx,List.take_left];exact hG v
   ·obtain⟨G,hG⟩:=ih false q A h2;obtain⟨base,sufs,e1,e2,e3,e4⟩:=q1N f q A h2;obtain⟨c,w,hw,hsf,hc,h40,h123⟩:=q1k h3;have ht:txt (q++[t])=txt q++t.w:=by rw[q0K];simp[txt]
    have hl:=q5L (fun t' ht'=>(e2 t' ht').1);have hsp:Rf.split (txt q++t.w)=some (txt q).length:=by
     have ha:Rf.atom (txt q++t.w)=some base.length:=by rw[e1,List.append_assoc];exact e4 _
     rw[Rf.split,ha];simp only;rw[q5g sufs e2 t h3 h4 _ base.length base.length _ (by rw[e1,List.append_assoc,List.drop_left]) (by rw[List.length_append,hw,e1,List.length_append,List.length_cons];omega),e1,List.length_append]
    refine⟨G+1,fun v=>?_⟩;rw[ht,show v+(G+1)=(v+G)+1 by omega,Rf.cnt.eq_def];simp only[hsp,List.drop_left,List.take_left];rw[hw];simp only;rw[hG];simp only;by_cases h8:t.kd=8
    ·rw[if_pos (h123.2 h8),if_pos h8,<-hw,q5r (q8b h3 h8).2];rfl
    ·rw[if_neg (fun e=>h8 (h123.1 e)),if_neg h8]
  ·unfold Is at h;rcases h with ⟨rfl,rfl⟩|⟨t,r,rfl,h2,h3,h4⟩|⟨p,r,A,B,rfl,h2,h3,rfl,h5⟩
   ·exact⟨1,fun v=>rfl⟩
   ·obtain⟨G,hG⟩:=ih true r V h4;have htw:t.w=[124]:=by
     rcases h2 with h|h|h|h|h|h|h|h
     all_goals first|(exact absurd h.1 (by omega))|exact h.2
    refine⟨G+1,fun v=>?_⟩;rw[q0P,htw,show v+(G+1)=(v+G)+1 by omega,List.singleton_append,Rf.cnt];simp only[if_true];exact hG v
   ·obtain⟨Gp,hGp⟩:=ih false p A h2;obtain⟨Gr,hGr⟩:=ih true r B h3;obtain⟨base,sufs,e1,e2,⟨c,w,hb,hc⟩,e4⟩:=q1N f p A h2;have hl:=q5L (fun t' ht'=>(e2 t' ht').1);have hpc:Rf.piece (txt p++txt r)=some (txt p).length:=by
     have ha:Rf.atom (txt p++txt r)=some base.length:=by rw[e1,List.append_assoc];exact e4 _
     rw[Rf.piece,ha];simp only;rw[q5m sufs e2 _ base.length _ (txt r) (by rw[e1,List.append_assoc,List.drop_left]) (y1I (fun t ht=>hall t (by simp[ht])) h5) (by rw[List.length_append,e1,List.length_append];omega),e1,List.length_append]
    refine⟨Gp+Gr+1,fun v=>?_⟩;obtain⟨l',hl'⟩:∃l',txt p++txt r=c::l':=⟨_,by rw[e1,hb];rfl⟩;have htk:(c::l').take (txt p).length=txt p:=by rw[<-hl',List.take_left]
    have hdr:(c::l').drop (txt p).length=txt r:=by rw[<-hl',List.drop_left]
    rw[q0K,hl',show v+(Gp+Gr+1)=(v+Gp+Gr)+1 by omega,Rf.cnt]
    (try simp only)
    rw[if_neg hc,<-hl',hpc];simp only;rw[hl',htk,hdr,hGr (v+Gp),show v+Gp+Gr=(v+Gr)+Gp by omega,hGp]
end Go.Proofs.YtoaaklhpmhjhkaaGreat
