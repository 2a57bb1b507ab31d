import Derived.Test.YtoaaklhpmhjhkaaGreatC08
set_option maxRecDepth 100000
set_option maxHeartbeats 4000000
set_option linter.all false
namespace Go.Proofs.YtoaaklhpmhjhkaaGreat
open Go.RowKit
open Bm
def u8s (l:List Nat):List Value:=l.map λ(x:Nat)=>.int .u8 (x:Int)
def OwnU (base:Nat) (v:Value) (l:List Nat) (w:World):Prop:=w.ownsRow base 5 1 v l.length (u8s l)
theorem OwnU.nil (base:Nat) (w:World):OwnU base (.slice none 0 0) [] w:=⟨rfl,Or.inl ⟨rfl,rfl⟩⟩
variable {a : Act}{ops : Array Oper}{Q : Exit → Act → World → Prop}{rest : List Oper}{base base' cap g n : Nat}{ob : Obj}{o : Oper}{row : Option Nat}{v vl : Value}{W W' W1 w w' w5 : World}
theorem OwnU.blk {l:List Nat} (h:OwnU base v l w):∀k,v.ownBlock=some k->base<=k/\k<w.heap.size:=λk a=>h.lt k a
theorem OwnU.keep {l:List Nat} (h:OwnU base v l w) (hk:∀k,v.ownBlock=some k->w'.heap[k]?=w.heap[k]?):OwnU base v l w':=by
 refine⟨h.1,?_⟩;rcases h.2 with b|⟨g,cap,a,rfl,c,d,e⟩
 ·exact Or.inl b
 exact Or.inr ⟨g,cap,a,rfl,c,by rw[hk g rfl];exact d,e⟩
theorem OwnU.below {l:List Nat} (h:OwnU base v l w) (hW:Below w.heap.size w w'):OwnU base v l w':=h.keep (λk a=>hW.block k (h.blk k a).2)
theorem OwnU.mono {l:List Nat} (h:OwnU base v l w) (hb:base'<=base):OwnU base' v l w:=
 ⟨h.1,h.2.imp id (λ⟨g,cap,d,a,b,c⟩=>⟨g,cap,d,a,Nat.le_trans hb b,c⟩)⟩
theorem OwnU.grown {l:List Nat} (h:OwnU base v l w) (hg:w.grownBy w' row) (hne:∀k,v.ownBlock=some k->row≠some k):OwnU base v l w':=
 h.keep (λk a=>hg.block k (h.blk k a).2 (λe=>hne k a e.symm))
theorem OwnU.at_ {l:List Nat} (h:OwnU base v l w):∃ad cap,v=.slice ad l.length cap/\∀(i x:Nat),l[i]?=some x->∃g,ad=some ⟨g,0,none⟩/\w.cell? ⟨g,i,none⟩=some (.int .u8 (x:Int)):=by
 rcases h.2 with ⟨rfl,d⟩|⟨g,cap,c,rfl,e,f,j,k,m,n⟩
 ·refine⟨none,0,by rw[d],λi x a=>?_⟩;have o:=(List.getElem?_eq_some_iff.1 a).1;omega
 refine⟨some ⟨g,0,none⟩,cap,rfl,λi x a=>⟨g,rfl,?_⟩⟩;have b:=h.cells (g:=g) rfl i (.int .u8 (x:Int)) (by simp[u8s,a]);rw[Addr.add_lit,Nat.zero_add]at b;exact b
theorem q3X (hgd:o.guard=none) (s x:Operand)
  (ho:o.op=.call { callee:=.builtin .append,args:=#[s,x],argTypes:=#[99,99] }) (base:Nat)
  (v:Value) (l:List Nat) (hs:a.eval s=v) (hown:OwnU base v l w) (hn:l.length<=1000000)
  (B:Nat) (t:Nat) (hx:a.eval x=.slice (some ⟨B,0,none⟩) 1 1) (hnews:w.cell? ⟨B,0,none⟩=some (.int .u8 (t:Int))) (hbase:base<=w.heap.size) (H:Nat) (hH:w.heap.size=H)
  (h:∀g cap w',OwnU base (.slice (some ⟨g,0,none⟩) (l.length+1) cap) (l++[t]) w'->w.grownBy w' v.ownBlock->(v.ownBlock=some g\/g=H)->g<w'.heap.size->wpList Tryz.prog ops Q rest (a.put o.dst (.slice (some ⟨g,0,none⟩) (l.length+1) cap)) w'):wpList Tryz.prog ops Q (o::rest) a w:=by
 obtain⟨i,p,c,d,e⟩:=eInfoU8;refine wpList_append_lies w hgd s x 99 ho base 5 i (.int .u8 0) 1 1 Tryz.underlying99 p c d e rfl (by omega) v l.length (u8s l) hs hown ⟨B,0,none⟩ 1 1 [.int .u8 (t:Int)] hx rfl (λj u b=>?_) (by simp[Value.oneCell']) (by omega) (by unfold maxLen;omega) (by omega) hbase H hH ?_
 ·rw[Addr.add_lit,Nat.zero_add];cases j with
  |zero=>simp at b;subst b;exact hnews
  |succ j=>simp at b
 intro g cap w' f k m n;refine h g cap w' ?_ k m n;unfold OwnU;rw[List.length_append];simp only[u8s,List.map_append];exact f
def kcells (f:Nat->Int) (v:Value):List Value:=(List.range 256).map (λi=>.int .i64 (f i))++[v]
theorem q1b (f:Nat->Int) (v:Value):(kcells f v).length=257:=by simp[kcells]
theorem q1O (f:Nat->Int) (v:Value) (i:Nat) (h:i<256):(kcells f v)[i]?=some (.int .i64 (f i)):=by
 unfold kcells;rw[List.getElem?_append_left (by simpa using h)];simp[h]
theorem q1r (f:Nat->Int) (v:Value):(kcells f v)[256]?=some v:=by
 unfold kcells;rw[List.getElem?_append_right (by simp)];simp
theorem q5d (w:World):(zeroValue 142).run Tryz.prog w=.ok (.agg (kcells (λ_=>0) (.slice none 0 0)).toArray) w:=by kernel_rfl
theorem q2H:(Tryz.prog.info? 142).map (·.size)=some 257:=by kernel_rfl
structure KN (w:World) (f:Nat->Int) (vl:Value) (l:List Nat) (W:World):Prop where
 z:TC w.heap.size (kcells (fun _=>0) (.slice none 0 0)) W
 s:TC (w.heap.size+1) (kcells f vl) W
 l:OwnU (w.heap.size+2) vl l W
 b:Below w.heap.size w W
theorem Bm.TC.ltK {t:Nat}{f:Nat->Int} (h:TC t (kcells f v) w):t<w.heap.size:=World.block_lt_of_cell? w _ (h 0 _ (q1O f v 0 (by omega))).1
theorem Bm.TC.belowK {t:Nat}{f:Nat->Int} (h:TC t (kcells f v) w) (hW:Below w.heap.size w w'):TC t (kcells f v) w':=h.block (hW.block t h.ltK)
theorem KN.size {f:Nat->Int}{l:List Nat} (h:KN w f vl l W):w.heap.size+2<=W.heap.size:=by have:=h.s.ltK;omega
theorem KN.below {f:Nat->Int}{l:List Nat} (h:KN w f vl l W) (hW:Below W.heap.size W W'):KN w f vl l W':=
 ⟨h.z.belowK hW,h.s.belowK hW,h.l.below hW,h.b.trans (hW.mono h.b.size)⟩
theorem q9B (f:Nat->Int) (v:Value) (i:Nat) (x:Int) (h:i<256):(kcells f v).set i (.int .i64 x)=kcells (λj=>if j=i then x else f j) v:=by
 refine List.ext_getElem? (λj=>?_);by_cases e:j=i
 ·subst e;rw[List.getElem?_set_self (by rw[q1b];omega),q1O _ _ _ h];simp
 rw[List.getElem?_set_ne (λh=>e h.symm)];rcases Nat.lt_or_ge j 256 with a|a
 ·rw[q1O _ _ _ a,q1O _ _ _ a];simp[e]
 by_cases b:j=256
 ·subst b;rw[q1r,q1r]
 rw[List.getElem?_eq_none (by rw[q1b];omega),List.getElem?_eq_none (by rw[q1b];omega)]
theorem q8g (f:Nat->Int) (v u:Value):(kcells f v).set 256 u=kcells f u:=by
 unfold kcells;rw[List.set_append_right _ _ (by simp)];simp
theorem KN.put {f:Nat->Int}{l:List Nat} (h:KN w f vl l W) (i:Nat) (hi:i<256) (x:Int):KN w (λj=>if j=i then x else f j) vl l (W.setCell ⟨w.heap.size+1,i,none⟩ (.int .i64 x)):=by
 have c:∀k,k≠w.heap.size+1->(W.setCell ⟨w.heap.size+1,i,none⟩ (.int .i64 x)).heap[k]?=W.heap[k]?:=λk a=>Below.heap_setCell W ⟨w.heap.size+1,i,none⟩ _ k (λe=>a e)
 refine⟨h.z.block (c _ (by omega)),?_,h.l.keep (λk a=>c k (by have:=(h.l.blk k a).1;omega)),h.b.setCell (p:=⟨w.heap.size+1,i,none⟩) (Nat.le_succ _) _⟩;rw[<-q9B f vl i x hi];exact h.s.set i (by rw[q1b];omega) _
theorem KN.putL {f:Nat->Int}{l l':List Nat} (h:KN w f vl l W) (hW1:W1=W.alloc ob)
  (h5:OwnU (w.heap.size+2) (.slice (some ⟨g,0,none⟩) n cap) l' w5) (hg:W1.grownBy w5 vl.ownBlock):
  KN w f (.slice (some ⟨g,0,none⟩) n cap) l' (w5.setCell ⟨w.heap.size+1,256,none⟩ (.slice (some ⟨g,0,none⟩) n cap)):=by
 have hs:=h.size;have r:Below W.heap.size W W1:=by rw[hW1];exact box_bel _ _
 have o:W1.heap.size=W.heap.size+1:=by rw[hW1];simp
 have d:=h.below r;have i:∀k,k≠w.heap.size+1->(w5.setCell ⟨w.heap.size+1,256,none⟩ (.slice (some ⟨g,0,none⟩) n cap)).heap[k]?=w5.heap[k]?:=λk c=>Below.heap_setCell w5 ⟨w.heap.size+1,256,none⟩ _ k (λe=>c e)
 have a:=h.l.blk;have j:=(h5.blk g rfl).1;refine⟨?_,?_,?_,?_⟩
 ·refine(d.z.block (hg.block _ (by omega) (λe=>?_))).block (i _ (by omega));have:=(a _ e.symm).1;omega
 ·rw[<-q8g f vl];exact(d.s.block (hg.block _ (by omega) (λe=>by have:=(a _ e.symm).1;omega))).set 256 (by rw[q1b];omega) _
 ·exact h5.keep (λk c=>i k (by cases c;show g≠_;omega))
 exact(d.b.grown hg (by omega) (λq m=>by have:=(a q m).1;omega)).setCell (p:=⟨w.heap.size+1,256,none⟩) (Nat.le_succ _) _
def KindPost (E:Nat->Nat->Bool) (w:World) (e:Ending) (w':World):Prop:=
 ∃(f:Nat->Int) (vl:Value),e=.returned (.agg (kcells f vl).toArray)/\(∀b,b<256->f b=idxI E b)/\OwnU w.heap.size vl (reps E 256) w'/\Below w.heap.size w w'
theorem q8e (nb:Nat) (ha:Option Addr) (hc P:Nat) (hs:Nat->Nat->Bool) (w:World) (hP:P<=96) (hc0:w.cell? ⟨nb,0,none⟩=some (.slice ha P hc)) (hH:HS ha hs P w):
  Calls Tryz.prog 65 #[.pointer (some ⟨nb,0,none⟩)] w (KindPost (Kq hs P) w):=by
 have hz:=q5d;have HC:Hid (∀(a b:Nat) (w':World),a<256->b<256->Below w.heap.size w w'->Calls Tryz.prog 127 #[.pointer (some ⟨nb,0,none⟩),.int .u8 a,.int .u8 b] w' λe w''=>e=.returned (.bool (!Kq hs P a b))/\Below w'.heap.size w' w''):=λa b w' h1 h2 h'=>q5M nb ha hc P hs a b w' hP (by rw[h'.cell (p:=⟨nb,0,none⟩) (World.block_lt_of_cell? w _ hc0)];exact hc0) (hH.below h') h1 h2
 have HE:=hyd (q3D hs P 256);clear hc0 hH hP;generalize Kq hs P=E at *;obtain⟨W,hW⟩:=nam ((w.alloc (.cells (kcells (λ_=>0) (.slice none 0 0)).toArray 142)).alloc (.cells (kcells (λ_=>0) (.slice none 0 0)).toArray 142));have S0:KN w (λ_=>0) (.slice none 0 0) [] W:=by
  have aq:(w.alloc (.cells (kcells (λ_=>0) (.slice none 0 0)).toArray 142)).heap.size=w.heap.size+1:=by simp
  rw[hW];refine⟨(TC.boxed w (kcells (λ_=>0) (.slice none 0 0)) _).belowK (box_bel _ _),?_,OwnU.nil _ _,(box_bel w _).trans ((box_bel _ _).mono (by simp))⟩;rw[<-aq];exact TC.boxed _ (kcells (λ_=>0) (.slice none 0 0)) _
 go_enter Tryz.func65,Tryz.ntmps65;go_wp2_with fail;rw[<-hW];clear hW
 go_loopw [4] (λx w'=>∃(a:Nat) (f:Nat->Int) (vl:Value),a<=256/\x=.int .i64 a/\Hid (∀b,b<a->f b=idxI E b)/\KN w f vl (reps E a) w') (λx _=>256-(intOf x).toNat)
 ·exact⟨0,_,_,by omega,rfl,λb hb=>by omega,S0⟩
 clear S0;obtain⟨a,f,vl,ha,rfl,HF,S1⟩:=hrel;by_cases h:a<256
 ·have aw:(a:Int)<256:=by omega
  obtain⟨va,vc,ar,_⟩:=S1.l.at_;subst ar;have d:=rep_new HE.out h;have ak:=cnt_le E a;obtain⟨id,I⟩:=nam (idx E a);rw[<-I]at d;have m:=hyd I;clear I;obtain⟨c,u⟩:=nam (cnt E a);have Hc:=hyd u;have H:(reps E a).length=c:=by rw[u];rfl
  rw[H]at S1;rw[<-u]at d ak;have F:=hyd H;clear u H;have i:=hyd d.1;have T:=d.2;clear d;go_wp2_with fail
  go_loopw [6] (λx w'=>∃j:Nat,j<=id/\x=.int .i64 j/\KN w f (.slice va c vc) (reps E a) w') (λx _=>c-(intOf x).toNat)
  ·exact⟨0,by omega,rfl,S1⟩
  clear S1;obtain⟨j,hj,rfl,S1⟩:=hrel;have c1:=(S1.s 256 _ (q1r _ _)).1;by_cases aD:j<c
  ·have av:(j:Int)<c:=by omega
   obtain⟨r,hr⟩:∃r,(reps E a)[j]?=some r:=⟨(reps E a)[j]'(by have:=F.out;omega),List.getElem?_eq_getElem _⟩;have ap:=reps_mem hr;have J:=rep_like HE.out h hr;rw[<-m.out]at J;obtain⟨ax,au,Y,K⟩:=S1.l.at_;have Z:=(Value.slice.inj Y).1;rw[<-Z]at K;obtain⟨aB,al,c2⟩:=K j r hr;subst al;have y:=hyd (HC.out r a wr (by omega) h S1.b);have N:=hyd J;clear J hr ap Y K Z;go_wp2_with fail;refine y.out.mono ?_;rintro e w2 ⟨rfl,S⟩;have S2:=S1.below S;clear S1 c1 c2 y S;cases hE:E r a
   ·have aF:j≠id:=λe=>by have:=N.out.2 e;rw[hE]at this;cases this
    go_wp2_with fail;go_roundw
    ·exact⟨j+1,by omega,by go_num,S2⟩
    simp[intOf];omega
   have an:=N.out.1 hE;subst an;have B:least E a≠a:=λe=>by have:=i.out.2 e;omega
   have q1:((j:Int)==(c:Int))=false:=by simp;omega
   have c1:=(S2.s 256 _ (q1r _ _)).1;obtain⟨c5,ay⟩:=S2.s a _ (q1O _ _ _ h);have S3:=S2.put a h (j:Int);have e2:reps E (a+1)=reps E a:=by rw[reps_succ,if_neg B,List.append_nil]
   rw[<-e2]at S3;have C:Hid (∀b,b<a+1->(if b=a then (j:Int) else f b)=idxI E b):=λb hb=>by
    by_cases Q:b=a
    ·subst Q;simp[idxI,<-m.out]
    simp[Q];exact HF.out b (by omega)
   have af:=hyd S3;clear S2 S3 B e2;go_wp2_with fail;go_roundw
   ·exact⟨a+1,_,_,by omega,by go_num,C,af.out⟩
   simp[intOf];omega
  have⟨hjc2,hic⟩:c=j/\id=c:=by omega
  have A:=i.out.1 hic;have aa:=hyd hic;clear hic hj T i;subst hjc2;have am:¬(c:Int)<c:=by omega
  have q1:((c:Int)==(c:Int))=true:=by simp
  have hx:=box_bel wr (.cells #[.int .u8 (a:Int)] 5);have ah:=S1.l.below hx;have ao:(wr.alloc (.cells #[.int .u8 (a:Int)] 5)).cell? ⟨wr.heap.size,0,none⟩=some (.int .u8 (a:Int)):=by rw[World.cell?_alloc_new];rfl
  have aj:=Nat.le_trans S1.size hx.size;have HK:Hid (∀w5,(wr.alloc (.cells #[.int .u8 (a:Int)] 5)).grownBy w5 (Value.slice va c vc).ownBlock->TC (w.heap.size+1) (kcells f (.slice va c vc)) w5):=λw5 hg=>
   (S1.s.belowK hx).block (hg.block _ (by have:=S1.size;have:=hx.size;omega) (λe=>by have:=(S1.l.blk _ e.symm).1;omega))
  have ae:=hyd S1;have O:=hyd A;clear S1 hx A;go_wp2_with (first|(at_builtin;refine q3X (by rfl) _ _ (by rfl) (w.heap.size+2) (.slice va c vc) (reps E a) (by rfl) ah (by rw[F.out];omega) wr.heap.size a (by rfl) ao aj _ rfl ?_;rw[F.out];intro g cap w5 ai o aC aE;obtain⟨c6,az⟩:=HK.out w5 o 256 _ (q1r _ _);have S5:=ae.out.putL rfl ai o;obtain⟨c7,aA⟩:=S5.s a _ (q1O _ _ _ h)));have S6:=S5.put a h (c:Int);have e2:reps E a++[a]=reps E (a+1):=by rw[reps_succ,if_pos O.out]
  rw[e2]at S6;have C:Hid (∀b,b<a+1->(if b=a then (c:Int) else f b)=idxI E b):=λb hb=>by
   by_cases Q:b=a
   ·subst Q;simp[idxI,<-m.out,aa.out]
   simp[Q];exact HF.out b (by omega)
  go_roundw
  ·exact⟨a+1,_,_,by omega,by go_num,C,S6⟩
  simp[intOf];omega
 have⟨am,haN⟩:¬(a:Int)<256/\a=256:=by omega
 subst haN;have V:=S1.s.range;have X:wr.there w.heap.size 0 257:=by have:=S1.z.there;rw[q1b]at this;exact this
 obtain⟨L,R⟩:=nam (kcells f vl);have t:L.length=257:=by rw[R];exact q1b _ _
 rw[<-R]at V;have hG:=q0e w.heap.size L 0 wr;have U:=World.rangeAt_setCells_same wr w.heap.size 0 L (by rw[t];exact X);have n:=run_loadVar_mid (P:=Tryz.prog) (wr.setCells w.heap.size 0 L) w.heap.size 0 142 L _ U Tryz.underlying142 rfl (by rw[t];exact q2H);obtain⟨W9,G⟩:=nam (wr.setCells w.heap.size 0 L);rw[<-G]at hG n;have ag:=hyd G;have M:=hyd n;have ab:Hid (L.toArray.all (·.oneCell')=true):=by
  obtain⟨a1,c1,h1,_⟩:=S1.l.at_;show _=true;rw[R,h1];simp[kcells,Value.oneCell']
 have D:=hyd t;have HL:=hyd R;have ac:=hyd S1;clear G U n R t S1;go_wp2_with (first|(refine wpList_load_mid rfl 142 _ rfl (w.heap.size+1) 0 rfl L _ V Tryz.underlying142 rfl (by rw[D.out];exact q2H) ?_)|(refine wpList_store_mid rfl 142 _ _ rfl w.heap.size 0 L.toArray rfl rfl (by simpa[D.out]using X) (by simpa[D.out]using q2H) ab.out ?_;rw[List.toList_toArray,<-ag.out]));refine bodyPost_ret (v:=.agg L.toArray) (res_load1 Tryz.results65 rfl M.out) rfl ?_;have S1:=ac.out;refine⟨f,vl,by rw[HL.out],HF.out,(S1.l.grown hG (λk hk e=>?_)).mono (by omega),S1.b.grown hG S1.b.size (λq hq=>by cases hq;exact Nat.le_refl _)⟩;have:=(S1.l.blk k hk).1;have:=Option.some.inj e;omega
end Go.Proofs.YtoaaklhpmhjhkaaGreat
