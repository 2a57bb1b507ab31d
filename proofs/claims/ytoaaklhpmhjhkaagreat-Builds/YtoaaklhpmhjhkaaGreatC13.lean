import Derived.Test.YtoaaklhpmhjhkaaGreatC12
set_option maxRecDepth 100000
set_option maxHeartbeats 4000000
set_option linter.all false
namespace Go.Proofs.YtoaaklhpmhjhkaaGreat
open Go.RowKit
open Bm
structure EI (w:World) (r s c:Nat->Bool) (W:World):Prop where
 a:TC w.heap.size (bl r 193) W
 b:TC (w.heap.size+1) (bl s 193) W
 z:TC (w.heap.size+2) (bl (fun _=>false) 193) W
 c:TC (w.heap.size+3) (bl c 193) W
 e:Below w.heap.size w W
variable {a : Act}{ops : Array Oper}{Q : Exit → Act → World → Prop}{l : List (Nat → Bool)}{rest : List Oper}{base : Nat}{o : Oper}{row : Option Nat}{v : Value}{W W' w w' : World}
theorem EI.below {r s c:Nat->Bool} (h:EI w r s c W) (hW:Below W.heap.size W W'):EI w r s c W':=
 ⟨h.a.block (hW.block _ h.a.ltB),h.b.block (hW.block _ h.b.ltB),h.z.block (hW.block _ h.z.ltB),h.c.block (hW.block _ h.c.ltB),h.e.trans (hW.mono h.e.size)⟩
theorem EI.put {r s c:Nat->Bool} (h:EI w r s c W) (o m:Nat) (g:Nat->Bool) (hm:o+m<=193):EI w r s (over c o m g) (W.setCells (w.heap.size+3) o (bl g m)):=by
 have d:=q0e (w.heap.size+3) (bl g m) o W;exact⟨h.a.block (d.block _ h.a.ltB (λe=>by have:=Option.some.inj e;omega)),h.b.block (d.block _ h.b.ltB (λe=>by have:=Option.some.inj e;omega)),h.z.block (d.block _ h.z.ltB (λe=>by have:=Option.some.inj e;omega)),
  h.c.setPart o m g hm,h.e.grown d h.e.size (λq f=>by cases f;omega)⟩
theorem q9G (r s:Nat->Bool) (w:World):
  Calls Tryz.prog 200 #[.agg (bl r 193).toArray,.agg (bl s 193).toArray] w λe w'=>e=.returned (.agg (bl (λi=>r i || s i) 193).toArray)/\Below w.heap.size w w':=by
 have hz:=q1C;obtain⟨W1,J⟩:=nam (w.alloc (.cells (bl r 193).toArray 247));obtain⟨W2,K⟩:=nam (W1.alloc (.cells (bl s 193).toArray 247));obtain⟨V,N⟩:=nam (W2.alloc (.cells (bl (λ_=>false) 193).toArray 247));obtain⟨W4,O⟩:=nam (V.alloc (.cells (bl (λ_=>false) 193).toArray 247));have z1:W1.heap.size=w.heap.size+1:=by rw[J];simp
 have z2:W2.heap.size=w.heap.size+2:=by rw[K];simp[z1]
 have z3:V.heap.size=w.heap.size+3:=by rw[N];simp[z2]
 have S0:EI w r s (λ_=>false) W4:=by
  have T1:=TC.boxed w (bl r 193) 247;have T2:=TC.boxed W1 (bl s 193) 247;have T3:=TC.boxed W2 (bl (λ_=>false) 193) 247;have T4:=TC.boxed V (bl (λ_=>false) 193) 247;have x1:=box_bel w (.cells (bl r 193).toArray 247);have x2:=box_bel W1 (.cells (bl s 193).toArray 247);have x3:=box_bel W2 (.cells (bl (λ_=>false) 193).toArray 247);have x4:=box_bel V (.cells (bl (λ_=>false) 193).toArray 247);rw[<-J]at T1 x1;rw[<-K,z1]at T2 x2;rw[<-N,z2]at T3 x3;rw[<-O,z3]at T4 x4;exact⟨((T1.block (x2.block _ (by omega))).block (x3.block _ (by omega))).block (x4.block _ (by omega)),(T2.block (x3.block _ (by omega))).block (x4.block _ (by omega)),T3.block (x4.block _ (by omega)),T4,((x1.trans (x2.mono (by omega))).trans (x3.mono (by omega))).trans (x4.mono (by omega))⟩
 have W:W4=(((w.alloc (.cells (bl r 193).toArray 247)).alloc (.cells (bl s 193).toArray 247)).alloc (.cells (bl (λ_=>false) 193).toArray 247)).alloc (.cells (bl (λ_=>false) 193).toArray 247):=by rw[O,N,K,J]
 have p:=hyd W;have ca:V.cell? ⟨w.heap.size,0,none⟩=some (.bool (r 0)):=by
  have h:=(S0.a 0 _ (q0x r (by omega))).1;rw[O,World.cell?_alloc_old _ _ _ (by show w.heap.size≠V.heap.size;omega)]at h;exact h
 have cb:V.cell? ⟨w.heap.size+1,0,none⟩=some (.bool (s 0)):=by
  have h:=(S0.b 0 _ (q0x s (by omega))).1;rw[O,World.cell?_alloc_old _ _ _ (by show w.heap.size+1≠V.heap.size;omega)]at h;exact h
 rw[N,K,J]at ca cb;have Hs:=hyd S0;clear S0 J K N O z1 z2 z3 W;obtain⟨x,hx⟩:=nam (r 0);obtain⟨y,hy⟩:=nam (s 0);rw[<-hx]at ca;rw[<-hy]at cb;have Hx:=hyd hx;have Hy:=hyd hy;clear hx hy;obtain⟨L,hL⟩:=nam (bl (λi=>i==0&&(x || y)) 193);have ai:L.length=193:=by rw[hL];exact q0c _ _
 have HL:=hyd hL;have T:=hyd ai;have ag:Hid (L.toArray.all (·.oneCell')=true):=by show _=true;rw[hL];exact q0w _ _
 have aj:=Hs.out.c.thereAt 0 193 (by omega);obtain⟨W5,af⟩:=nam (W4.setCells (w.heap.size+3) 0 L);have S5:EI w r s (over (λ_=>false) 0 193 (λi=>i==0&&(x || y))) W5:=by rw[af,hL];exact Hs.out.put 0 193 _ (by omega)
 have ah:=hyd af;have aa:=hyd S5;clear hL ai af;have r1:=S5.a.sub 1 96 (by omega);have r2:=S5.b.sub 1 96 (by omega);clear S5;have HF:Hid (∀i,i<193->over (over (over (λ_=>false) 0 193 (λi=>i==0&&(x || y))) 1 96 (λi=>r (1+i) || s (1+i))) 97 96 (λi=>r (97+i) || s (97+i)) i=(r i || s i)):=λi hi=>by
  unfold over;by_cases h1:97<=i/\i<97+96
  ·rw[if_pos h1];show(r (97+(i-97)) || s (97+(i-97)))=_;rw[show 97+(i-97)=i by omega]
  rw[if_neg h1];by_cases h2:1<=i/\i<1+96
  ·rw[if_pos h2];show(r (1+(i-1)) || s (1+(i-1)))=_;rw[show 1+(i-1)=i by omega]
  rw[if_neg h2,if_pos (by omega)];have:i=0:=by omega
  subst this;simp[Hx.out,Hy.out]
 obtain⟨C,hC⟩:=nam (over (λ_=>false) 0 193 (λi=>i==0&&(x || y)));rw[<-hC]at aa HF;clear Hx Hy hC;cases x
 ·go_enter Tryz.func200,Tryz.ntmps200;go_wp2_with (first|(refine q2L rfl _ rfl y (by rfl) ?_;rw[show bl (λi=>i==0&&y) 193=L from (by rw[HL.out];rfl)])|(refine wpList_store_mid rfl 247 _ _ rfl (w.heap.size+3) 0 L.toArray rfl rfl (by rw[<-p.out];simpa[T.out]using aj) (by simpa[T.out]using q0h) ag.out ?_;rw[List.toList_toArray,<-p.out,<-ah.out])|(refine wpList_load_mid rfl 132 _ rfl w.heap.size 1 rfl _ _ r1 Tryz.underlying132 rfl (by rw[q0c];exact q0g) ?_)|(refine wpList_load_mid rfl 132 _ rfl (w.heap.size+1) 1 rfl _ _ r2 Tryz.underlying132 rfl (by rw[q0c];exact q0g) ?_));refine Calls.mono (q0Z _ _ W5) ?_;rintro e w6 ⟨rfl,F⟩;have S6:=aa.out.below F;obtain⟨R,d⟩:=nam (bl (λi=>r (1+i) || s (1+i)) 96);have t:=S6.put 1 96 (λi=>r (1+i) || s (1+i)) (by omega);have t1:=S6.c.thereAt 1 96 (by omega);rw[<-d]at t;obtain⟨W7,n⟩:=nam (w6.setCells (w.heap.size+3) 1 R);rw[<-n]at t;have ac:=hyd n;have A:Hid (R.length=96):=by show _=_;rw[d];exact q0c _ _
  have X:Hid (R.toArray.all (·.oneCell')=true):=by show _=true;rw[d];exact q0w _ _
  rw[<-d];have r3:=t.a.sub 97 96 (by omega);have r4:=t.b.sub 97 96 (by omega);have ab:=hyd t;clear n d S6 t F r1 r2;go_wp2_with (first|(refine wpList_store_mid rfl 132 _ _ rfl (w.heap.size+3) 1 R.toArray rfl rfl (by simpa[A.out]using t1) (by simpa[A.out]using q0g) X.out ?_;rw[List.toList_toArray,<-ac.out])|(refine wpList_load_mid rfl 132 _ rfl w.heap.size 97 rfl _ _ r3 Tryz.underlying132 rfl (by rw[q0c];exact q0g) ?_)|(refine wpList_load_mid rfl 132 _ rfl (w.heap.size+1) 97 rfl _ _ r4 Tryz.underlying132 rfl (by rw[q0c];exact q0g) ?_));refine Calls.mono (q0Z _ _ W7) ?_;rintro e w8 ⟨rfl,G⟩;have S8:=ab.out.below G;obtain⟨S,f⟩:=nam (bl (λi=>r (97+i) || s (97+i)) 96);have m:=S8.put 97 96 (λi=>r (97+i) || s (97+i)) (by omega);have t2:=S8.c.thereAt 97 96 (by omega);rw[<-f]at m;obtain⟨U,o⟩:=nam (w8.setCells (w.heap.size+3) 97 S);rw[<-o]at m;have ae:=hyd o;have B:Hid (S.length=96):=by show _=_;rw[f];exact q0c _ _
  have Y:Hid (S.toArray.all (·.oneCell')=true):=by show _=true;rw[f];exact q0w _ _
  rw[<-f];obtain⟨M,I⟩:=nam (bl (over (over C 1 96 (λi=>r (1+i) || s (1+i))) 97 96 (λi=>r (97+i) || s (97+i))) 193);have Sc:=m.c;rw[<-I]at Sc;have k:M.length=193:=by rw[I];exact q0c _ _
  have HM:Hid (M=bl (λi=>r i || s i) 193):=by show _=_;rw[I];exact q0o (λi hi=>HF.out i hi)
  have rM:=Sc.range;have tz:=m.z.thereAt 0 193 (by omega);have H:=q0e (w.heap.size+2) M 0 U;have Q:=World.rangeAt_setCells_same U (w.heap.size+2) 0 M (by rw[k];exact tz);have j:=run_loadVar_mid (P:=Tryz.prog) (U.setCells (w.heap.size+2) 0 M) (w.heap.size+2) 0 247 M _ Q Tryz.underlying247 rfl (by rw[k];exact q0h);have u:=m.e.grown H m.e.size (λq hq=>by cases hq;omega);obtain⟨ak,g⟩:=nam (U.setCells (w.heap.size+2) 0 M);rw[<-g]at j u;have D:=hyd g;have E:=hyd j;have l:=hyd k;have Z:Hid (M.toArray.all (·.oneCell')=true):=by show _=true;rw[I];exact q0w _ _
  clear o f S8 m Sc I k H Q j g G r3 r4 t1;go_wp2_with (first|(refine wpList_store_mid rfl 132 _ _ rfl (w.heap.size+3) 97 S.toArray rfl rfl (by simpa[B.out]using t2) (by simpa[B.out]using q0g) Y.out ?_;rw[List.toList_toArray,<-ae.out])|(refine wpList_load_mid rfl 247 _ rfl (w.heap.size+3) 0 rfl M _ rM Tryz.underlying247 rfl (by rw[l.out];exact q0h) ?_)|(refine wpList_store_mid rfl 247 _ _ rfl (w.heap.size+2) 0 M.toArray rfl rfl (by simpa[l.out]using tz) (by simpa[l.out]using q0h) Z.out ?_;rw[List.toList_toArray,<-D.out]));refine bodyPost_ret (v:=.agg M.toArray) (res_load1 Tryz.results200 rfl E.out) rfl ?_;exact⟨by rw[HM.out],u⟩
 go_enter Tryz.func200,Tryz.ntmps200;go_wp2_with (first|(refine q2L rfl _ rfl true (by rfl) ?_;rw[show bl (λi=>i==0&&true) 193=L from (by rw[HL.out];rfl)])|(refine wpList_store_mid rfl 247 _ _ rfl (w.heap.size+3) 0 L.toArray rfl rfl (by rw[<-p.out];simpa[T.out]using aj) (by simpa[T.out]using q0h) ag.out ?_;rw[List.toList_toArray,<-p.out,<-ah.out])|(refine wpList_load_mid rfl 132 _ rfl w.heap.size 1 rfl _ _ r1 Tryz.underlying132 rfl (by rw[q0c];exact q0g) ?_)|(refine wpList_load_mid rfl 132 _ rfl (w.heap.size+1) 1 rfl _ _ r2 Tryz.underlying132 rfl (by rw[q0c];exact q0g) ?_));refine Calls.mono (q0Z _ _ W5) ?_;rintro e w6 ⟨rfl,F⟩;have S6:=aa.out.below F;obtain⟨R,d⟩:=nam (bl (λi=>r (1+i) || s (1+i)) 96);have t:=S6.put 1 96 (λi=>r (1+i) || s (1+i)) (by omega);have t1:=S6.c.thereAt 1 96 (by omega);rw[<-d]at t;obtain⟨W7,n⟩:=nam (w6.setCells (w.heap.size+3) 1 R);rw[<-n]at t;have ac:=hyd n;have A:Hid (R.length=96):=by show _=_;rw[d];exact q0c _ _
 have X:Hid (R.toArray.all (·.oneCell')=true):=by show _=true;rw[d];exact q0w _ _
 rw[<-d];have r3:=t.a.sub 97 96 (by omega);have r4:=t.b.sub 97 96 (by omega);have ab:=hyd t;clear n d S6 t F r1 r2;go_wp2_with (first|(refine wpList_store_mid rfl 132 _ _ rfl (w.heap.size+3) 1 R.toArray rfl rfl (by simpa[A.out]using t1) (by simpa[A.out]using q0g) X.out ?_;rw[List.toList_toArray,<-ac.out])|(refine wpList_load_mid rfl 132 _ rfl w.heap.size 97 rfl _ _ r3 Tryz.underlying132 rfl (by rw[q0c];exact q0g) ?_)|(refine wpList_load_mid rfl 132 _ rfl (w.heap.size+1) 97 rfl _ _ r4 Tryz.underlying132 rfl (by rw[q0c];exact q0g) ?_));refine Calls.mono (q0Z _ _ W7) ?_;rintro e w8 ⟨rfl,G⟩;have S8:=ab.out.below G;obtain⟨S,f⟩:=nam (bl (λi=>r (97+i) || s (97+i)) 96);have m:=S8.put 97 96 (λi=>r (97+i) || s (97+i)) (by omega);have t2:=S8.c.thereAt 97 96 (by omega);rw[<-f]at m;obtain⟨U,o⟩:=nam (w8.setCells (w.heap.size+3) 97 S);rw[<-o]at m;have ae:=hyd o;have B:Hid (S.length=96):=by show _=_;rw[f];exact q0c _ _
 have Y:Hid (S.toArray.all (·.oneCell')=true):=by show _=true;rw[f];exact q0w _ _
 rw[<-f];obtain⟨M,I⟩:=nam (bl (over (over C 1 96 (λi=>r (1+i) || s (1+i))) 97 96 (λi=>r (97+i) || s (97+i))) 193);have Sc:=m.c;rw[<-I]at Sc;have k:M.length=193:=by rw[I];exact q0c _ _
 have HM:Hid (M=bl (λi=>r i || s i) 193):=by show _=_;rw[I];exact q0o (λi hi=>HF.out i hi)
 have rM:=Sc.range;have tz:=m.z.thereAt 0 193 (by omega);have H:=q0e (w.heap.size+2) M 0 U;have Q:=World.rangeAt_setCells_same U (w.heap.size+2) 0 M (by rw[k];exact tz);have j:=run_loadVar_mid (P:=Tryz.prog) (U.setCells (w.heap.size+2) 0 M) (w.heap.size+2) 0 247 M _ Q Tryz.underlying247 rfl (by rw[k];exact q0h);have u:=m.e.grown H m.e.size (λq hq=>by cases hq;omega);obtain⟨ak,g⟩:=nam (U.setCells (w.heap.size+2) 0 M);rw[<-g]at j u;have D:=hyd g;have E:=hyd j;have l:=hyd k;have Z:Hid (M.toArray.all (·.oneCell')=true):=by show _=true;rw[I];exact q0w _ _
 clear o f S8 m Sc I k H Q j g G r3 r4 t1;go_wp2_with (first|(refine wpList_store_mid rfl 132 _ _ rfl (w.heap.size+3) 97 S.toArray rfl rfl (by simpa[B.out]using t2) (by simpa[B.out]using q0g) Y.out ?_;rw[List.toList_toArray,<-ae.out])|(refine wpList_load_mid rfl 247 _ rfl (w.heap.size+3) 0 rfl M _ rM Tryz.underlying247 rfl (by rw[l.out];exact q0h) ?_)|(refine wpList_store_mid rfl 247 _ _ rfl (w.heap.size+2) 0 M.toArray rfl rfl (by simpa[l.out]using tz) (by simpa[l.out]using q0h) Z.out ?_;rw[List.toList_toArray,<-D.out]));refine bodyPost_ret (v:=.agg M.toArray) (res_load1 Tryz.results200 rfl E.out) rfl ?_;exact⟨by rw[HM.out],u⟩
theorem q9N (w:World):(zeroValue 251).run Tryz.prog w=.ok (.agg (bl (λ_=>false) 256).toArray) w:=by kernel_rfl
theorem q4M:(Tryz.prog.info? 251).map (·.size)=some 256:=by kernel_rfl
def flatH (l:List (Nat->Bool)):List Value:=l.flatMap λf=>bl f 256
theorem q7v (a b:List (Nat->Bool)):flatH (a++b)=flatH a++flatH b:=by simp[flatH]
theorem y0K (f:Nat->Bool):flatH [f]=bl f 256:=by simp[flatH]
theorem q8S:∀(l:List (Nat->Bool)) (s j:Nat) (f:Nat->Bool),l[s]?=some f->j<256->(flatH l)[s*256+j]?=some (.bool (f j))
 |[],s,j,f,h,_=>by simp at h
 |g::l,0,j,f,h,hj=>by
  simp at h;subst h;rw[show flatH (g::l)=bl g 256++flatH l from by simp[flatH],List.getElem?_append_left (by rw[q0c];omega),Nat.zero_mul,Nat.zero_add,q0x _ hj]
 |g::l,s+1,j,f,h,hj=>by
  rw[show flatH (g::l)=bl g 256++flatH l from by simp[flatH],List.getElem?_append_right (by rw[q0c];omega),q0c,show(s+1)*256+j-256=s*256+j by omega];exact q8S l s j f (by simpa using h) hj
def OwnH (base:Nat) (v:Value) (l:List (Nat->Bool)) (w:World):Prop:=w.ownsRow base 251 256 v l.length (flatH l)
theorem OwnH.nil (base:Nat) (w:World):OwnH base (.slice none 0 0) [] w:=⟨rfl,Or.inl ⟨rfl,rfl⟩⟩
theorem OwnH.blk (h:OwnH base v l w):∀k,v.ownBlock=some k->base<=k/\k<w.heap.size:=λk a=>h.lt k a
theorem OwnH.keep (h:OwnH base v l w) (hk:∀k,v.ownBlock=some k->w'.heap[k]?=w.heap[k]?):OwnH base v l w':=by
 refine⟨h.1,?_⟩;rcases h.2 with b|⟨g,cap,a,rfl,c,d,e⟩
 ·exact Or.inl b
 exact Or.inr ⟨g,cap,a,rfl,c,by rw[hk g rfl];exact d,e⟩
theorem OwnH.below (h:OwnH base v l w) (hW:Below w.heap.size w w'):OwnH base v l w':=h.keep (λk a=>hW.block k (h.blk k a).2)
theorem OwnH.grown (h:OwnH base v l w) (hg:w.grownBy w' row) (hne:∀k,v.ownBlock=some k->row≠some k):OwnH base v l w':=
 h.keep (λk a=>hg.block k (h.blk k a).2 (λe=>hne k a e.symm))
theorem OwnH.at_ (h:OwnH base v l w):∃ad cap,v=.slice ad l.length cap/\∀(s:Nat) (f:Nat->Bool),l[s]?=some f->∃g,ad=some ⟨g,0,none⟩/\w.rangeAt g (s*256) (bl f 256):=by
 rcases h.2 with ⟨rfl,e⟩|⟨g,cap,d,rfl,m,n,o,p,q,r⟩
 ·refine⟨none,0,by rw[e],λi x k=>?_⟩;have t:=(List.getElem?_eq_some_iff.1 k).1;omega
 refine⟨some ⟨g,0,none⟩,cap,rfl,λs f hs=>⟨g,rfl,λj v a=>?_⟩⟩;have b:j<256:=by have:=(List.getElem?_eq_some_iff.1 a).1;rw[q0c]at this;exact this
 rw[q0x _ b]at a;cases a;have c:=h.cells (g:=g) rfl (s*256+j) (.bool (f j)) (q8S l s j f hs b);rw[Addr.add_lit,Nat.zero_add]at c;exact c
theorem eInfoSet:∃i,Tryz.prog.info? 251=some i/\i.zero=some (.agg (bl (λ_=>false) 256).toArray)/\i.size=256/\i.bytes=256:=by
 have h:(Tryz.prog.info? 251).isSome=true:=by kernel_rfl
 obtain⟨i,a⟩:=Option.isSome_iff_exists.1 h;refine⟨i,a,?_,?_,?_⟩
 ·have:((Tryz.prog.info? 251).bind (·.zero))=some (.agg (bl (λ_=>false) 256).toArray):=by kernel_rfl
  rw[a]at this;simpa using this
 ·have:((Tryz.prog.info? 251).map (·.size))=some 256:=by kernel_rfl
  rw[a]at this;simpa using this
 have:((Tryz.prog.info? 251).map (·.bytes))=some 256:=by kernel_rfl
 rw[a]at this;simpa using this
theorem q3c (hgd:o.guard=none) (s x:Operand)
  (ho:o.op=.call { callee:=.builtin .append,args:=#[s,x],argTypes:=#[129,129] }) (base:Nat)
  (v:Value) (l:List (Nat->Bool)) (hs:a.eval s=v) (hown:OwnH base v l w) (hn:l.length<=100000)
  (B:Nat) (f:Nat->Bool) (hx:a.eval x=.slice (some ⟨B,0,none⟩) 1 1) (hnews:w.rangeAt B 0 (bl f 256)) (hbase:base<=w.heap.size) (H:Nat) (hH:w.heap.size=H)
  (h:∀g cap w',OwnH base (.slice (some ⟨g,0,none⟩) (l.length+1) cap) (l++[f]) w'->w.grownBy w' v.ownBlock->(v.ownBlock=some g\/g=H)->g<w'.heap.size->wpList Tryz.prog ops Q rest (a.put o.dst (.slice (some ⟨g,0,none⟩) (l.length+1) cap)) w'):wpList Tryz.prog ops Q (o::rest) a w:=by
 obtain⟨i,q,c,d,e⟩:=eInfoSet;refine wpList_append_lies w hgd s x 129 ho base 251 i _ 256 256 Tryz.underlying129 q c d e (by simp[Value.cells,q0c]) (by omega) v l.length (flatH l) hs hown ⟨B,0,none⟩ 1 1 (bl f 256) hx (by rw[q0c]) (λj u b=>by rw[Addr.add_lit];exact hnews j u b) (λu b=>?_) (by omega) (by unfold maxLen;omega) (by omega) hbase H hH ?_
 ·have:=q0w f 256;rw[Array.all_eq_true']at this;exact this u (by simpa using b)
 intro g cap w' k m n p;refine h g cap w' ?_ m n p;unfold OwnH;rw[List.length_append,q7v,y0K];exact k
theorem q6V (f:Nat->Bool) (w:World):(Instr.buildSlice 129 1 #[(0,.agg (bl f 256).toArray)]).run Tryz.prog w=.ok (.slice (some ⟨w.heap.size,0,none⟩) 1 1) (w.alloc (.cells (bl f 256).toArray 251)):=by
 have hs:(sizeOf 251).run Tryz.prog w=.ok 256 w:=by kernel_rfl
 have c:=q9N w;have a:=q6y (λi=>some (i*256,256)) ((Array.range (1*256)).map ((bl (λ_=>false) 256).toArray[·%(bl (λ_=>false) 256).toArray.size]!)) (.agg (bl f 256).toArray) 256 rfl (by simp[Value.cells,q0c]) (by simp);have b:(Value.agg (bl f 256).toArray).cells=(bl f 256).toArray:=rfl;have e2:(Value.agg (bl (λ_=>false) 256).toArray).cells=(bl (λ_=>false) 256).toArray:=rfl;rw[b]at a;simp only[Instr.buildSlice,Sem.run_bind,run_underlying Tryz.underlying129,Result.andThen_ok,hs,Sem.run_ite,c,e2,Sem.run_pure,a,newRow];simp
end Go.Proofs.YtoaaklhpmhjhkaaGreat
