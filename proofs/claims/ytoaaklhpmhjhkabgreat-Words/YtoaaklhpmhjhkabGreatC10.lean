import Derived.Test.YtoaaklhpmhjhkabGreatC09
set_option maxRecDepth 100000
set_option maxHeartbeats 4000000
set_option linter.all false
namespace Go.Proofs.YtoaaklhpmhjhkabGreat
open Go.RowKit
open Bm
structure EI (w:World) (r s c:Nat->Bool) (W:World):Prop where
 a:TC w.heap.size (bl r 193) W
 b:TC (w.heap.size+1) (bl s 193) W
 z:TC (w.heap.size+2) (bl (fun _=>false) 193) W
 c:TC (w.heap.size+3) (bl c 193) W
 e:Below w.heap.size w W
variable {a:Act}{ops:Array Oper}{Q:Exit->Act->World->Prop}{l:List (N_)}{rest:List Oper}{base:Nat}{o:Oper}{row:Option Nat}{v:Value}{W W' w w':World}
theorem EI.below {r s c:Nat->Bool} (h:EI w r s c W) (hW:Below W.heap.size W W'):EI w r s c W':=
 ⟨h.a.block (hW.block _ h.a.ltB),h.b.block (hW.block _ h.b.ltB),h.z.block (hW.block _ h.z.ltB),h.c.block (hW.block _ h.c.ltB),h.e.trans (hW.mono h.e.size)⟩
theorem EI.put {r s c:Nat->Bool} (h:EI w r s c W) (o m:Nat) (g:Nat->Bool) (hm:o+m<=193):EI w r s (XM c o m g) (W.setCells (w.heap.size+3) o (bl g m)):=by
 have hg:=Y6 (w.heap.size+3) (bl g m) o W;exact⟨h.a.block (hg.block _ h.a.ltB (fun e=>by have:=Option.some.inj e;omega)),h.b.block (hg.block _ h.b.ltB (fun e=>by have:=Option.some.inj e;omega)),h.z.block (hg.block _ h.z.ltB (fun e=>by have:=Option.some.inj e;omega)),
  h.c.setPart o m g hm,h.e.grown hg h.e.size (fun q hq=>by cases hq;omega)⟩
theorem Mh (r s:Nat->Bool) (w:World):
  Calls Tryz.prog 86 #[.agg (bl r 193).toArray,.agg (bl s 193).toArray] w fun e w'=>e=.returned (.agg (bl (fun i=>r i || s i) 193).toArray)/\Below w.heap.size w w':=by
 have hz:=Xh;obtain⟨W1,hW1⟩:=nam (w.alloc (.cells (bl r 193).toArray 142));obtain⟨W2,hW2⟩:=nam (W1.alloc (.cells (bl s 193).toArray 142));obtain⟨W3,hW3⟩:=nam (W2.alloc (.cells (bl (fun _=>false) 193).toArray 142));obtain⟨W4,hW4⟩:=nam (W3.alloc (.cells (bl (fun _=>false) 193).toArray 142));have z1:W1.heap.size=w.heap.size+1:=by rw[hW1];simp
 have z2:W2.heap.size=w.heap.size+2:=by rw[hW2];simp[z1]
 have z3:W3.heap.size=w.heap.size+3:=by rw[hW3];simp[z2]
 have S0:EI w r s (fun _=>false) W4:=by
  have T1:=TC.boxed w (bl r 193) 142;have T2:=TC.boxed W1 (bl s 193) 142;have T3:=TC.boxed W2 (bl (fun _=>false) 193) 142;have T4:=TC.boxed W3 (bl (fun _=>false) 193) 142;have x1:=box_bel w (.cells (bl r 193).toArray 142);have x2:=box_bel W1 (.cells (bl s 193).toArray 142);have x3:=box_bel W2 (.cells (bl (fun _=>false) 193).toArray 142);have x4:=box_bel W3 (.cells (bl (fun _=>false) 193).toArray 142);rw[<-hW1]at T1 x1;rw[<-hW2,z1]at T2 x2;rw[<-hW3,z2]at T3 x3;rw[<-hW4,z3]at T4 x4;exact⟨((T1.block (x2.block _ (by omega))).block (x3.block _ (by omega))).block (x4.block _ (by omega)),(T2.block (x3.block _ (by omega))).block (x4.block _ (by omega)),T3.block (x4.block _ (by omega)),T4,((x1.trans (x2.mono (by omega))).trans (x3.mono (by omega))).trans (x4.mono (by omega))⟩
 have hall:W4=(((w.alloc (.cells (bl r 193).toArray 142)).alloc (.cells (bl s 193).toArray 142)).alloc (.cells (bl (fun _=>false) 193).toArray 142)).alloc (.cells (bl (fun _=>false) 193).toArray 142):=by rw[hW4,hW3,hW2,hW1]
 have Hall:=hyd hall;have ca:W3.cell? ⟨w.heap.size,0,none⟩=some (.bool (r 0)):=by
  have h:=(S0.a 0 _ (YK r (by omega))).1;rw[hW4,World.cell?_alloc_old _ _ _ (by show w.heap.size≠W3.heap.size;omega)]at h;exact h
 have cb:W3.cell? ⟨w.heap.size+1,0,none⟩=some (.bool (s 0)):=by
  have h:=(S0.b 0 _ (YK s (by omega))).1;rw[hW4,World.cell?_alloc_old _ _ _ (by show w.heap.size+1≠W3.heap.size;omega)]at h;exact h
 rw[hW3,hW2,hW1]at ca cb;have Hs:=hyd S0;clear S0 hW1 hW2 hW3 hW4 z1 z2 z3 hall;obtain⟨x,hx⟩:=nam (r 0);obtain⟨y,hy⟩:=nam (s 0);rw[<-hx]at ca;rw[<-hy]at cb;have Hx:=hyd hx;have Hy:=hyd hy;clear hx hy;obtain⟨L,hL⟩:=nam (bl (fun i=>i==0&&(x || y)) 193);have hLl:L.length=193:=by rw[hL];exact Y7 _ _
 have HL:=hyd hL;have HLl:=hyd hLl;have HO1:Hid (L.toArray.all (·.oneCell')=true):=by show _=true;rw[hL];exact YO _ _
 have hth:=Hs.out.c.thereAt 0 193 (by omega);obtain⟨W5,hW5⟩:=nam (W4.setCells (w.heap.size+3) 0 L);have S5:EI w r s (XM (fun _=>false) 0 193 (fun i=>i==0&&(x || y))) W5:=by rw[hW5,hL];exact Hs.out.put 0 193 _ (by omega)
 have HW5:=hyd hW5;have HS5:=hyd S5;clear hL hLl hW5;have r1:=S5.a.sub 1 96 (by omega);have r2:=S5.b.sub 1 96 (by omega);clear S5;have HF:Hid (∀i,i<193->XM (XM (XM (fun _=>false) 0 193 (fun i=>i==0&&(x || y))) 1 96 (fun i=>r (1+i) || s (1+i))) 97 96 (fun i=>r (97+i) || s (97+i)) i=(r i || s i)):=fun i hi=>by
  unfold XM;by_cases h1:97<=i/\i<97+96
  ·rw[if_pos h1];show(r (97+(i-97)) || s (97+(i-97)))=_;rw[show 97+(i-97)=i by omega]
  ·rw[if_neg h1];by_cases h2:1<=i/\i<1+96
   ·rw[if_pos h2];show(r (1+(i-1)) || s (1+(i-1)))=_;rw[show 1+(i-1)=i by omega]
   ·rw[if_neg h2,if_pos (by omega)];have:i=0:=by omega
    subst this;simp[Hx.out,Hy.out]
 obtain⟨C,hC⟩:=nam (XM (fun _=>false) 0 193 (fun i=>i==0&&(x || y)));rw[<-hC]at HS5 HF;clear Hx Hy hC;cases x
 ·go_enter Tryz.func86,Tryz.ntmps86;go_wp2_with (first|(refine UV rfl _ rfl y (by rfl) ?_;rw[show bl (fun i=>i==0&&y) 193=L from (by rw[HL.out];rfl)])|(refine wpList_store_mid rfl 142 _ _ rfl (w.heap.size+3) 0 L.toArray rfl rfl (by rw[<-Hall.out];simpa[HLl.out]using hth) (by simpa[HLl.out]using Y3) HO1.out ?_;rw[List.toList_toArray,<-Hall.out,<-HW5.out])|(refine wpList_load_mid rfl 59 _ rfl w.heap.size 1 rfl _ _ r1 u_b rfl (by rw[Y7];exact Y2) ?_)|(refine wpList_load_mid rfl 59 _ rfl (w.heap.size+1) 1 rfl _ _ r2 u_b rfl (by rw[Y7];exact Y2) ?_));refine Calls.mono (XS _ _ W5) ?_;rintro e w6 ⟨rfl,hB6⟩;have S6:=HS5.out.below hB6;obtain⟨G1,hG1⟩:=nam (bl (fun i=>r (1+i) || s (1+i)) 96);have S7:=S6.put 1 96 (fun i=>r (1+i) || s (1+i)) (by omega);have t1:=S6.c.thereAt 1 96 (by omega);rw[<-hG1]at S7;obtain⟨W7,hW7⟩:=nam (w6.setCells (w.heap.size+3) 1 G1);rw[<-hW7]at S7;have HW7:=hyd hW7;have HG1:Hid (G1.length=96):=by show _=_;rw[hG1];exact Y7 _ _
  have HO2:Hid (G1.toArray.all (·.oneCell')=true):=by show _=true;rw[hG1];exact YO _ _
  rw[<-hG1];have r3:=S7.a.sub 97 96 (by omega);have r4:=S7.b.sub 97 96 (by omega);have HS7:=hyd S7;clear hW7 hG1 S6 S7 hB6 r1 r2;go_wp2_with (first|(refine wpList_store_mid rfl 59 _ _ rfl (w.heap.size+3) 1 G1.toArray rfl rfl (by simpa[HG1.out]using t1) (by simpa[HG1.out]using Y2) HO2.out ?_;rw[List.toList_toArray,<-HW7.out])|(refine wpList_load_mid rfl 59 _ rfl w.heap.size 97 rfl _ _ r3 u_b rfl (by rw[Y7];exact Y2) ?_)|(refine wpList_load_mid rfl 59 _ rfl (w.heap.size+1) 97 rfl _ _ r4 u_b rfl (by rw[Y7];exact Y2) ?_));refine Calls.mono (XS _ _ W7) ?_;rintro e w8 ⟨rfl,hB8⟩;have S8:=HS7.out.below hB8;obtain⟨G2,hG2⟩:=nam (bl (fun i=>r (97+i) || s (97+i)) 96);have S9:=S8.put 97 96 (fun i=>r (97+i) || s (97+i)) (by omega);have t2:=S8.c.thereAt 97 96 (by omega);rw[<-hG2]at S9;obtain⟨W9,hW9⟩:=nam (w8.setCells (w.heap.size+3) 97 G2);rw[<-hW9]at S9;have HW9:=hyd hW9;have HG2:Hid (G2.length=96):=by show _=_;rw[hG2];exact Y7 _ _
  have HO3:Hid (G2.toArray.all (·.oneCell')=true):=by show _=true;rw[hG2];exact YO _ _
  rw[<-hG2];obtain⟨M,hM⟩:=nam (bl (XM (XM C 1 96 (fun i=>r (1+i) || s (1+i))) 97 96 (fun i=>r (97+i) || s (97+i))) 193);have Sc:=S9.c;rw[<-hM]at Sc;have hMl:M.length=193:=by rw[hM];exact Y7 _ _
  have HM:Hid (M=bl (fun i=>r i || s i) 193):=by show _=_;rw[hM];exact YR (fun i hi=>HF.out i hi)
  have rM:=Sc.range;have tz:=S9.z.thereAt 0 193 (by omega);have hGr:=Y6 (w.heap.size+2) M 0 W9;have hr':=World.rangeAt_setCells_same W9 (w.heap.size+2) 0 M (by rw[hMl];exact tz);have hfin:=run_loadVar_mid (P:=Tryz.prog) (W9.setCells (w.heap.size+2) 0 M) (w.heap.size+2) 0 142 M _ hr' u_c rfl (by rw[hMl];exact Y3);have B10:=S9.e.grown hGr S9.e.size (fun q hq=>by cases hq;omega);obtain⟨W10,hW10⟩:=nam (W9.setCells (w.heap.size+2) 0 M);rw[<-hW10]at hfin B10;have HW10:=hyd hW10;have Hfin:=hyd hfin;have HMl:=hyd hMl;have HO4:Hid (M.toArray.all (·.oneCell')=true):=by show _=true;rw[hM];exact YO _ _
  clear hW9 hG2 S8 S9 Sc hM hMl hGr hr' hfin hW10 hB8 r3 r4 t1;go_wp2_with (first|(refine wpList_store_mid rfl 59 _ _ rfl (w.heap.size+3) 97 G2.toArray rfl rfl (by simpa[HG2.out]using t2) (by simpa[HG2.out]using Y2) HO3.out ?_;rw[List.toList_toArray,<-HW9.out])|(refine wpList_load_mid rfl 142 _ rfl (w.heap.size+3) 0 rfl M _ rM u_c rfl (by rw[HMl.out];exact Y3) ?_)|(refine wpList_store_mid rfl 142 _ _ rfl (w.heap.size+2) 0 M.toArray rfl rfl (by simpa[HMl.out]using tz) (by simpa[HMl.out]using Y3) HO4.out ?_;rw[List.toList_toArray,<-HW10.out]));refine bodyPost_ret (v:=.agg M.toArray) (res_load1 Tryz.results86 rfl Hfin.out) rfl ?_;exact⟨by rw[HM.out],B10⟩
 ·go_enter Tryz.func86,Tryz.ntmps86;go_wp2_with (first|(refine UV rfl _ rfl true (by rfl) ?_;rw[show bl (fun i=>i==0&&true) 193=L from (by rw[HL.out];rfl)])|(refine wpList_store_mid rfl 142 _ _ rfl (w.heap.size+3) 0 L.toArray rfl rfl (by rw[<-Hall.out];simpa[HLl.out]using hth) (by simpa[HLl.out]using Y3) HO1.out ?_;rw[List.toList_toArray,<-Hall.out,<-HW5.out])|(refine wpList_load_mid rfl 59 _ rfl w.heap.size 1 rfl _ _ r1 u_b rfl (by rw[Y7];exact Y2) ?_)|(refine wpList_load_mid rfl 59 _ rfl (w.heap.size+1) 1 rfl _ _ r2 u_b rfl (by rw[Y7];exact Y2) ?_));refine Calls.mono (XS _ _ W5) ?_;rintro e w6 ⟨rfl,hB6⟩;have S6:=HS5.out.below hB6;obtain⟨G1,hG1⟩:=nam (bl (fun i=>r (1+i) || s (1+i)) 96);have S7:=S6.put 1 96 (fun i=>r (1+i) || s (1+i)) (by omega);have t1:=S6.c.thereAt 1 96 (by omega);rw[<-hG1]at S7;obtain⟨W7,hW7⟩:=nam (w6.setCells (w.heap.size+3) 1 G1);rw[<-hW7]at S7;have HW7:=hyd hW7;have HG1:Hid (G1.length=96):=by show _=_;rw[hG1];exact Y7 _ _
  have HO2:Hid (G1.toArray.all (·.oneCell')=true):=by show _=true;rw[hG1];exact YO _ _
  rw[<-hG1];have r3:=S7.a.sub 97 96 (by omega);have r4:=S7.b.sub 97 96 (by omega);have HS7:=hyd S7;clear hW7 hG1 S6 S7 hB6 r1 r2;go_wp2_with (first|(refine wpList_store_mid rfl 59 _ _ rfl (w.heap.size+3) 1 G1.toArray rfl rfl (by simpa[HG1.out]using t1) (by simpa[HG1.out]using Y2) HO2.out ?_;rw[List.toList_toArray,<-HW7.out])|(refine wpList_load_mid rfl 59 _ rfl w.heap.size 97 rfl _ _ r3 u_b rfl (by rw[Y7];exact Y2) ?_)|(refine wpList_load_mid rfl 59 _ rfl (w.heap.size+1) 97 rfl _ _ r4 u_b rfl (by rw[Y7];exact Y2) ?_));refine Calls.mono (XS _ _ W7) ?_;rintro e w8 ⟨rfl,hB8⟩;have S8:=HS7.out.below hB8;obtain⟨G2,hG2⟩:=nam (bl (fun i=>r (97+i) || s (97+i)) 96);have S9:=S8.put 97 96 (fun i=>r (97+i) || s (97+i)) (by omega);have t2:=S8.c.thereAt 97 96 (by omega);rw[<-hG2]at S9;obtain⟨W9,hW9⟩:=nam (w8.setCells (w.heap.size+3) 97 G2);rw[<-hW9]at S9;have HW9:=hyd hW9;have HG2:Hid (G2.length=96):=by show _=_;rw[hG2];exact Y7 _ _
  have HO3:Hid (G2.toArray.all (·.oneCell')=true):=by show _=true;rw[hG2];exact YO _ _
  rw[<-hG2];obtain⟨M,hM⟩:=nam (bl (XM (XM C 1 96 (fun i=>r (1+i) || s (1+i))) 97 96 (fun i=>r (97+i) || s (97+i))) 193);have Sc:=S9.c;rw[<-hM]at Sc;have hMl:M.length=193:=by rw[hM];exact Y7 _ _
  have HM:Hid (M=bl (fun i=>r i || s i) 193):=by show _=_;rw[hM];exact YR (fun i hi=>HF.out i hi)
  have rM:=Sc.range;have tz:=S9.z.thereAt 0 193 (by omega);have hGr:=Y6 (w.heap.size+2) M 0 W9;have hr':=World.rangeAt_setCells_same W9 (w.heap.size+2) 0 M (by rw[hMl];exact tz);have hfin:=run_loadVar_mid (P:=Tryz.prog) (W9.setCells (w.heap.size+2) 0 M) (w.heap.size+2) 0 142 M _ hr' u_c rfl (by rw[hMl];exact Y3);have B10:=S9.e.grown hGr S9.e.size (fun q hq=>by cases hq;omega);obtain⟨W10,hW10⟩:=nam (W9.setCells (w.heap.size+2) 0 M);rw[<-hW10]at hfin B10;have HW10:=hyd hW10;have Hfin:=hyd hfin;have HMl:=hyd hMl;have HO4:Hid (M.toArray.all (·.oneCell')=true):=by show _=true;rw[hM];exact YO _ _
  clear hW9 hG2 S8 S9 Sc hM hMl hGr hr' hfin hW10 hB8 r3 r4 t1;go_wp2_with (first|(refine wpList_store_mid rfl 59 _ _ rfl (w.heap.size+3) 97 G2.toArray rfl rfl (by simpa[HG2.out]using t2) (by simpa[HG2.out]using Y2) HO3.out ?_;rw[List.toList_toArray,<-HW9.out])|(refine wpList_load_mid rfl 142 _ rfl (w.heap.size+3) 0 rfl M _ rM u_c rfl (by rw[HMl.out];exact Y3) ?_)|(refine wpList_store_mid rfl 142 _ _ rfl (w.heap.size+2) 0 M.toArray rfl rfl (by simpa[HMl.out]using tz) (by simpa[HMl.out]using Y3) HO4.out ?_;rw[List.toList_toArray,<-HW10.out]));refine bodyPost_ret (v:=.agg M.toArray) (res_load1 Tryz.results86 rfl Hfin.out) rfl ?_;exact⟨by rw[HM.out],B10⟩
theorem Lf (w:World):(zeroValue 146).run Tryz.prog w=.ok (.agg (bl (fun _=>false) 256).toArray) w:=by kernel_rfl
theorem Ss:(Tryz.prog.info? 146).map (·.size)=some 256:=by kernel_rfl
def WU (l:List (Nat->Bool)):List Value:=l.flatMap fun f=>bl f 256
theorem OE (a b:List (Nat->Bool)):WU (a++b)=WU a++WU b:=by simp[WU]
theorem Ku (f:Nat->Bool):WU [f]=bl f 256:=by simp[WU]
theorem Nl:∀(l:List (Nat->Bool)) (s j:Nat) (f:Nat->Bool),l[s]?=some f->j<256->(WU l)[s*256+j]?=some (.bool (f j))
 |[],s,j,f,h,_=>by simp at h
 |g::l,0,j,f,h,hj=>by
  simp at h;subst h;rw[show WU (g::l)=bl g 256++WU l from by simp[WU],List.getElem?_append_left (by rw[Y7];omega),Nat.zero_mul,Nat.zero_add,YK _ hj]
 |g::l,s+1,j,f,h,hj=>by
  rw[show WU (g::l)=bl g 256++WU l from by simp[WU],List.getElem?_append_right (by rw[Y7];omega),Y7,show(s+1)*256+j-256=s*256+j by omega];exact Nl l s j f (by simpa using h) hj
def Xp (base:Nat) (v:Value) (l:List (Nat->Bool)) (w:World):Prop:=w.ownsRow base 146 256 v l.length (WU l)
theorem Xp.nil (base:Nat) (w:World):Xp base (.slice none 0 0) [] w:=⟨rfl,Or.inl ⟨rfl,rfl⟩⟩
theorem Xp.blk (h:Xp base v l w):∀k,v.ownBlock=some k->base<=k/\k<w.heap.size:=fun k hk=>h.lt k hk
theorem Xp.keep (h:Xp base v l w) (hk:∀k,v.ownBlock=some k->w'.heap[k]?=w.heap[k]?):Xp base v l w':=by
 refine⟨h.1,?_⟩;rcases h.2 with h0|⟨g,cap,cur,rfl,h1,h2,h3⟩
 ·exact Or.inl h0
 ·exact Or.inr ⟨g,cap,cur,rfl,h1,by rw[hk g rfl];exact h2,h3⟩
theorem Xp.below (h:Xp base v l w) (hW:Below w.heap.size w w'):Xp base v l w':=h.keep (fun k hk=>hW.block k (h.blk k hk).2)
theorem Xp.grown (h:Xp base v l w) (hg:w.grownBy w' row) (hne:∀k,v.ownBlock=some k->row≠some k):Xp base v l w':=
 h.keep (fun k hk=>hg.block k (h.blk k hk).2 (fun e=>hne k hk e.symm))
theorem Xp.at_ (h:Xp base v l w):∃ad cap,v=.slice ad l.length cap/\∀(s:Nat) (f:Nat->Bool),l[s]?=some f->∃g,ad=some ⟨g,0,none⟩/\w.rangeAt g (s*256) (bl f 256):=by
 rcases h.2 with ⟨rfl,h0⟩|⟨g,cap,cur,rfl,h1,h2,h3,h4,h5,h6⟩
 ·refine⟨none,0,by rw[h0],fun i x hi=>?_⟩;have hl:=(List.getElem?_eq_some_iff.1 hi).1;omega
 ·refine⟨some ⟨g,0,none⟩,cap,rfl,fun s f hs=>⟨g,rfl,fun j v hv=>?_⟩⟩;have hj:j<256:=by have:=(List.getElem?_eq_some_iff.1 hv).1;rw[Y7]at this;exact this
  rw[YK _ hj]at hv;cases hv;have hx:=h.cells (g:=g) rfl (s*256+j) (.bool (f j)) (Nl l s j f hs hj);rw[Addr.add_lit,Nat.zero_add]at hx;exact hx
theorem IU:∃i,Tryz.prog.info? 146=some i/\i.zero=some (.agg (bl (fun _=>false) 256).toArray)/\i.size=256/\i.bytes=256:=by
 have h:(Tryz.prog.info? 146).isSome=true:=by kernel_rfl
 obtain⟨i,hi⟩:=Option.isSome_iff_exists.1 h;refine⟨i,hi,?_,?_,?_⟩
 ·have:((Tryz.prog.info? 146).bind (·.zero))=some (.agg (bl (fun _=>false) 256).toArray):=by kernel_rfl
  rw[hi]at this;simpa using this
 ·have:((Tryz.prog.info? 146).map (·.size))=some 256:=by kernel_rfl
  rw[hi]at this;simpa using this
 ·have:((Tryz.prog.info? 146).map (·.bytes))=some 256:=by kernel_rfl
  rw[hi]at this;simpa using this
theorem TW (hgd:o.guard=none) (s x:Operand)
  (ho:o.op=.call { callee:=.builtin .append,args:=#[s,x],argTypes:=#[56,56] }) (base:Nat)
  (v:Value) (l:List (Nat->Bool)) (hs:a.eval s=v) (hown:Xp base v l w) (hn:l.length<=100000)
  (B:Nat) (f:Nat->Bool) (hx:a.eval x=.slice (some ⟨B,0,none⟩) 1 1) (hnews:w.rangeAt B 0 (bl f 256)) (hbase:base<=w.heap.size) (H:Nat) (hH:w.heap.size=H)
  (h:∀g cap w',Xp base (.slice (some ⟨g,0,none⟩) (l.length+1) cap) (l++[f]) w'->w.grownBy w' v.ownBlock->(v.ownBlock=some g\/g=H)->g<w'.heap.size->wpList Tryz.prog ops Q rest (a.put o.dst (.slice (some ⟨g,0,none⟩) (l.length+1) cap)) w'):wpList Tryz.prog ops Q (o::rest) a w:=by
 obtain⟨i,hi,hz0,hz1,hz2⟩:=IU;refine wpList_append_lies w hgd s x 56 ho base 146 i _ 256 256 Tryz.underlying56 hi hz0 hz1 hz2 (by simp[Value.cells,Y7]) (by omega) v l.length (WU l) hs hown ⟨B,0,none⟩ 1 1 (bl f 256) hx (by rw[Y7]) (fun j u hu=>by rw[Addr.add_lit];exact hnews j u hu) (fun u hu=>?_) (by omega) (by unfold maxLen;omega) (by omega) hbase H hH ?_
 ·have:=YO f 256;rw[Array.all_eq_true']at this;exact this u (by simpa using hu)
 ·intro g cap w' h1 h2 h3 h4;refine h g cap w' ?_ h2 h3 h4;unfold Xp;rw[List.length_append,OE,Ku];exact h1
theorem O9 (f:Nat->Bool) (w:World):(Instr.buildSlice 56 1 #[(0,.agg (bl f 256).toArray)]).run Tryz.prog w=.ok (.slice (some ⟨w.heap.size,0,none⟩) 1 1) (w.alloc (.cells (bl f 256).toArray 146)):=by
 have hs:(sizeOf 146).run Tryz.prog w=.ok 256 w:=by kernel_rfl
 have hz:=Lf w;have hfill:=Nk (fun i=>some (i*256,256)) ((Array.range (1*256)).map ((bl (fun _=>false) 256).toArray[·%(bl (fun _=>false) 256).toArray.size]!)) (.agg (bl f 256).toArray) 256 rfl (by simp[Value.cells,Y7]) (by simp);have e1:(Value.agg (bl f 256).toArray).cells=(bl f 256).toArray:=rfl;have e2:(Value.agg (bl (fun _=>false) 256).toArray).cells=(bl (fun _=>false) 256).toArray:=rfl;rw[e1]at hfill;simp only[Instr.buildSlice,Sem.run_bind,run_underlying Tryz.underlying56,Result.andThen_ok,hs,Sem.run_ite,hz,e2,Sem.run_pure,hfill,newRow];simp
end Go.Proofs.YtoaaklhpmhjhkabGreat
