import Derived.Test.YtoaaklhpmhjhkabC17
set_option maxRecDepth 100000
set_option maxHeartbeats 4000000
set_option linter.all false
namespace Go.Proofs.Ytoaaklhpmhjhkab
open Go.RowKit
def X8 (f:Nat->Int):Nat->Int
 |0=>1
 |k+1=>if 255<f k then 2 else X8 f k
theorem PZ (f:Nat->Int):∀k,X8 f k=1\/X8 f k=2
 |0=>Or.inl rfl
 |k+1=>by rw[X8];split;exact Or.inr rfl;exact PZ f k
variable {b base k n : Nat}{w w' : World}
theorem RO {f:Nat->Int} (h:X8 f k=2):∀d,X8 f (k+d)=2
 |0=>h
 |d+1=>by rw[<-Nat.add_assoc,X8,RO h d];split<;>rfl
def Ss (T:Tb):List UInt8:=
 [77,85,78,49]++[YP T.rules,YP ((Vo T.cl T.ncl:Int)-1),YP T.nlb,YP ((T.nck:Int)/256),YP T.nck,YP (X8 T.bs T.nbs)] ++
  Ut T.cl T.ncl 0++Ut T.lb T.nlb 1++WU T.bs T.nbs (X8 T.bs T.nbs)++Ut T.df T.ndf 1++Xi T.ck T.nx T.nck
def Q8 (T:Tb):List UInt8:=Ss T++OY (Ss T)
theorem Lc (a b:List UInt8):(⟨(a++b).toArray⟩:ByteArray)=⟨a.toArray⟩++⟨b.toArray⟩:=by
 apply ByteArray.ext;simp
def Il (T:Tb) (w:World) (e:Ending) (w':World):Prop:=
 Below w.heap.size w w'/\((KW T/\e=.returned (.tuple #[.string ⟨(Q8 T).toArray⟩,.int .i64 0]))\/(¬KW T/\e=.returned (.tuple #[.string ⟨#[]⟩,.int .i64 11])))
theorem O5 (ad:Option Addr) (n cap:Nat) (f:Nat->Int) (w:World) (hn:n<=maxLen) (h:IL ad f n w):
  Calls Try.prog 42 #[.slice ad n cap] w fun e w'=>e=.returned (.int .i64 (X8 f n))/\w'=w:=by
 unfold maxLen at hn;have H:=hyd h;clear h;go_enter Try.func42,Try.ntmps42;go_wp2_with fail
 go_loop [7] (fun i=>∃k:Nat,k<=n/\i=.int .i64 k/\Hid (X8 f k=1)) (fun i=>n-(intOf i).toNat)
 case atStart=>exact⟨0,by omega,rfl,rfl⟩
 case round=>
  obtain⟨k,hk,rfl,HK⟩:=hrel;by_cases hlt:k<n
  ·have hlt':(k:Int)<n:=by omega
   obtain⟨b,off,rfl,c1⟩:=H.out k hlt;by_cases h1:255<f k
   ·have HW:Hid (X8 f n=2):=by
     have:X8 f (k+1)=2:=by rw[X8,if_pos h1]
     have:=RO this (n-(k+1));rw[show k+1+(n-(k+1))=n by omega]at this;exact this
    go_wp2_with fail;go_ret;exact⟨YJ HW.out.symm,rfl⟩
   ·have HW:Hid (X8 f (k+1)=1):=by show _=_;rw[X8,if_neg h1];exact HK.out
    go_wp2_with fail
    go_round
    case rel=>exact⟨k+1,by omega,by go_num,HW.out⟩
    case measure=>simp[intOf];omega
  ·have hge:¬(k:Int)<n:=by omega
   have hkn:k=n:=by omega
   subst hkn;go_wp2_with fail;go_ret;exact⟨YJ HK.out.symm,rfl⟩
theorem XD.magic (base:Nat) (w:World) (hb:base<=w.heap.size):XD base (.slice (some ⟨w.heap.size,0,none⟩) 4 4) (Pb [77,85,78,49]) (w.alloc (.cells #[.int .u8 77,.int .u8 85,.int .u8 78,.int .u8 49] 5 (4,5))):=by
 refine Or.inr ⟨w.heap.size,4,rfl,hb,by simp,by simp[Pb],fun j u hu=>?_,fun j hj=>?_⟩
 ·rw[World.cell?_alloc_mark];simpa[Pb]using hu
 ·rw[World.cell?_alloc_mark];refine⟨by rcases j with _|_|_|_|j<;>first|rfl|omega,?_⟩;have:(w.alloc (.cells #[.int .u8 77,.int .u8 85,.int .u8 78,.int .u8 49] 5 (4,5))).heap[w.heap.size]?=some (.cells #[.int .u8 77,.int .u8 85,.int .u8 78,.int .u8 49] 5 (4,5)):=heap_alloc_new w _;generalize w.alloc (.cells #[.int .u8 77,.int .u8 85,.int .u8 78,.int .u8 49] 5 (4,5))=W at *;simp[World.frozen?,this];omega
theorem Sv {f:Nat->Int}:∀ {k n:Nat},Yq f k=some n->∀i,i<k->0<=f i/\f i<k
 |0,_,_,i,hi=>by omega
 |k+1,n,h,i,hi=>by
  rw[Yq]at h;rcases hc:Yq f k with _|m
  ·rw[hc]at h;cases h
  ·have hm:=Q2 hc;rw[hc]at h;simp only at h;split at h
   ·cases h
   ·rename_i hh;by_cases e:i=k
    ·subst e;omega
    ·have:=Sv hc i (by omega);omega
theorem Le {f:Nat->Int} (h:0<Vo f n) (i:Nat) (hi:i<n):0<=f i/\f i<256:=by
 unfold Vo at h;split at h
 ·rename_i h256;rcases hc:Yq f 256 with _|m
  ·rw[hc]at h;simp at h
  ·exact Sv hc i (by omega)
 ·omega
theorem Wr.heap {l:List UInt8} (h:Wr b base l w) (hw:w'.heap=w.heap):Wr b base l w':=by
 obtain⟨h0,h1,v,h2,h3⟩:=h;refine⟨h0,?_,v,?_,h3.block (by rw[hw];exact Nat.le_refl _) (fun k _ _=>by rw[hw])⟩
 ·rw[World.frozen?_of_block (w:=w) (a:=⟨b,0,none⟩) (by rw[hw])];exact h1
 ·rw[World.cell?_of_block (w:=w) (a:=⟨b,0,none⟩) (by rw[hw])];exact h2
theorem Si (b:Nat) (T:Tb) (A:NA) (w:World) (hs:Jl T) (h:Ve b T A w) (hI:QU T A w):
  Calls Try.prog 32 #[.pointer (some ⟨b,0,none⟩)] w (Il T w):=by
 have HS:=hyd (PW b T A w hs h hI);have m1:T.ncl<=maxLen:=by have:=hs.s1;unfold maxLen;omega
 have m3:T.nbs<=maxLen:=by have:=hs.s3;unfold maxLen;omega
 have HI:Hid (∀w',Below w.heap.size w w'->QU T A w'):=fun w' hW=>hI.below hW
 have HAt:Hid (∀w',Below w.heap.size w w'->Ve b T A w'):=fun w' hW=>h.below hW
 have hbl:=h.lt;clear hI h;go_enter Try.func32,Try.ntmps32;go_wp2_with fail;refine HS.out.mono ?_;rintro e w1 ⟨bb,rfl,hbb,hW1⟩;clear HS;cases bb
 ·have HN:Hid (¬KW T):=fun h=>by have:=hbb.2 h;cases this
  clear hbb;go_wp2_with fail;go_ret2;exact⟨hW1,Or.inr ⟨HN.out,rfl⟩⟩
 have hS:=hbb.1 rfl;clear hbb;have HSn:=hyd hS;have hc0:=hS.hd.2.2.1;have hc1:=Q3 T.cl T.ncl;have hr:=hS.hd.1;have hl:=hS.hd.2.1;have e3:=hS.e3;have e4:=hS.e4;have e6:=hS.e6;have e5:=hS.e5;have hncl:T.ncl=256:=by
  rcases Nat.decEq T.ncl 256 with h|h
  ·simp[Vo,h]at hc0
  ·exact h
 have F1:Hid (Calls Try.prog 42 #[.slice A.a3 T.nbs A.c3] w1 fun e w'=>e=.returned (.int .i64 (X8 T.bs T.nbs))/\w'=w1):=O5 _ _ _ _ _ m3 (HI.out w1 hW1).l3;have F2:Hid (Calls Try.prog 43 #[.slice A.a1 T.ncl A.c1] w1 fun e w'=>e=.returned (.int .i64 (Vo T.cl T.ncl))/\w'=w1):=Xz _ _ _ _ _ m1 (HI.out w1 hW1).l1;have kc:(convert 78 78 (.slice (some ⟨w1.heap.size+1,0,none⟩) 4 4)).run Try.prog ((w1.alloc (.cells #[.slice none 0 0] 94)).alloc (.cells #[.int .u8 77,.int .u8 85,.int .u8 78,.int .u8 49] 5))=.ok (.slice (some ⟨w1.heap.size+1,0,none⟩) 4 4) ((w1.alloc (.cells #[.slice none 0 0] 94)).alloc (.cells #[.int .u8 77,.int .u8 85,.int .u8 78,.int .u8 49] 5 (4,5))):=by
  have:=Lib.run_convert_bytes_const (P:=Try.prog) (w1.alloc (.cells #[.slice none 0 0] 94)) 78 5 #[.int .u8 77,.int .u8 85,.int .u8 78,.int .u8 49] 4 4 Try.underlying78 Try.underlying5;have hsz:(w1.alloc (.cells #[.slice none 0 0] 94)).heap.size=w1.heap.size+1:=by simp
  rw[hsz]at this;exact this
 have hbW1:=Nat.lt_of_lt_of_le hbl hW1.size;obtain⟨bw,hbw⟩:=nam w1.heap.size;obtain⟨W,hWeq⟩:=nam (((w1.alloc (.cells #[.slice none 0 0] 94)).alloc (.cells #[.int .u8 77,.int .u8 85,.int .u8 78,.int .u8 49] 5 (4,5))));rw[<-hWeq]at kc;have hsz1:(w1.alloc (.cells #[.slice none 0 0] 94)).heap.size=w1.heap.size+1:=by simp
 have hWsz:W.heap.size=w1.heap.size+2:=by rw[hWeq];simp
 have hcW:W.cell? ⟨w1.heap.size,0,none⟩=some (.slice none 0 0):=by
  rw[hWeq,World.cell?_alloc_lt _ _ _ (by rw[hsz1];exact Nat.lt_succ_self _),World.cell?_alloc_new];rfl
 have hfW:W.frozen? ⟨w1.heap.size,0,none⟩=false:=by
  rw[hWeq,World.frozen?_of_block (w:=w1.alloc (.cells #[.slice none 0 0] 94)) (a:=⟨w1.heap.size,0,none⟩) (Below.heap_alloc _ _ _ (by rw[hsz1];exact Nat.lt_succ_self _))];go_simp
 have hB1W:Below w1.heap.size w1 W:=by
  rw[hWeq];exact((Below.refl _ _).alloc (Nat.le_refl _) _).alloc (by rw[hsz1];omega) _
 have hGW:XD (w1.heap.size+1) (.slice (some ⟨w1.heap.size+1,0,none⟩) 4 4) (Pb [77,85,78,49]) W:=by
  have:=XD.magic (w1.heap.size+1) (w1.alloc (.cells #[.slice none 0 0] 94)) (by rw[hsz1];exact Nat.le_refl _);rw[hsz1,<-hWeq]at this;exact this
 clear hWeq hsz1;have hBW:=hW1.trans (hB1W.mono hW1.size);have hW2:Below w.heap.size w (W.setCell ⟨w1.heap.size,0,none⟩ (.slice (some ⟨w1.heap.size+1,0,none⟩) 4 4)):=hBW.setCell (p:=⟨w1.heap.size,0,none⟩) hW1.size _;have hWr:Wr w1.heap.size (w1.heap.size+1) [77,85,78,49] (W.setCell ⟨w1.heap.size,0,none⟩ (.slice (some ⟨w1.heap.size+1,0,none⟩) 4 4)):=
  ⟨Nat.lt_succ_self _,by rw[World.frozen?_setCell];exact hfW,_,World.cell?_setCell_same W ⟨w1.heap.size,0,none⟩ _ (by rw[hcW]),hGW.block (by simp[World.setCell]) (fun k _ hk=>Below.heap_setCell W ⟨w1.heap.size,0,none⟩ _ k (fun e=>by have:=hGW.ge k hk;have e':k=w1.heap.size:=e;omega))⟩
 obtain⟨d0,d1,d2,d3,d4,d5,d6⟩:=HAt.out w1 hW1;have f0:=(HAt.out W hBW).c0;have hne:b≠w1.heap.size:=by omega
 have Hnum:Hid ((0<Vo T.cl T.ncl/\Vo T.cl T.ncl<=256)/\(1<=T.rules/\T.rules<=8)/\(1<=T.nlb/\T.nlb<=96)/\T.nbs=T.nlb/\T.ndf=T.nlb/\T.nnx=T.nck/\T.nck<=24576/\T.ncl=256):=⟨⟨hc0,hc1⟩,hr,hl,e3,e4,e6,e5,hncl⟩;have HWr:=hyd hWr;have HW2:=hyd hW2;clear hS e3 e4 e6 e5 hncl hGW hB1W hBW hW2 hWr hbw hc0 hc1 hr hl;go_wp2_with fail;refine F1.out.mono ?_;rintro e w1 ⟨rfl,rfl⟩;go_wp2_with fail;refine F2.out.mono ?_;rintro e w1 ⟨rfl,rfl⟩;clear F1 F2;go_wp2_with fail;have hsz:w1.heap.size+1<=(W.setCell ⟨w1.heap.size,0,none⟩ (.slice (some ⟨w1.heap.size+1,0,none⟩) 4 4)).heap.size:=by simp[World.setCell,hWsz]
 have hwb:=hW1.size;clear d0 d1 d2 d3 d4 d5 d6 f0 hcW hfW hWsz kc hW1 hbW1 hne;generalize W.setCell ⟨w1.heap.size,0,none⟩ (.slice (some ⟨w1.heap.size+1,0,none⟩) 4 4)=W2 at *;generalize w1.heap.size=bw at *;have HIw:=hyd (HI.out w (Below.refl _ _));have HR1:Hid (∀i,i<T.ncl->-1<=T.cl i/\T.cl i<=1000000):=fun i hi=>by have:=Le Hnum.out.1.1 i hi;omega
 have HR2:Hid (∀i,i<T.nlb->-1<=T.lb i/\T.lb i<=1000000):=fun i hi=>by have h1:=HSn.out.hd.2.2.2 i hi;have h2:=Hnum.out.2.1;omega
 have HR4:Hid (∀i,i<T.ndf->-1<=T.df i/\T.df i<=1000000):=fun i hi=>by have h0:=Hnum.out;have h1:=HSn.out.b4 i (by omega);omega
 have HR5:Hid (∀i,i<T.nck->(-1<=T.ck i/\T.ck i<=1000000)/\(-1<=T.nx i/\T.nx i<=1000000)):=fun i hi=>by
  have h0:=Hnum.out;rcases HSn.out.cs i hi with h|h
  ·omega
  ·omega
 obtain⟨⟨nc0,nc1⟩,⟨nr0,nr1⟩,⟨nl0,nl1⟩,n3,n4,n6,n5,n1⟩:=Hnum.out;have N3:=hyd n3;have N4:=hyd n4;have N6:=hyd n6;have N1:=hyd n1;clear n3 n4 n6 n1;have hbas:=TX T.bs (X8 T.bs T.nbs) T.nbs;refine Calls.mono (X6 bw (bw+1) [77,85,78,49] T.rules W2 hsz (by simp) HWr.out) ?_;rintro e w3 ⟨rfl,h3,hB3⟩;have hW3:=HW2.out.trans (hB3.mono hwb);have hs3:=Nat.le_trans hsz hB3.size;have HWr3:=hyd h3;clear h3 hB3 HW2 HWr hsz;go_wp2_with fail;refine Calls.mono (X6 bw (bw+1) _ ((Vo T.cl T.ncl:Int)-1) w3 hs3 (by simp) HWr3.out) ?_;rintro e w4 ⟨rfl,h4,hB4⟩;have hW4:=hW3.trans (hB4.mono hwb);have hs4:=Nat.le_trans hs3 hB4.size;have d4:=(HAt.out w4 hW4).c2;have HWr4:=hyd h4;clear h4 hB4 hW3 HWr3 hs3;go_wp2_with fail;refine Calls.mono (X6 bw (bw+1) _ (T.nlb:Int) w4 hs4 (by simp) HWr4.out) ?_;rintro e w5 ⟨rfl,h5,hB5⟩;have hW5:=hW4.trans (hB5.mono hwb);have hs5:=Nat.le_trans hs4 hB5.size;have d5:=(HAt.out w5 hW5).c5;have HWr5:=hyd h5;clear h5 hB5 hW4 HWr4 hs4 d4;go_wp2_with fail;refine Calls.mono (SG bw (bw+1) _ (T.nck:Int) w5 hs5 (by simp) HWr5.out) ?_;rintro e w6 ⟨rfl,h6,hB6⟩;have hW6:=hW5.trans (hB6.mono hwb);have hs6:=Nat.le_trans hs5 hB6.size;have HWr6:=hyd h6;clear h6 hB6 hW5 HWr5 hs5 d5;go_wp2_with fail;refine Calls.mono (X6 bw (bw+1) _ (X8 T.bs T.nbs) w6 hs6 (by simp) HWr6.out) ?_;rintro e w7 ⟨rfl,h7,hB7⟩;have hW7:=hW6.trans (hB7.mono hwb);have hs7:=Nat.le_trans hs6 hB7.size;have d7:=(HAt.out w7 hW7).c1;have HE7:Hid ((((([77,85,78,49]++[YP T.rules])++[YP ((Vo T.cl T.ncl:Int)-1)])++[YP T.nlb])++[YP ((T.nck:Int)/256),YP T.nck])++[YP (X8 T.bs T.nbs)]=[77,85,78,49]++[YP T.rules,YP ((Vo T.cl T.ncl:Int)-1),YP T.nlb,YP ((T.nck:Int)/256),YP T.nck,YP (X8 T.bs T.nbs)]):=by show _=_;simp
 rw[HE7.out]at h7;generalize hH:([77,85,78,49]++[YP T.rules,YP ((Vo T.cl T.ncl:Int)-1),YP T.nlb,YP ((T.nck:Int)/256),YP T.nck,YP (X8 T.bs T.nbs)]:List UInt8)=HD at h7;have hHl:HD.length=10:=by rw[<-hH];rfl
 have HH:Hid (Ss T=((((HD++Ut T.cl T.ncl 0)++Ut T.lb T.nlb 1)++WU T.bs T.nbs (X8 T.bs T.nbs))++Ut T.df T.ndf 1)++Xi T.ck T.nx T.nck):=by show _=_;rw[<-hH];rfl
 have HWr7:=hyd h7;clear h7 hB7 hW6 HWr6 hs6 HE7 hH;go_wp2_with fail;refine Calls.mono (U5 bw (bw+1) HD A.a1 T.ncl A.c1 T.cl 0 w w7 hs7 (by have:=N1.out;omega) (by omega) HR1.out hwb HIw.out.l1 hW7 HWr7.out) ?_;rintro e w8 ⟨rfl,h8,hB8⟩;have hW8:=hW7.trans (hB8.mono hwb);have hs8:=Nat.le_trans hs7 hB8.size;have d8:=(HAt.out w8 hW8).c2;have HWr8:=hyd h8;clear h8 hB8 hW7 HWr7 hs7 d7;go_wp2_with fail;refine Calls.mono (U5 bw (bw+1) _ A.a2 T.nlb A.c2 T.lb 1 w w8 hs8 (by have:=N1.out;rw[List.length_append,VH];omega) (by omega) HR2.out hwb HIw.out.l2 hW8 HWr8.out) ?_;rintro e w9 ⟨rfl,h9,hB9⟩;have hW9:=hW8.trans (hB9.mono hwb);have hs9:=Nat.le_trans hs8 hB9.size;have d9:=(HAt.out w9 hW9).c3;have HWr9:=hyd h9;clear h9 hB9 hW8 HWr8 hs8 d8;go_wp2_with fail;refine Calls.mono (PG bw (bw+1) _ A.a3 T.nbs A.c3 T.bs (X8 T.bs T.nbs) w w9 hs9 (by have:=N1.out;have:=N3.out;simp only[List.length_append,VH];omega) hwb HIw.out.l3 hW9 HWr9.out) ?_;rintro e w10 ⟨rfl,h10,hB10⟩;have hW10:=hW9.trans (hB10.mono hwb);have hs10:=Nat.le_trans hs9 hB10.size;have d10:=(HAt.out w10 hW10).c4;have HWr10:=hyd h10;clear h10 hB10 hW9 HWr9 hs9 d9;go_wp2_with fail;refine Calls.mono (U5 bw (bw+1) _ A.a4 T.ndf A.c4 T.df 1 w w10 hs10 (by have:=N1.out;have:=N3.out;have:=N4.out;simp only[List.length_append,VH];omega) (by omega) HR4.out hwb HIw.out.l4 hW10 HWr10.out) ?_;rintro e w11 ⟨rfl,h11,hB11⟩;have hW11:=hW10.trans (hB11.mono hwb);have hs11:=Nat.le_trans hs10 hB11.size;have d11:=(HAt.out w11 hW11).c5;have d12:=(HAt.out w11 hW11).c6;have HWr11:=hyd h11;clear h11 hB11 hW10 HWr10 hs10 d10;have HPC:Hid (∀w',w'.heap=w11.heap->Below w.heap.size w w'->Calls Try.prog 48 #[.pointer (some ⟨bw,0,none⟩),.slice A.a5 T.nck A.c5,.slice A.a6 T.nnx A.c6] w' (Wv bw (bw+1) w' (Ss T))):=fun w' hw hWw=>by
  rw[HH.out,N6.out];exact PH bw (bw+1) _ A.a5 A.a6 T.nck A.c5 A.c6 T.ck T.nx w w' (by rw[hw];exact hs11) (by have:=N1.out;have:=N3.out;have:=N4.out;simp only[List.length_append,VH];omega) HR5.out hwb HIw.out.l5 (by rw[<-N6.out];exact HIw.out.l6) hWw (HWr11.out.heap hw)
 go_wp2_with fail
 go_region_with ((go_at_call 48;refine Calls.mono (HPC.out _ rfl hW11.drew) ?_;rintro e w12 ⟨rfl,h12,hB12⟩))
 all_goals
  have hW12:=hW11.drew.trans (hB12.mono hwb);have hbodl:(Ss T).length<=1000000:=by
   have:=N1.out;have:=N3.out;have:=N4.out;rw[HH.out];simp only[List.length_append,VH,TZ];omega
  have hbod0:0<(Ss T).length:=by rw[HH.out];simp only[List.length_append];omega
  obtain⟨_,q1,v,q2,q3⟩:=h12;clear hB12 HPC HWr11 HH hs11 d11 d12 hW11 hbas HR1 HR2 HR4 HR5 HIw;generalize hbody:Ss T=body at *;have HF:Hid (Q8 T=body++OY body):=by show _=_;rw[Q8,hbody]
  clear hbody;rcases q3 with ⟨_,h⟩|⟨g,cap,rfl,_,_,_,q4,_⟩
  ·have:(Pb body).length=0:=by rw[h];rfl
   rw[Pi]at this;omega
  rw[Pi]at q2;obtain⟨s1,hs1⟩:∃s1:ByteArray,s1=⟨body.toArray⟩:=⟨_,rfl⟩;obtain⟨s2,hs2⟩:∃s2:ByteArray,s2=⟨(OY body).toArray⟩:=⟨_,rfl⟩;have z1:s1.size<=1000000:=by rw[hs1];simpa[ByteArray.size]using hbodl
  have z2:s2.size=4:=by rw[hs2];rfl
  have hconv:(convert 78 9 (.slice (some ⟨g,0,none⟩) body.length cap)).run Try.prog w12=.ok (.string s1) w12:=by
   rw[hs1];exact run_convert_bytes_back (P:=Try.prog) w12 78 9 5 ⟨g,0,none⟩ cap body Try.underlying78 Try.underlying5 Try.underlying9 (fun j hj=>by
    rw[Addr.add_lit,Nat.zero_add];exact q4 j _ (by simp[Pb,hj]))
  have HSl:Hid (Calls Try.prog 49 #[.string s1] w12 fun e w'=>e=.returned (.string s2)/\Below w12.heap.size w12 w'):=by
   have h:=Kw s1 w12 z1;rw[show OY s1.data.toList=OY body by rw[hs1],<-hs2]at h;exact h
  have HFF:Hid ((⟨(Q8 T).toArray⟩:ByteArray)=s1++s2):=by
   show _=_;rw[HF.out,hs1,hs2];exact Lc _ _
  clear q4 hs1 hs2 HF;go_wp2_with fail;refine HSl.out.mono ?_;rintro e w13 ⟨rfl,hW13⟩;go_wp2_with fail;go_ret2;refine⟨hW12.trans (hW13.mono hW12.size),Or.inl ⟨HSn.out,?_⟩⟩;rw[HFF.out];rfl
open Bm
def Jb (x:Int):Prop:=-9223372036854775808<=x/\x<=9223372036854775807
def Xt (c:Int) (n:Nat):Nat:=(if c<0 then (-(c+1)).toNat else c.toNat)%n
theorem VL (c:Int) {n:Nat} (h:1<=n):Xt c n<n:=Nat.mod_lt _ h
theorem OI (c:Int) (n:Nat) (w:World) (hc:Jb c) (h1:1<=n) (h2:n<=1000000000000000000):
  Calls Try.prog 15 #[.int .i64 c,.int .i64 n] w fun e w'=>e=.returned (.int .i64 (Xt c n))/\w'=w:=by
 obtain⟨hc1,hc2⟩:=hc;by_cases h:c<0
 ·obtain⟨m,hm⟩:∃m:Nat,-(c+1)=(m:Int):=⟨(-(c+1)).toNat,by omega⟩;have HP:Hid (Xt c n=m%n):=by show _=_;unfold Xt;rw[if_pos h,hm,Int.toNat_natCast]
  have hmod:(m:Int).tmod (n:Int)=((m%n:Nat):Int):=by rw[Int.tmod_eq_emod_of_nonneg (by omega)];simp
  go_enter Try.func15,Try.ntmps15;go_wp2_with fail;go_ret;exact⟨YJ (by rw[HP.out];omega),rfl⟩
 ·obtain⟨m,rfl⟩:=Int.eq_ofNat_of_zero_le (show 0<=c by omega);have HP:Hid (Xt m n=m%n):=by show _=_;unfold Xt;rw[if_neg (by omega),Int.toNat_natCast]
  have hmod:(m:Int).tmod (n:Int)=((m%n:Nat):Int):=by rw[Int.tmod_eq_emod_of_nonneg (by omega)];simp
  go_enter Try.func15,Try.ntmps15;go_wp2_with fail;go_ret;exact⟨YJ (by rw[HP.out];omega),rfl⟩
end Go.Proofs.Ytoaaklhpmhjhkab
