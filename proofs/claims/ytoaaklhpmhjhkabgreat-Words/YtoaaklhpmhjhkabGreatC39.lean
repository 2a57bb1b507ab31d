import Derived.Test.YtoaaklhpmhjhkabGreatC33
import Derived.Test.YtoaaklhpmhjhkabGreatC37
import Derived.Test.YtoaaklhpmhjhkabGreatC38
set_option maxRecDepth 100000
set_option maxHeartbeats 4000000
set_option linter.all false
namespace Go.Proofs.YtoaaklhpmhjhkabGreat
section
open Go.RowKit
variable {tmps:Array Value}{s:ByteArray}{fn:Func}{bs ck ck' df nt nt':List Int}{B b base cap cb g g1 g2 k n rb tb:Nat}{f:Nat->Int}{p u:Tmp}{v vb vb' vc vc' vd vn vn':Value}{W W' W1 w w' w5:World}
theorem QG {ty:TypeId} (h:fn.results=#[.cell p ty,.tmp u]) (tmps:Array Value) (P:Program) (w:World):
  (results fn tmps).run P w=((asAddr (tmps.getD p undef)).run P w).andThen fun a w₁=>((loadVar ty a).run P w₁).andThen fun v w₂=>.ok (.tuple #[v,tmps.getD u undef]) w₂:=by
 simp only[results,h];simp[Sem.run_bind,Result.andThen]
variable {P:Program}
theorem Yr {ty:TypeId}{ad:Addr}{b:Value} (h:fn.results=#[.cell p ty,.tmp u]) (ht:tmps.getD p undef=.pointer (some ad)) (hl:(loadVar ty ad).run P w=.ok v w) (hb:tmps.getD u undef=b):
  (results fn tmps).run P w=.ok (.tuple #[v,b]) w:=by
 rw[QG h,ht];subst hb;simp[asAddr,hl]
def LX (s:ByteArray):Prop:=10<=s.size/\Wq (Yo s 4 1) (Yo s 6 1) (Yo s 7 2) (Yo s 9 1)/\s.size=266+(Yo s 6 1).toNat*((Yo s 9 1).toNat+2)+(Yo s 7 2).toNat*2+4
def Yc (s:ByteArray):Tb:=LO s (Yo s 6 1).toNat (Yo s 7 2).toNat (Yo s 9 1).toNat
def FU (s:ByteArray):Prop:=SG (Yc s)/\(⟨(Yb (Yc s)).toArray⟩:ByteArray)=s
def Vi (s:ByteArray) (c:Int):Prop:=
 (Xe s=false/\c=12)\/(Xe s=true/\¬LX s/\c=13)\/(Xe s=true/\LX s/\Qe s=false/\c=14)\/(Xe s=true/\LX s/\Qe s=true/\¬FU s/\c=11)
def GQ (B:Nat) (T:Tb) (A:T8) (w:World):Prop:=∀w'',w.heap.size<=w''.heap.size->(∀q,B<=q->q<w.heap.size->w''.heap[q]?=w.heap[q]?)->Vj T A w''
variable {T:Tb}
theorem GQ.in_ {A:T8} (h:GQ B T A w):Vj T A w:=h w (Nat.le_refl _) (fun _ _ _=>rfl)
theorem GQ.below {A:T8} (h:GQ B T A w) (hW:Below w.heap.size w w'):GQ B T A w':=fun w'' hz hk=>
 h w'' (Nat.le_trans hW.size hz) (fun q h1 h2=>by rw[hk q h1 (Nat.lt_of_lt_of_le h2 hW.size),hW.block q h2])
def Lh (s:ByteArray) (w:World) (e:Ending) (w':World):Prop:=
 Below w.heap.size w w'/\((∃c,Vi s c/\e=.returned (.tuple #[.agg Yv,.int .i64 c])) \/
  ((Xe s=true/\LX s/\Qe s=true/\FU s)/\∃A:T8,e=.returned (.tuple #[.agg (A.cells (Yc s)),.int .i64 0])/\GQ w.heap.size (Yc s) A w'))
theorem Sj (w:World) (t:TypeId):(w.alloc (.cells Yv t)).there w.heap.size 0 7:=fun j hj=>by
 unfold Yv;rcases j with _|_|_|_|_|_|_|j<;>first|(refine⟨?_,?_⟩<;>go_simp)|omega
theorem Yu {o:Nat} (h:W.there b o n) (hn:0<n) (hB:Below W.heap.size W W'):W'.there b o n:=fun j hj=>by
 have hb:b<W.heap.size:=by
  have h0:=(h 0 hn).1;obtain⟨v,hv⟩:=Option.isSome_iff_exists.1 h0;exact World.block_lt_of_cell? W _ hv
 have hk:=hB.block b hb;rw[World.cell?_of_block (w:=W) (w':=W') (a:=⟨b,o+j,none⟩) hk,World.frozen?_of_block (w:=W) (w':=W') (a:=⟨b,o+j,none⟩) hk];exact h j hj
theorem U8 {c:Int} (hth:W.there w.heap.size 0 7) (hB:Below w.heap.size w W) (hD:Vi s c):
  ∃W',W'=W.setCells w.heap.size 0 Yv.toList/\(loadVar 45 ⟨w.heap.size,0,none⟩).run Tryz.prog W'=.ok (.agg Yv) W'/\Lh s w (.returned (.tuple #[.agg Yv,.int .i64 c])) W':=by
 refine⟨_,rfl,?_,?_,Or.inl ⟨c,hD,rfl⟩⟩
 ·exact run_loadVar_mid (P:=Tryz.prog) _ w.heap.size 0 45 Yv.toList _ (World.rangeAt_setCells_same W w.heap.size 0 Yv.toList hth) u_g rfl YM
 ·exact hB.grown (Y6 w.heap.size Yv.toList 0 W) hB.size (fun q hq=>by cases hq;exact Nat.le_refl _)
theorem Kf {a b:ByteArray} (h:a.toList=b.toList):a=b:=by
 have h2:a.data.toList=b.data.toList:=by rw[ByteArray.toList_eq,ByteArray.toList_eq]at h;exact h
 apply ByteArray.ext;exact Array.ext' h2
structure LY (b:Nat) (r st ce wd:Int) (w:World):Prop where
 c0:w.cell? ⟨b,0,none⟩=some (.int .i64 r)
 c1:w.cell? ⟨b,1,none⟩=some (.int .i64 st)
 c2:w.cell? ⟨b,2,none⟩=some (.int .i64 ce)
 c3:w.cell? ⟨b,3,none⟩=some (.int .i64 wd)
theorem LY.below {r st ce wd:Int} (h:LY b r st ce wd w) (hW:Below w.heap.size w w'):LY b r st ce wd w':=by
 have hb:=World.block_lt_of_cell? w _ h.c0;have e:∀k,w'.cell? ⟨b,k,none⟩=w.cell? ⟨b,k,none⟩:=fun k=>hW.cell (p:=⟨b,k,none⟩) hb
 exact⟨by rw[e];exact h.c0,by rw[e];exact h.c1,by rw[e];exact h.c2,by rw[e];exact h.c3⟩
theorem LY.boxed (r st ce wd:Int) (w:World) (t:TypeId):LY w.heap.size r st ce wd (w.alloc (.cells #[.int .i64 r,.int .i64 st,.int .i64 ce,.int .i64 wd] t)):=by
 refine⟨?_,?_,?_,?_⟩<;>go_simp
theorem Mf (s:ByteArray) (w:World) (hs:s.size<=281474976710656):Calls Tryz.prog 35 #[.string s] w (Lh s w):=by
 have hz:=WA;obtain⟨W0,hW0⟩:=nam (w.alloc (.cells #[.int .i64 0,.slice none 0 0,.slice none 0 0,.slice none 0 0,.slice none 0 0,.slice none 0 0,.slice none 0 0] 45));have hT0:W0.there w.heap.size 0 7:=by rw[hW0];exact Sj w _
 have hB0:Below w.heap.size w W0:=by rw[hW0];exact Yh _ _
 have hS0:w.heap.size<W0.heap.size:=by rw[hW0];simp
 have HM:=Ns s W0 (by unfold maxLen;omega);by_cases hm:Xe s=true
 case neg=>
  have hm':Xe s=false:=by simpa using hm
  rw[hm']at HM;obtain⟨W1,hW1,hl1,hp1⟩:=U8 hT0 hB0 (Or.inl ⟨hm',rfl⟩:Vi s 12);have HP1:=hyd hp1;have HM1:Hid (Calls Tryz.prog 55 #[.string s] W0 fun e w'=>e=.returned (.bool false)/\w'=W0):=HM;have HW1:=hyd hW1;have HL1:=hyd hl1;clear HM hp1 hm hW1 hl1;go_enter Tryz.func35,Tryz.ntmps35;go_wp2_with fail;rw[<-hW0];clear hW0;refine HM1.out.mono ?_;rintro e W0 ⟨rfl,rfl⟩;go_wp2_with (first|(refine wpList_store_mid rfl 45 _ _ rfl w.heap.size 0 Yv rfl rfl hT0 YM (by simp[Yv,Value.oneCell']) ?_;rw[<-HW1.out]));refine bodyPost_ret (v:=.tuple #[.agg Yv,.int .i64 12]) (Yr Tryz.results35 rfl HL1.out rfl) rfl HP1.out
 have HM1:Hid (Calls Tryz.prog 55 #[.string s] W0 fun e w'=>e=.returned (.bool true)/\w'=W0):=by rw[hm]at HM;exact HM
 clear HM;by_cases h10:s.size<10
 ·have h10':(s.size:Int)<10:=by omega
  obtain⟨W1,hW1,hl1,hp1⟩:=U8 hT0 hB0 (Or.inr (Or.inl ⟨hm,fun h=>by have:=h.1;omega,rfl⟩):Vi s 13);have HP1:=hyd hp1;have HW1:=hyd hW1;have HL1:=hyd hl1;clear hp1 hm hW1 hl1;go_enter Tryz.func35,Tryz.ntmps35;go_wp2_with fail;rw[<-hW0];clear hW0;refine HM1.out.mono ?_;rintro e W0 ⟨rfl,rfl⟩;go_wp2_with (first|(refine wpList_store_mid rfl 45 _ _ rfl w.heap.size 0 Yv rfl rfl hT0 YM (by simp[Yv,Value.oneCell']) ?_;rw[<-HW1.out]));refine bodyPost_ret (v:=.tuple #[.agg Yv,.int .i64 13]) (Yr Tryz.results35 rfl HL1.out rfl) rfl HP1.out
 have h10':¬(s.size:Int)<10:=by omega
 have HH:=hyd (OX s W0 hs (by omega));have Hm:=hyd hm;have b6:=Vy s 6 1 (by omega);have b7:=Vy s 7 2 (by omega);have b9:=Vy s 9 1 (by omega);have HF:Hid (∀st ce wd:Nat,Yo s 6 1=st->Yo s 7 2=ce->Yo s 9 1=wd->(LX s<->Wq (Yo s 4 1) st ce wd/\s.size=266+st*(wd+2)+ce*2+4)):=fun st ce wd e1 e2 e3=>by
  unfold LX;rw[e1,e2,e3];simp only[Int.toNat_natCast];exact⟨fun h=>h.2,fun h=>⟨by omega,h⟩⟩
 have HT:Hid (∀st ce wd:Nat,Yo s 6 1=st->Yo s 7 2=ce->Yo s 9 1=wd->Yc s=LO s st ce wd):=fun st ce wd e1 e2 e3=>by
  unfold Yc;rw[e1,e2,e3];simp only[Int.toNat_natCast]
 obtain⟨st,e6⟩:∃st:Nat,Yo s 6 1=st:=⟨(Yo s 6 1).toNat,by omega⟩;obtain⟨ce,e7⟩:∃ce:Nat,Yo s 7 2=ce:=⟨(Yo s 7 2).toNat,by omega⟩;obtain⟨wd,e9⟩:∃wd:Nat,Yo s 9 1=wd:=⟨(Yo s 9 1).toNat,by omega⟩;have HFi:=hyd (HF.out st ce wd e6 e7 e9);have HTi:=hyd (HT.out st ce wd e6 e7 e9);have HH1:Hid (Calls Tryz.prog 56 #[.string s] W0 fun e w'=>e=.returned (.agg #[.int .i64 (Yo s 4 1),.int .i64 st,.int .i64 ce,.int .i64 wd])/\Below W0.heap.size W0 w'):=by
  have h:=HH.out;unfold I8 at h;rw[e6,e7,e9]at h;exact h
 clear HH HF HT e6 e7 e9 b6 b7 b9 hm h10;go_enter Tryz.func35,Tryz.ntmps35;go_wp2_with fail;rw[<-hW0];clear hW0;refine HM1.out.mono ?_;rintro e W0 ⟨rfl,rfl⟩;go_wp2_with fail;refine HH1.out.mono ?_;rintro e w1 ⟨rfl,hW1⟩;have hT1:=Yu hT0 (by omega) hW1;have hB1:=hB0.trans (hW1.mono (Nat.le_of_lt hS0));clear HH1 HM1 hT0 hB0 hW1;go_wp2_with fail;obtain⟨W2,hW2⟩:=nam (w1.alloc (.cells #[.int .i64 (Yo s 4 1),.int .i64 st,.int .i64 ce,.int .i64 wd] 131));have hx2:Below w1.heap.size w1 W2:=by rw[hW2];exact Yh _ _
 have hT2:=Yu hT1 (by omega) hx2;have hB2:=hB1.trans (hx2.mono hB1.size);have hD2:LY w1.heap.size (Yo s 4 1) st ce wd W2:=by rw[hW2];exact LY.boxed _ _ _ _ _ _
 rw[<-hW2];clear hx2 hT1 hB1 hW2;clear hS0;generalize w1.heap.size=hd at *;refine Calls.mono (Kg (Yo s 4 1) st ce wd W2) ?_;rintro e w3 ⟨bb,rfl,hbb,hW3⟩;have hT3:=Yu hT2 (by omega) hW3;have hB3:=hB2.trans (hW3.mono hB2.size);have hD3:=hD2.below hW3;clear hT2 hB2 hD2 hW3;rcases bb with _|_
 ·have hno:¬Wq (Yo s 4 1) st ce wd:=fun h=>by simpa using hbb.2 h
  obtain⟨V,hV,hl,hp⟩:=U8 hT3 hB3 (Or.inr (Or.inl ⟨Hm.out,fun h=>hno (HFi.out.1 h).1,rfl⟩):Vi s 13);have HP1:=hyd hp;have HW1:=hyd hV;have HL1:=hyd hl;clear hp hV hl;go_wp2_with (first|(refine wpList_store_mid rfl 45 _ _ rfl w.heap.size 0 Yv rfl rfl hT3 YM (by simp[Yv,Value.oneCell']) ?_;rw[<-HW1.out]));refine bodyPost_ret (v:=.tuple #[.agg Yv,.int .i64 13]) (Yr Tryz.results35 rfl HL1.out rfl) rfl HP1.out
 have HOK:=hyd (hbb.1 rfl);have hst:st<=96:=by have:=HOK.out.2.1;omega
 have hce:ce<=24576:=by have:=HOK.out.2.2.1;omega
 have hwd:wd=1\/wd=2:=by have:=HOK.out.2.2.2;omega
 clear hbb;have k0:=hD3.c0;have k1:=hD3.c1;have k2:=hD3.c2;have k3:=hD3.c3;go_wp2_with fail;clear k0 k1 k2 k3;refine Calls.mono (JK (Yo s 4 1) st ce wd w3 hst hce hwd) ?_;rintro e w4 ⟨rfl,hW4⟩;have hT4:=Yu hT3 (by omega) hW4;have hB4:=hB3.trans (hW4.mono hB3.size);have hD4:=hD3.below hW4;clear hT3 hB3 hD3 hW4;obtain⟨n,hn⟩:=nam (266+st*(wd+2)+ce*2+4);rw[<-hn];rw[<-hn]at HFi;have Hn:=hyd hn;clear hn;by_cases hsz:s.size=n
 case neg=>
  have hq1:((s.size:Int)==(n:Int))=false:=by simp;omega
  have hq2:((s.size:Int) != (n:Int))=true:=by simp;omega
  obtain⟨V,hV,hl,hp⟩:=U8 hT4 hB4 (Or.inr (Or.inl ⟨Hm.out,fun h=>hsz (HFi.out.1 h).2,rfl⟩):Vi s 13);have HP1:=hyd hp;have HW1:=hyd hV;have HL1:=hyd hl;clear hp hV hl;go_wp2_with (first|(refine wpList_store_mid rfl 45 _ _ rfl w.heap.size 0 Yv rfl rfl hT4 YM (by simp[Yv,Value.oneCell']) ?_;rw[<-HW1.out]));refine bodyPost_ret (v:=.tuple #[.agg Yv,.int .i64 13]) (Yr Tryz.results35 rfl HL1.out rfl) rfl HP1.out
 have hq1:((s.size:Int)==(n:Int))=true:=by simp;omega
 have hq2:((s.size:Int) != (n:Int))=false:=by simp;omega
 go_wp2_with fail;have Hsz:Hid (s.size=266+st*(wd+2)+ce*2+4):=by show _=_;rw[hsz,Hn.out]
 have HFt:=hyd (HFi.out.2 ⟨HOK.out,hsz⟩);have h4:4<=s.size:=by rw[Hsz.out];omega
 have hs2:s.size<=1000000:=by
  rw[Hsz.out];have:st*(wd+2)<=96*4:=Nat.mul_le_mul hst (by omega);omega
 clear hq1 hq2;refine Calls.mono (Mk s w4 h4 hs2) ?_;rintro e w5 ⟨rfl,hW5⟩;have hT5:=Yu hT4 (by omega) hW5;have hB5:=hB4.trans (hW5.mono hB4.size);have hD5:=hD4.below hW5;clear hT4 hB4 hD4 hW5;by_cases hsum:Qe s=true
 case neg=>
  have hsum':Qe s=false:=by simpa using hsum
  rw[hsum'];obtain⟨V,hV,hl,hp⟩:=U8 hT5 hB5 (Or.inr (Or.inr (Or.inl ⟨Hm.out,HFt.out,hsum',rfl⟩)):Vi s 14);have HP1:=hyd hp;have HW1:=hyd hV;have HL1:=hyd hl;clear hp hV hl;go_wp2_with (first|(refine wpList_store_mid rfl 45 _ _ rfl w.heap.size 0 Yv rfl rfl hT5 YM (by simp[Yv,Value.oneCell']) ?_;rw[<-HW1.out]));refine bodyPost_ret (v:=.tuple #[.agg Yv,.int .i64 14]) (Yr Tryz.results35 rfl HL1.out rfl) rfl HP1.out
 rw[hsum];have Hsum:=hyd hsum;clear hsum;have k0:=hD5.c0;have k1:=hD5.c1;have k2:=hD5.c2;have k3:=hD5.c3;go_wp2_with fail;clear k0 k1 k2 k3;refine Calls.mono (Q7 s st ce wd w5 hs2 hst hce hwd Hsz.out) ?_;rintro e w6 ⟨A,rfl,hI6f,hW6⟩;have hI6:=hI6f w6 (Nat.le_refl _) (fun _ _ _=>rfl);have hbl5:w.heap.size<w5.heap.size:=by
  obtain⟨v,hv⟩:=Option.isSome_iff_exists.1 (hT5 0 (by omega)).1;exact World.block_lt_of_cell? w5 _ hv
 have hT6:=Yu hT5 (by omega) hW6;have hB6:=hB5.trans (hW6.mono hB5.size);have hTz:J1 (LO s st ce wd):=by
  refine⟨?_,?_,?_,?_,?_,?_⟩<;>(show _+3<=_;simp only[LO];omega)
 have HI:=hyd hI6f;clear hT5 hB5 hD5 hW6 hst hce hwd hI6f;generalize LO s st ce wd=T at *;unfold T8.cells;go_wp2_with fail;obtain⟨W7,hW7⟩:=nam (w6.alloc (.cells #[.int .i64 T.rules,.slice A.a1 T.ncl A.c1,.slice A.a2 T.nlb A.c2,.slice A.a3 T.nbs A.c3,.slice A.a4 T.ndf A.c4,.slice A.a5 T.nck A.c5,.slice A.a6 T.nnx A.c6] 45));have hx7:Below w6.heap.size w6 W7:=by rw[hW7];exact Yh _ _
 have hT7:=Yu hT6 (by omega) hx7;have hB7:=hB6.trans (hx7.mono hB6.size);have hA7:Xa w6.heap.size T A W7:=by rw[hW7];exact Xa.boxed T A w6 _
 have hI7:=hI6.below hx7;have HK7:Hid (∀q,q<w6.heap.size->W7.heap[q]?=w6.heap[q]?):=fun q hq=>hx7.block q hq
 have HZ7:=hyd hx7.size;rw[<-hW7];clear hx7 hT6 hB6 hW7 hI6;generalize w6.heap.size=tb at *;refine Calls.mono (UZ tb T A W7 hTz hA7 hI7) ?_;rintro e w8 ⟨hW8,hcase⟩;have hT8:=Yu hT7 (by omega) hW8;have hB8:=hB7.trans (hW8.mono hB7.size);have hA8:=hA7.below hW8;have HI8:Hid (∀W9,w8.grownBy W9 (some w.heap.size)->GQ w.heap.size T A W9):=fun W9 hG w'' hz' hk=>by
  have z7:=HZ7.out;have z8:=hW8.size;have z9:=hG.size;refine HI.out w'' (by omega) (fun q h1 h2=>?_);rw[hk q (by omega) (by omega),hG.block q (by omega) (fun e=>by have:=Option.some.inj e;omega),hW8.block q (by omega),HK7.out q h2]
 clear hT7 hB7 hA7 hI7 hW8 HI HK7 HZ7;rcases hcase with ⟨hS,rfl⟩|⟨hS,rfl⟩
 ·have HS:=hyd hS;obtain⟨F,hF⟩:∃F:ByteArray,(⟨(Yb T).toArray⟩:ByteArray)=F:=⟨_,rfl⟩;rw[hF];have HF:=hyd hF;clear hS hF;by_cases hFs:F=s
  case neg=>
   have hq1:(F.toList==s.toList)=false:=by
    rw[beq_eq_false_iff_ne];exact fun h=>hFs (Kf h)
   have hq2:(F.toList != s.toList)=true:=by simp only[bne,hq1];rfl
   obtain⟨V,hV,hl,hp⟩:=U8 hT8 hB8 (Or.inr (Or.inr (Or.inr ⟨Hm.out,HFt.out,Hsum.out,fun h=>hFs (by have h1:=h.2;rw[HTi.out,HF.out]at h1;exact h1),rfl⟩)):Vi s 11);have HP1:=hyd hp;have HW1:=hyd hV;have HL1:=hyd hl;clear hp hV hl;go_wp2_with (first|(refine wpList_store_mid rfl 45 _ _ rfl w.heap.size 0 Yv rfl rfl hT8 YM (by simp[Yv,Value.oneCell']) ?_;rw[<-HW1.out]));refine bodyPost_ret (v:=.tuple #[.agg Yv,.int .i64 11]) (Yr Tryz.results35 rfl HL1.out rfl) rfl HP1.out
  have hFs':=hFs.symm;subst hFs';have hrg:w8.rangeAt tb 0 [.int .i64 T.rules,.slice A.a1 T.ncl A.c1,.slice A.a2 T.nlb A.c2,.slice A.a3 T.nbs A.c3,.slice A.a4 T.ndf A.c4,.slice A.a5 T.nck A.c5,.slice A.a6 T.nnx A.c6]:=fun j v hv=>by
   rw[Nat.zero_add];rcases j with _|_|_|_|_|_|_|j
   ·cases hv;exact hA8.c0
   ·cases hv;exact hA8.c1
   ·cases hv;exact hA8.c2
   ·cases hv;exact hA8.c3
   ·cases hv;exact hA8.c4
   ·cases hv;exact hA8.c5
   ·cases hv;exact hA8.c6
   ·cases hv
  go_wp2_with (first|(refine wpList_load_mid rfl 45 _ rfl tb 0 rfl [.int .i64 T.rules,.slice A.a1 T.ncl A.c1,.slice A.a2 T.nlb A.c2,.slice A.a3 T.nbs A.c3,.slice A.a4 T.ndf A.c4,.slice A.a5 T.nck A.c5,.slice A.a6 T.nnx A.c6] _ hrg u_g rfl YM ?_)|(refine wpList_store_mid rfl 45 _ _ rfl w.heap.size 0 #[.int .i64 T.rules,.slice A.a1 T.ncl A.c1,.slice A.a2 T.nlb A.c2,.slice A.a3 T.nbs A.c3,.slice A.a4 T.ndf A.c4,.slice A.a5 T.nck A.c5,.slice A.a6 T.nnx A.c6] rfl rfl hT8 YM (by simp[Value.oneCell']) ?_));have hG:=Y6 w.heap.size [.int .i64 T.rules,.slice A.a1 T.ncl A.c1,.slice A.a2 T.nlb A.c2,.slice A.a3 T.nbs A.c3,.slice A.a4 T.ndf A.c4,.slice A.a5 T.nck A.c5,.slice A.a6 T.nnx A.c6] 0 w8;have hr':=World.rangeAt_setCells_same w8 w.heap.size 0 [.int .i64 T.rules,.slice A.a1 T.ncl A.c1,.slice A.a2 T.nlb A.c2,.slice A.a3 T.nbs A.c3,.slice A.a4 T.ndf A.c4,.slice A.a5 T.nck A.c5,.slice A.a6 T.nnx A.c6] hT8;have hfin:=run_loadVar_mid (P:=Tryz.prog) (w8.setCells w.heap.size 0 [.int .i64 T.rules,.slice A.a1 T.ncl A.c1,.slice A.a2 T.nlb A.c2,.slice A.a3 T.nbs A.c3,.slice A.a4 T.ndf A.c4,.slice A.a5 T.nck A.c5,.slice A.a6 T.nnx A.c6]) w.heap.size 0 45 [.int .i64 T.rules,.slice A.a1 T.ncl A.c1,.slice A.a2 T.nlb A.c2,.slice A.a3 T.nbs A.c3,.slice A.a4 T.ndf A.c4,.slice A.a5 T.nck A.c5,.slice A.a6 T.nnx A.c6] _ hr' u_g rfl YM;refine bodyPost_ret (v:=.tuple #[.agg #[.int .i64 T.rules,.slice A.a1 T.ncl A.c1,.slice A.a2 T.nlb A.c2,.slice A.a3 T.nbs A.c3,.slice A.a4 T.ndf A.c4,.slice A.a5 T.nck A.c5,.slice A.a6 T.nnx A.c6],.int .i64 0]) (Yr Tryz.results35 rfl hfin rfl) rfl ?_;generalize w8.setCells w.heap.size 0 [.int .i64 T.rules,.slice A.a1 T.ncl A.c1,.slice A.a2 T.nlb A.c2,.slice A.a3 T.nbs A.c3,.slice A.a4 T.ndf A.c4,.slice A.a5 T.nck A.c5,.slice A.a6 T.nnx A.c6]=W9 at *;refine⟨hB8.grown hG hB8.size (fun q hq=>by cases hq;exact Nat.le_refl _),Or.inr ⟨⟨Hm.out,HFt.out,Hsum.out,?_,?_⟩,A,?_,?_⟩⟩
  ·rw[HTi.out];exact HS.out
  ·rw[HTi.out];exact HF.out
  ·rw[HTi.out];rfl
  ·rw[HTi.out];exact HI8.out W9 hG
 ·have HS:=hyd hS;clear hS;obtain⟨V,hV,hl,hp⟩:=U8 hT8 hB8 (Or.inr (Or.inr (Or.inr ⟨Hm.out,HFt.out,Hsum.out,fun h=>HS.out (by have h1:=h.1;rw[HTi.out]at h1;exact h1),rfl⟩)):Vi s 11);have HP1:=hyd hp;have HW1:=hyd hV;have HL1:=hyd hl;clear hp hV hl;go_wp2_with (first|(refine wpList_store_mid rfl 45 _ _ rfl w.heap.size 0 Yv rfl rfl hT8 YM (by simp[Yv,Value.oneCell']) ?_;rw[<-HW1.out]));refine bodyPost_ret (v:=.tuple #[.agg Yv,.int .i64 11]) (Yr Tryz.results35 rfl HL1.out rfl) rfl HP1.out
def RO (s:ByteArray):Prop:=Xe s=true/\LX s/\Qe s=true/\FU s
def IA (s:ByteArray) (w:World) (e:Ending) (w':World):Prop:=
 Below w.heap.size w w'/\((∃c,Vi s c/\e=.returned (.tuple #[.pointer none,.int .i64 c])) \/
  (RO s/\∃(b:Nat) (A:T8),e=.returned (.tuple #[.pointer (some ⟨b,0,none⟩),.int .i64 0])/\w.heap.size<=b/\Xa b (Yc s) A w'/\GQ w.heap.size (Yc s) A w'))
theorem Vi.ne {c:Int} (h:Vi s c):(c==0)=false/\(c != 0)=true:=by
 rcases h with ⟨_,rfl⟩|⟨_,_,rfl⟩|⟨_,_,_,rfl⟩|⟨_,_,_,_,rfl⟩<;>exact⟨rfl,rfl⟩
theorem Jn (s:ByteArray) (w:World) (hs:s.size<=281474976710656):Calls Tryz.prog 13 #[.string s] w (IA s w):=by
 have hz:=WA;have HD:=hyd (Mf s w hs);go_enter Tryz.func13,Tryz.ntmps13;go_wp2_with fail;refine HD.out.mono ?_;rintro e w1 ⟨hB,⟨c,hc,rfl⟩|⟨hg,A,rfl,hI⟩⟩
 ·have HC:=hyd hc;obtain⟨hc1,hc2⟩:=hc.ne;clear hc HD;unfold Yv;go_wp2_with fail;go_ret2;exact⟨hB.trans ((Yh w1 _).mono hB.size),Or.inl ⟨c,HC.out,rfl⟩⟩
 ·generalize hT:Yc s=T at *;have HT:=hyd hT;have HG:=hyd hg;clear hT hg HD;unfold T8.cells;go_wp2_with fail;go_ret2;have x1:=Yh w1 (.cells #[.int .i64 T.rules,.slice A.a1 T.ncl A.c1,.slice A.a2 T.nlb A.c2,.slice A.a3 T.nbs A.c3,.slice A.a4 T.ndf A.c4,.slice A.a5 T.nck A.c5,.slice A.a6 T.nnx A.c6] 45);have B1:=hB.trans (x1.mono hB.size);have I1:=hI.below x1;refine⟨B1.trans ((Yh _ _).mono B1.size),Or.inr ⟨HG.out,w1.heap.size+1,A,rfl,by have:=hB.size;omega,?_,?_⟩⟩
  ·rw[HT.out];have:=Xa.boxed T A (w1.alloc (.cells #[.int .i64 T.rules,.slice A.a1 T.ncl A.c1,.slice A.a2 T.nlb A.c2,.slice A.a3 T.nbs A.c3,.slice A.a4 T.ndf A.c4,.slice A.a5 T.nck A.c5,.slice A.a6 T.nnx A.c6] 45)) 55;simpa[T8.cells]using this
  ·rw[HT.out];exact I1.below (Yh _ _)
theorem Kk (ad:Option Addr) (n cap:Nat) (f:Nat->Int) (w w2:World) (hn:n<=17592186044416)
  (hcp:(Builtin.copy_ #[39,39] 3 #[.slice (some ⟨w.heap.size,0,none⟩) n n,.slice ad n cap]).run Tryz.prog (w.alloc (.cells (VU n) 3))=.ok (goInt n) w2)
  (hW2:Below w.heap.size w w2) (hR:Xo w.heap.size f n w2):
  Calls Tryz.prog 21 #[.slice ad n cap] w fun e w'=>e=.returned (.slice (some ⟨w.heap.size,0,none⟩) n n)/\Xo w.heap.size f n w'/\Below w.heap.size w w':=by
 have hmk:=MK w n hn;go_enter Tryz.func21,Tryz.ntmps21;go_wp2_with fail;go_ret;exact⟨rfl,hR,hW2⟩
theorem QD (ad:Option Addr) (n cap:Nat) (f:Nat->Int) (w:World) (hn:n<=17592186044416) (hr:IL ad f n w):
  Calls Tryz.prog 21 #[.slice ad n cap] w fun e w'=>e=.returned (.slice (some ⟨w.heap.size,0,none⟩) n n)/\Xo w.heap.size f n w'/\Below w.heap.size w w':=by
 obtain⟨w2,h1,h2,h3⟩:=KY ad n cap n f w (Nat.le_refl _) hr;exact Kk ad n cap f w w2 hn h1 h2 (h3.congr (fun k hk=>by simp[hk]))
open Bm
def Mc.st (M:Mc):Pk.St:=Pk.run M.nx M.k M.nlb
def XU (M:Mc):Tb where
 rules:=M.rules
 cl:=M.cl
 ncl:=M.ncl
 lb:=M.lb
 nlb:=M.nlb
 bs:=fun i=>M.st.bs.getD i 0
 nbs:=M.st.bs.length
 df:=fun i=>M.st.df.getD i 0
 ndf:=M.st.df.length
 ck:=fun i=>M.st.ck.getD i 0
 nck:=M.st.ck.length
 nx:=fun i=>M.st.nt.getD i 0
 nnx:=M.st.nt.length
def Uc (u v:Value):Prop:=∀k,u.ownBlock=some k->v.ownBlock≠some k
theorem Uc.symm {u:Value} (h:Uc u v):Uc v u:=fun k h1 h2=>h k h2 h1
structure SK (w:World) (M:Mc) (A:Qp) (rb tb g1 g2 ob cb base:Nat) (ck nt bs df:List Int) (vb vd vc vn:Value) (W:World):Prop where
 z:W.there rb 0 7
 t:TC tb [.int .i64 M.rules,.slice (some ⟨g1,0,none⟩) M.ncl M.ncl,.slice (some ⟨g2,0,none⟩) M.nlb M.nlb,vb,vd,.slice none 0 0,.slice none 0 0] W
 k1:Xo g1 M.cl M.ncl W
 k2:Xo g2 M.lb M.nlb W
 r0:TC ob [.int .i64 M.k,.slice A.a3 M.nnx A.c3] W
 c:Cs base cb vc vn ck nt W
 b:OwnL base vb bs W
 d:OwnL base vd df W
 bd:Uc vb vd
 bc:Uc vb vc
 bn:Uc vb vn
 dc:Uc vd vc
 dn:Uc vd vn
 bel:Below w.heap.size w W
 bw:base<=W.heap.size
 o0:w.heap.size<=rb
 o1:rb<tb
 o2:tb<g1
 o3:g1<g2
 o4:g2<ob
 o5:ob<cb
theorem Uu {o:Nat} (h:W.there b o n) (hk:W'.heap[b]?=W.heap[b]?):W'.there b o n:=fun j hj=>by
 rw[World.cell?_of_block (w:=W) (w':=W') (a:=⟨b,o+j,none⟩) hk,World.frozen?_of_block (w:=W) (w':=W') (a:=⟨b,o+j,none⟩) hk];exact h j hj
variable {M:Mc}
theorem SK.move {A:Qp}{ob:Nat}{bs' df':List Int}{vd':Value} (h:SK w M A rb tb g1 g2 ob cb base ck nt bs df vb vd vc vn W)
  (hk:∀q,q<base->q≠tb->q≠cb->W'.heap[q]?=W.heap[q]?) (hz:W.heap.size<=W'.heap.size)
  (ht:TC tb [.int .i64 M.rules,.slice (some ⟨g1,0,none⟩) M.ncl M.ncl,.slice (some ⟨g2,0,none⟩) M.nlb M.nlb,vb',vd',.slice none 0 0,.slice none 0 0] W')
  (hc:Cs base cb vc' vn' ck' nt' W') (hb:OwnL base vb' bs' W') (hd:OwnL base vd' df' W') (bd:Uc vb' vd') (bc:Uc vb' vc') (bn:Uc vb' vn') (dc:Uc vd' vc') (dn:Uc vd' vn') (hB:Below w.heap.size w W'):
  SK w M A rb tb g1 g2 ob cb base ck' nt' bs' df' vb' vd' vc' vn' W':=by
 have h0:=h.o0;have h1:=h.o1;have h2:=h.o2;have h3:=h.o3;have h4:=h.o4;have h5:=h.o5;have h6:=h.c.lt;exact⟨Uu h.z (hk _ (by omega) (by omega) (by omega)),ht,h.k1.block (hk _ (by omega) (by omega) (by omega)),h.k2.block (hk _ (by omega) (by omega) (by omega)),
  h.r0.block (hk _ (by omega) (by omega) (by omega)),hc,hb,hd,bd,bc,bn,dc,dn,hB,Nat.le_trans h.bw hz,h0,h1,h2,h3,h4,h5⟩
theorem SK.below {A:Qp}{ob:Nat} (h:SK w M A rb tb g1 g2 ob cb base ck nt bs df vb vd vc vn W) (hW:Below W.heap.size W W'):
  SK w M A rb tb g1 g2 ob cb base ck nt bs df vb vd vc vn W':=
 h.move (fun q hq _ _=>hW.block q (Nat.lt_of_lt_of_le hq h.bw)) hW.size (h.t.below hW) (h.c.below hW) (h.b.below hW) (h.d.below hW) h.bd h.bc h.bn h.dc h.dn (h.bel.trans (hW.mono h.bel.size))
theorem SK.rw {A:Qp}{ob:Nat} (h:SK w M A rb tb g1 g2 ob cb base ck nt bs df vb vd vc vn W) (hI:MY M A w):Rw ob M.k A.a3 M.nnx A.c3 M.nx W:=
 ⟨(h.r0 0 _ rfl).1,(h.r0 1 _ rfl).1,hI.l3.below h.bel⟩
theorem SK.put {A:Qp}{ob:Nat} (h:SK w M A rb tb g1 g2 ob cb base ck nt bs df vb vd vc vn W)
  (hc:Cs base cb vc' vn' ck' nt' W') (hp:Xx cb vc vn vc' vn' W W'):SK w M A rb tb g1 g2 ob cb base ck' nt' bs df vb vd vc' vn' W':=by
 have h5:=h.o5;have hbw:=h.bw;have hcb:=h.c.c.blk;have hnb:=h.c.n.blk;have low:∀q,q<base->q≠cb->W'.heap[q]?=W.heap[q]?:=fun q hq h0=>hp.kept q (by omega) h0 (fun e=>by have:=(hcb q e).1;omega) (fun e=>by have:=(hnb q e).1;omega)
 have fresh:∀(u:Value) (l:List Int),OwnL base u l W->Uc u vc->Uc u vn->OwnL base u l W'/\Uc u vc'/\Uc u vn':=fun u l hu n1 n2=>by
  refine⟨hu.keep (fun k hk=>hp.kept k (hu.blk k hk).2 (by have:=(hu.blk k hk).1;have:=h.c.lt;omega) (n1 k hk) (n2 k hk)),fun k hk e=>?_,fun k hk e=>?_⟩
  ·rcases hp.oc k e with e|e
   ·exact n1 k hk e
   ·have:=(hu.blk k hk).2;omega
  ·rcases hp.on k e with e|e
   ·exact n2 k hk e
   ·have:=(hu.blk k hk).2;omega
 obtain⟨b1,b2,b3⟩:=fresh vb bs h.b h.bc h.bn;obtain⟨d1,d2,d3⟩:=fresh vd df h.d h.dc h.dn;have h0:=h.o0;have h1:=h.o1;have h2:=h.o2;have h3:=h.o3;have h4:=h.o4;have hlt:=h.c.lt;exact h.move (fun q hq _ hn=>low q hq hn) hp.bel.size (h.t.block (low _ (by omega) (by omega))) hc b1 d1 h.bd b2 b3 d2 d3 (h.bel.trans (hp.bel.mono (by omega)))
theorem SK.ready {A:Qp}{ob:Nat} (x:Int) (h:SK w M A rb tb g1 g2 ob cb base ck nt bs df vb vd vc vn W):
  OwnL base vd df (W.alloc (.cells #[.int .i64 x] 3))/\OwnL base vb bs (W.alloc (.cells #[.int .i64 x] 3))/\(W.alloc (.cells #[.int .i64 x] 3)).cell? ⟨W.heap.size,0,none⟩=some (.int .i64 x)/\base<=(W.alloc (.cells #[.int .i64 x] 3)).heap.size /\
  (∀w5,(W.alloc (.cells #[.int .i64 x] 3)).grownBy w5 vd.ownBlock->w5.cell? ⟨tb,4,none⟩=some vd/\w5.frozen? ⟨tb,4,none⟩=false) /\
  (∀w5,(W.alloc (.cells #[.int .i64 x] 3)).grownBy w5 vb.ownBlock->w5.cell? ⟨tb,3,none⟩=some vb/\w5.frozen? ⟨tb,3,none⟩=false):=by
 have hx:=box_bel W (.cells #[.int .i64 x] 3);have h2:=h.o2;have h3:=h.o3;have h4:=h.o4;have h5:=h.o5;have h6:=h.c.lt;refine⟨h.d.below hx,h.b.below hx,by rw[World.cell?_alloc_new];rfl,Nat.le_trans h.bw hx.size,fun w5 hg=>?_,fun w5 hg=>?_⟩
 ·exact((h.t.below hx).block (hg.block _ (Nat.lt_of_lt_of_le h.t.lt hx.size) (fun e=>by have:=(h.d.blk _ e.symm).1;omega))) 4 _ rfl
 ·exact((h.t.below hx).block (hg.block _ (Nat.lt_of_lt_of_le h.t.lt hx.size) (fun e=>by have:=(h.b.blk _ e.symm).1;omega))) 3 _ rfl
theorem Um {u v v':Value}{g n cap:Nat}{W W1:World} (hv':v'=.slice (some ⟨g,0,none⟩) n cap) (hgb:v.ownBlock=some g\/g=W1.heap.size) (hz:W.heap.size<=W1.heap.size) (hu:∀k,u.ownBlock=some k->k<W.heap.size) (hn:Uc v u):Uc v' u:=by
 intro k hk e;rw[hv']at hk;have e2:g=k:=Option.some.inj hk;rcases hgb with h1|h1
 ·rw[e2]at h1;exact hn k h1 e
 ·have:=hu k e;omega
theorem SK.pushD {A:Qp}{ob:Nat}{x:Int}{o:Obj} (h:SK w M A rb tb g1 g2 ob cb base ck nt bs df vb vd vc vn W) (hW1:W1=W.alloc o)
  (h5:OwnL base (.slice (some ⟨g,0,none⟩) (df.length+1) cap) (df++[x]) w5) (hg:W1.grownBy w5 vd.ownBlock) (hgb:vd.ownBlock=some g\/g=W1.heap.size):
  SK w M A rb tb g1 g2 ob cb base ck nt bs (df++[x]) vb (.slice (some ⟨g,0,none⟩) (df.length+1) cap) vc vn (w5.setCell ⟨tb,4,none⟩ (.slice (some ⟨g,0,none⟩) (df.length+1) cap)):=by
 have x1:Below W.heap.size W W1:=by rw[hW1];exact box_bel _ _
 have hz1:W1.heap.size=W.heap.size+1:=by rw[hW1];simp
 have k1:=h.below x1;have h0:=h.o0;have h1:=h.o1;have h2:=h.o2;have h3:=h.o3;have h4:=h.o4;have h6:=h.o5;have h7:=h.c.lt;have h8:=h.bw;have hgc:=(h5.blk g rfl).1;have hdb:=h.d.blk;have hb:∀k,k≠tb->(w5.setCell ⟨tb,4,none⟩ (.slice (some ⟨g,0,none⟩) (df.length+1) cap)).heap[k]?=w5.heap[k]?:=fun k hk=>Below.heap_setCell w5 ⟨tb,4,none⟩ _ k (fun e=>hk e)
 have kp:∀q,q<W1.heap.size->q≠tb->vd.ownBlock≠some q->(w5.setCell ⟨tb,4,none⟩ (.slice (some ⟨g,0,none⟩) (df.length+1) cap)).heap[q]?=W1.heap[q]?:=fun q hq h0 h1=>by
  rw[hb q h0,hg.block q hq (fun e=>h1 e.symm)]
 have kl:∀(u:Value) (l:List Int),OwnL base u l W1->Uc vd u->OwnL base u l (w5.setCell ⟨tb,4,none⟩ (.slice (some ⟨g,0,none⟩) (df.length+1) cap)):=fun u l hu hn=>hu.keep (fun k hk=>kp k (hu.blk k hk).2 (by have:=(hu.blk k hk).1;omega) (fun e=>hn k e hk))
 refine k1.move (fun q hq hq1 _=>kp q (by omega) hq1 (fun e=>by have:=(hdb q e).1;omega)) (by have:=hg.size;simpa[World.setCell]using this) ?_ ?_ (kl vb bs k1.b h.bd.symm) (h5.keep (fun k hk=>hb k (by cases hk;show g≠_;omega))) ?_ h.bc h.bn ?_ ?_ ?_
 ·exact(k1.t.block (hg.block _ (by omega) (fun e=>by have:=(hdb _ e.symm).1;omega))).set 4 (by simp) _
 ·refine k1.c.keep (kp cb (by omega) (by omega) (fun e=>by have:=(hdb _ e).1;omega)) (fun k hk=>kp k (k1.c.c.blk k hk).2 (by have:=(k1.c.c.blk k hk).1;omega) (fun e=>h.dc k e hk)) (fun k hk=>kp k (k1.c.n.blk k hk).2 (by have:=(k1.c.n.blk k hk).1;omega) (fun e=>h.dn k e hk))
 ·exact(Um rfl hgb (by omega) (fun k hk=>(h.b.blk k hk).2) h.bd.symm).symm
 ·exact Um rfl hgb (by omega) (fun k hk=>(h.c.c.blk k hk).2) h.dc
 ·exact Um rfl hgb (by omega) (fun k hk=>(h.c.n.blk k hk).2) h.dn
 ·exact(k1.bel.grown hg (by omega) (fun q hq=>by have:=(hdb q hq).1;omega)).setCell (p:=⟨tb,4,none⟩) (show w.heap.size<=tb by omega) _
theorem SK.pushB {A:Qp}{ob:Nat}{x:Int}{o:Obj} (h:SK w M A rb tb g1 g2 ob cb base ck nt bs df vb vd vc vn W) (hW1:W1=W.alloc o)
  (h5:OwnL base (.slice (some ⟨g,0,none⟩) (bs.length+1) cap) (bs++[x]) w5) (hg:W1.grownBy w5 vb.ownBlock) (hgb:vb.ownBlock=some g\/g=W1.heap.size):
  SK w M A rb tb g1 g2 ob cb base ck nt (bs++[x]) df (.slice (some ⟨g,0,none⟩) (bs.length+1) cap) vd vc vn (w5.setCell ⟨tb,3,none⟩ (.slice (some ⟨g,0,none⟩) (bs.length+1) cap)):=by
 have x1:Below W.heap.size W W1:=by rw[hW1];exact box_bel _ _
 have hz1:W1.heap.size=W.heap.size+1:=by rw[hW1];simp
 have k1:=h.below x1;have h0:=h.o0;have h1:=h.o1;have h2:=h.o2;have h3:=h.o3;have h4:=h.o4;have h6:=h.o5;have h7:=h.c.lt;have h8:=h.bw;have hgc:=(h5.blk g rfl).1;have hdb:=h.b.blk;have hb:∀k,k≠tb->(w5.setCell ⟨tb,3,none⟩ (.slice (some ⟨g,0,none⟩) (bs.length+1) cap)).heap[k]?=w5.heap[k]?:=fun k hk=>Below.heap_setCell w5 ⟨tb,3,none⟩ _ k (fun e=>hk e)
 have kp:∀q,q<W1.heap.size->q≠tb->vb.ownBlock≠some q->(w5.setCell ⟨tb,3,none⟩ (.slice (some ⟨g,0,none⟩) (bs.length+1) cap)).heap[q]?=W1.heap[q]?:=fun q hq h0 h1=>by
  rw[hb q h0,hg.block q hq (fun e=>h1 e.symm)]
 have kl:∀(u:Value) (l:List Int),OwnL base u l W1->Uc vb u->OwnL base u l (w5.setCell ⟨tb,3,none⟩ (.slice (some ⟨g,0,none⟩) (bs.length+1) cap)):=fun u l hu hn=>hu.keep (fun k hk=>kp k (hu.blk k hk).2 (by have:=(hu.blk k hk).1;omega) (fun e=>hn k e hk))
 refine k1.move (fun q hq hq1 _=>kp q (by omega) hq1 (fun e=>by have:=(hdb q e).1;omega)) (by have:=hg.size;simpa[World.setCell]using this) ?_ ?_ (h5.keep (fun k hk=>hb k (by cases hk;show g≠_;omega))) (kl vd df k1.d h.bd) ?_ ?_ ?_ h.dc h.dn ?_
 ·exact(k1.t.block (hg.block _ (by omega) (fun e=>by have:=(hdb _ e.symm).1;omega))).set 3 (by simp) _
 ·refine k1.c.keep (kp cb (by omega) (by omega) (fun e=>by have:=(hdb _ e).1;omega)) (fun k hk=>kp k (k1.c.c.blk k hk).2 (by have:=(k1.c.c.blk k hk).1;omega) (fun e=>h.bc k e hk)) (fun k hk=>kp k (k1.c.n.blk k hk).2 (by have:=(k1.c.n.blk k hk).1;omega) (fun e=>h.bn k e hk))
 ·exact Um rfl hgb (by omega) (fun k hk=>(h.d.blk k hk).2) h.bd
 ·exact Um rfl hgb (by omega) (fun k hk=>(h.c.c.blk k hk).2) h.bc
 ·exact Um rfl hgb (by omega) (fun k hk=>(h.c.n.blk k hk).2) h.bn
 ·exact(k1.bel.grown hg (by omega) (fun q hq=>by have:=(hdb q hq).1;omega)).setCell (p:=⟨tb,3,none⟩) (show w.heap.size<=tb by omega) _
theorem Jg (nx:Nat->Int) (n s b:Nat) (l:List Nat) (p:List Int × List Int) (i c:Nat) (h:l[i]?=some c):
  Pk.lay nx n s b (l.take (i+1)) p=(Pk.put (Pk.lay nx n s b (l.take i) p).1 (b+c) s,Pk.put (Pk.lay nx n s b (l.take i) p).2 (b+c) (Pk.ld nx n s c)):=by
 rw[List.take_add_one,h,Pk.lay_append];rfl
end
section
open Go.RowKit
variable {k n:Nat}{f:Nat->Int}
theorem M9:∀ {k n:Nat},Yz f k=some n->∀i,i<k->0<=f i/\f i<=i
 |0,_,_,i,hi=>by omega
 |k+1,n,h,i,hi=>by
  rw[Yz]at h;rcases hc:Yz f k with _|m
  ·rw[hc]at h;cases h
  ·rw[hc]at h;simp only at h;have hm:=ST hc;by_cases e:i=k
   ·subst e;by_cases hb:f i<0\/(m:Int)<f i
    ·rw[if_pos hb]at h;cases h
    ·omega
   ·exact M9 hc i (by omega)
variable {T:Tb}
theorem SG.cl (h:SG T):T.ncl=256/\∀i,i<256->0<=T.cl i/\T.cl i<=255:=by
 have hp:=h.hd.2.2.1;unfold VH at hp;by_cases e:T.ncl=256
 ·rw[if_pos e]at hp;refine⟨e,fun i hi=>?_⟩;rcases hc:Yz T.cl 256 with _|m
  ·rw[hc]at hp;simp at hp
  ·have:=M9 hc i hi;omega
 ·rw[if_neg e]at hp;omega
def Qk (T:Tb):Nat->Int->Int->Int
 |0,_,_=>-1
 |u+1,s,c=>if s=-1 then -1 else if T.bs s.toNat+c<T.nck/\T.ck (T.bs s.toNat+c).toNat=s then T.nx (T.bs s.toNat+c).toNat else Qk T u (T.df s.toNat) c
theorem Ny (T:Tb) (u:Nat) (c:Int):Qk T u (-1) c=-1:=by cases u<;>simp[Qk]
theorem Jh {u:Nat}{c:Int} (hk:T.bs n+c=(k:Int)) (h1:k<T.nck) (h2:T.ck k=n):Qk T (u+1) (n:Int) c=T.nx k:=by
 rw[Qk,if_neg (by omega),Int.toNat_natCast,hk,Int.toNat_natCast,if_pos ⟨by omega,h2⟩]
theorem Mr {u:Nat}{c:Int} (hk:T.bs n+c=(k:Int)) (h:¬(k<T.nck/\T.ck k=n)):Qk T (u+1) (n:Int) c=Qk T u (T.df n) c:=by
 rw[Qk,if_neg (by omega),Int.toNat_natCast,hk,Int.toNat_natCast,if_neg (fun e=>h ⟨by omega,e.2⟩)]
def Tr (T:Tb) (s b:Int):Int:=if s<0\/(T.nlb:Int)<=s\/b<0\/256<=b then -1 else Qk T 97 s (T.cl b.toNat)
def Nx (T:Tb) (s:Int):Int:=if s<0\/(T.nlb:Int)<=s then -1 else T.lb s.toNat
theorem Ji (b:Nat) (T:Tb) (A:T8) (n0:Nat) (c:Int) (w:World) (hS:SG T) (hA:Xa b T A w) (hI:Vj T A w) (hn:n0<T.nlb) (hc:0<=c/\c<=255):
  Calls Tryz.prog 76 #[.pointer (some ⟨b,0,none⟩),.int .i64 n0,.int .i64 c] w fun e w'=>e=.returned (.int .i64 (Qk T 97 n0 c))/\w'=w:=by
 obtain⟨R,hR⟩:=nam (Qk T 97 n0 c);rw[<-hR];have HR:=hyd hR;clear hR;have HS:=hyd hS;have HI:=hyd hI;obtain⟨a1,C1,a2,C2,a3,C3,a4,C4,a5,C5,a6,C6⟩:=A;obtain⟨p0,p1,p2,p3,p4,p5,p6⟩:=hA;have e3:=hS.e3;have e4:=hS.e4;have e6:=hS.e6;have hl:=hS.hd.2.1;have hck:=hS.e5;rw[e3]at p3;rw[e4]at p4;rw[e6]at p6;clear hS hI;have l3:IL a3 T.bs T.nlb w:=by rw[<-e3];exact HI.out.l3
 have l4:IL a4 T.df T.nlb w:=by rw[<-e4];exact HI.out.l4
 have l5:=HI.out.l5;have l6:IL a6 T.nx T.nck w:=by rw[<-e6];exact HI.out.l6
 have L3:=hyd l3;have L4:=hyd l4;have L5:=hyd l5;have L6:=hyd l6;have B3:=hyd HS.out.b3;have B4:=hyd HS.out.b4;clear l3 l4 l5 l6 HI HS e3 e4 e6;simp only at p0 p1 p2 p3 p4 p5 p6;go_enter Tryz.func76,Tryz.ntmps76;go_wp2_with fail
 go_loopw [1] (fun x w'=>∃(s:Int) (u:Nat),x=.int .i64 s/\-1<=s/\s<T.nlb/\s<u/\u<=97/\Hid (R=Qk T u s c)/\w'=w) (fun x _=>(intOf x+1).toNat)
 case atStart=>exact⟨n0,97,rfl,by omega,by omega,by omega,by omega,HR,rfl⟩
 case round=>
  clear HR;obtain⟨s,u,rfl,hs0,hs1,hsu,hu,HR,rfl⟩:=hrel;by_cases hs:s=-1
  ·subst hs;have HR1:Hid (R=-1):=by show _=_;rw[HR.out,Ny]
   clear HR;go_wp2_with fail;go_ret;exact⟨YS HR1.out.symm,rfl⟩
  ·obtain⟨n,rfl⟩:=Int.eq_ofNat_of_zero_le (show 0<=s by omega);rcases u with _|u
   ·omega
   have q2:((n:Int) != -1)=true:=by simp
   have hnl:n<T.nlb:=by omega
   have b3:=B3.out n hnl;have b4:=B4.out n hnl;obtain⟨k,ik⟩:∃k:Nat,T.bs n+c=(k:Int):=⟨(T.bs n+c).toNat,by omega⟩;obtain⟨g3,o3,rfl,c3⟩:=L3.out n hnl;obtain⟨g4,o4,rfl,c4⟩:=L4.out n hnl;by_cases hkk:k<T.nck
   ·have hkk':(k:Int)<(T.nck:Int):=by omega
    obtain⟨g5,o5,rfl,c5⟩:=L5.out k hkk;obtain⟨g6,o6,rfl,c6⟩:=L6.out k hkk;by_cases hck2:T.ck k=n
    ·have HR1:Hid (R=T.nx k):=by show _=_;rw[HR.out,Jh ik hkk hck2]
     have q3:(T.ck k==(n:Int))=true:=by simpa using hck2
     clear HR;go_wp2_with fail;go_ret;exact⟨YS HR1.out.symm,rfl⟩
    ·have HR1:Hid (R=Qk T u (T.df n) c):=by show _=_;rw[HR.out,Mr ik (fun e=>hck2 e.2)]
     have q3:(T.ck k==(n:Int))=false:=by simpa using hck2
     clear HR;go_wp2_with fail;go_roundw
     case rel=>exact⟨T.df n,u,rfl,b4.1,by omega,by omega,by omega,HR1,trivial⟩
     case measure=>simp[intOf];omega
   ·have hkk':¬(k:Int)<(T.nck:Int):=by omega
    have HR1:Hid (R=Qk T u (T.df n) c):=by show _=_;rw[HR.out,Mr ik (fun e=>hkk e.1)]
    clear HR;go_wp2_with fail;go_roundw
    case rel=>exact⟨T.df n,u,rfl,b4.1,by omega,by omega,by omega,HR1,trivial⟩
    case measure=>simp[intOf];omega
theorem La (b:Nat) (T:Tb) (A:T8) (s x:Int) (w:World) (hS:SG T) (hA:Xa b T A w) (hI:Vj T A w):
  Calls Tryz.prog 61 #[.pointer (some ⟨b,0,none⟩),.int .i64 s,.int .i64 x] w fun e w'=>e=.returned (.int .i64 (Tr T s x))/\w'=w:=by
 obtain⟨R,hR⟩:=nam (Tr T s x);rw[<-hR];unfold Tr at hR;have hcl:=hS.cl;have HL:Hid (∀(n0:Nat) (c:Int),n0<T.nlb->(0<=c/\c<=255)->Calls Tryz.prog 76 #[.pointer (some ⟨b,0,none⟩),.int .i64 n0,.int .i64 c] w fun e w'=>e=.returned (.int .i64 (Qk T 97 n0 c))/\w'=w):=fun n0 c h1 h2=>Ji b T A n0 c w hS hA hI h1 h2
 obtain⟨a1,C1,a2,C2,a3,C3,a4,C4,a5,C5,a6,C6⟩:=A;obtain⟨p0,p1,p2,p3,p4,p5,p6⟩:=hA;simp only at p0 p1 p2 p3 p4 p5 p6;rw[hcl.1]at p1;have l1:IL a1 T.cl 256 w:=by rw[<-hcl.1];exact hI.l1
 have L1:=hyd l1;have HCl:=hyd hcl.2;clear hI l1 hcl hS;by_cases c1:s<0
 ·rw[if_pos (Or.inl c1)]at hR;subst hR;clear HL L1;go_enter Tryz.func61,Tryz.ntmps61;go_wp2_with fail;go_ret;exact⟨rfl,rfl⟩
 by_cases c2:(T.nlb:Int)<=s
 ·rw[if_pos (Or.inr (Or.inl c2))]at hR;subst hR;clear HL L1;go_enter Tryz.func61,Tryz.ntmps61;go_wp2_with fail;go_ret;exact⟨rfl,rfl⟩
 by_cases c3:x<0
 ·rw[if_pos (Or.inr (Or.inr (Or.inl c3)))]at hR;subst hR;clear HL L1;go_enter Tryz.func61,Tryz.ntmps61;go_wp2_with fail;go_ret;exact⟨rfl,rfl⟩
 by_cases c4:256<=x
 ·rw[if_pos (Or.inr (Or.inr (Or.inr c4)))]at hR;subst hR;clear HL L1;go_enter Tryz.func61,Tryz.ntmps61;go_wp2_with fail;go_ret;exact⟨rfl,rfl⟩
 rw[if_neg (by omega)]at hR;obtain⟨n,rfl⟩:=Int.eq_ofNat_of_zero_le (show 0<=s by omega);obtain⟨m,rfl⟩:=Int.eq_ofNat_of_zero_le (show 0<=x by omega);rw[Int.toNat_natCast]at hR;have hm:m<256:=by omega
 have HC:=HL.out n (T.cl m) (by omega) (HCl.out m hm);rw[<-hR]at HC;have HC1:Hid (Calls Tryz.prog 76 #[.pointer (some ⟨b,0,none⟩),.int .i64 n,.int .i64 (T.cl m)] w fun e w'=>e=.returned (.int .i64 R)/\w'=w):=HC;obtain⟨g1,o1,rfl,d1⟩:=L1.out m hm;clear HC HL L1 hR HCl;go_enter Tryz.func61,Tryz.ntmps61;go_wp2_with fail;refine HC1.out.mono ?_;rintro e w' ⟨rfl,rfl⟩;go_wp2_with fail;go_ret;exact⟨rfl,rfl⟩
theorem MO (b:Nat) (T:Tb) (A:T8) (s:Int) (w:World) (hA:Xa b T A w) (hI:Vj T A w):
  Calls Tryz.prog 62 #[.pointer (some ⟨b,0,none⟩),.int .i64 s] w fun e w'=>e=.returned (.int .i64 (Nx T s))/\w'=w:=by
 obtain⟨R,hR⟩:=nam (Nx T s);rw[<-hR];unfold Nx at hR;obtain⟨a1,C1,a2,C2,a3,C3,a4,C4,a5,C5,a6,C6⟩:=A;obtain⟨p0,p1,p2,p3,p4,p5,p6⟩:=hA;simp only at p0 p1 p2 p3 p4 p5 p6;have L2:=hyd hI.l2;clear hI;by_cases c1:s<0
 ·rw[if_pos (Or.inl c1)]at hR;subst hR;clear L2;go_enter Tryz.func62,Tryz.ntmps62;go_wp2_with fail;go_ret;exact⟨rfl,rfl⟩
 by_cases c2:(T.nlb:Int)<=s
 ·rw[if_pos (Or.inr c2)]at hR;subst hR;clear L2;go_enter Tryz.func62,Tryz.ntmps62;go_wp2_with fail;go_ret;exact⟨rfl,rfl⟩
 rw[if_neg (by omega)]at hR;obtain⟨n,rfl⟩:=Int.eq_ofNat_of_zero_le (show 0<=s by omega);rw[Int.toNat_natCast]at hR;have hn:n<T.nlb:=by omega
 have hn':(n:Int)<(T.nlb:Int):=by omega
 obtain⟨g2,o2,rfl,d2⟩:=L2.out n hn;subst hR;clear L2;go_enter Tryz.func62,Tryz.ntmps62;go_wp2_with fail;go_ret;exact⟨rfl,rfl⟩
def We (l:List UInt8) (i:Nat):Int:=((l.getD i 0).toNat:Int)
theorem Lx (l:List UInt8) (i:Nat):fb ⟨l.toArray⟩ i=We l i:=by simp[fb,We]
theorem WJ (a b:List UInt8) (i:Nat):We (a++b) (a.length+i)=We b i:=by
 simp[We,List.getD_eq_getElem?_getD,List.getElem?_append_right]
theorem Ww (a b:List UInt8) (i:Nat) (h:i<a.length):We (a++b) i=We a i:=by
 simp[We,List.getD_eq_getElem?_getD,List.getElem?_append_left h]
theorem Lv (x:Int):We [YX x] 0=x%256:=by
 have:=Yj x;simpa[We]using this
theorem SV (f:Nat->Int) (more:Int):∀(n i:Nat),i<n->We (X3 f n more) i=(f i+more)%256
 |0,i,h=>by omega
 |n+1,i,h=>by
  rw[Px];by_cases e:i=n
  ·subst e;have:=WJ (X3 f i more) [YX (f i+more)] 0;rw[XB,Nat.add_zero]at this;rw[this,Lv]
  ·rw[Ww _ _ _ (by rw[XB];omega)];exact SV f more n i (by omega)
theorem TG (f g:Nat->Int):∀(n i:Nat),i<n->We (Yl f g n) (2*i)=(f i+1)%256/\We (Yl f g n) (2*i+1)=(g i+1)%256
 |0,i,h=>by omega
 |n+1,i,h=>by
  rw[Wv];by_cases e:i=n
  ·subst e;have h0:=WJ (Yl f g i) [YX (f i+1),YX (g i+1)] 0;have h1:=WJ (Yl f g i) [YX (f i+1),YX (g i+1)] 1;rw[Xr]at h0 h1;rw[Nat.add_zero]at h0;rw[h0,h1];have b0:=Yj (f i+1);have b1:=Yj (g i+1);exact⟨by simpa[We]using b0,by simpa[We]using b1⟩
  ·rw[Ww _ _ _ (by rw[Xr];omega),Ww _ _ _ (by rw[Xr];omega)];exact TG f g n i (by omega)
theorem VF (f:Nat->Int):∀n,(YC f n 1).length=n
 |0=>by simp[YC]
 |n+1=>by rw[XZ,List.length_append,VF f n];simp
theorem Wu (f:Nat->Int):∀n,(YC f n 2).length=2*n
 |0=>by simp[YC]
 |n+1=>by rw[XZ,List.length_append,Wu f n];simp;omega
theorem QH (f:Nat->Int):∀(n i:Nat),i<n->We (YC f n 1) i=f i%256
 |0,i,h=>by omega
 |n+1,i,h=>by
  rw[XZ];by_cases e:i=n
  ·subst e;have h0:=WJ (YC f i 1) [YX (f i)] 0;rw[VF,Nat.add_zero]at h0;rw[if_neg (by omega),h0,Lv]
  ·rw[Ww _ _ _ (by rw[VF];omega)];exact QH f n i (by omega)
theorem QI (f:Nat->Int):∀(n i:Nat),i<n->We (YC f n 2) (2*i)=f i/256%256/\We (YC f n 2) (2*i+1)=f i%256
 |0,i,h=>by omega
 |n+1,i,h=>by
  rw[XZ,if_pos rfl];by_cases e:i=n
  ·subst e;have h0:=WJ (YC f i 2) [YX (f i/256),YX (f i)] 0;have h1:=WJ (YC f i 2) [YX (f i/256),YX (f i)] 1;rw[Wu]at h0 h1;rw[Nat.add_zero]at h0;rw[h0,h1];have b0:=Yj (f i/256);have b1:=Yj (f i);exact⟨by simpa[We]using b0,by simpa[We]using b1⟩
  ·rw[Ww _ _ _ (by rw[Wu];omega),Ww _ _ _ (by rw[Wu];omega)];exact QI f n i (by omega)
structure JY (T U:Tb):Prop where
 r:T.rules=U.rules
 n1:T.ncl=U.ncl
 n2:T.nlb=U.nlb
 n3:T.nbs=U.nbs
 n4:T.ndf=U.ndf
 n5:T.nck=U.nck
 n6:T.nnx=U.nnx
 f1:∀i,i<T.ncl->T.cl i=U.cl i
 f2:∀i,i<T.nlb->T.lb i=U.lb i
 f3:∀i,i<T.nbs->T.bs i=U.bs i
 f4:∀i,i<T.ndf->T.df i=U.df i
 f5:∀i,i<T.nck->T.ck i=U.ck i
 f6:∀i,i<T.nnx->T.nx i=U.nx i
theorem RQ {g:Nat->Int}:∀k,(∀i,i<k->f i=g i)->Yz f k=Yz g k
 |0,_=>rfl
 |k+1,h=>by rw[Yz,Yz,RQ k (fun i hi=>h i (by omega)),h k (by omega)]
theorem So {g:Nat->Int} (h:∀i,i<n->f i=g i):VH f n=VH g n:=by
 unfold VH;split
 ·rename_i e;subst e;rw[RQ 256 h]
 ·rfl
theorem Tv {g:Nat->Int}:∀k,(∀i,i<k->f i=g i)->YJ f k=YJ g k
 |0,_=>rfl
 |k+1,h=>by rw[YJ,YJ,Tv k (fun i hi=>h i (by omega)),h k (by omega)]
theorem TK {g:Nat->Int}{m:Int} (h:∀i,i<n->f i=g i):X3 f n m=X3 g n m:=by
 unfold X3;refine List.map_congr_left (fun i hi=>?_);rw[h i (by simpa using hi)]
theorem Ov {g:Nat->Int}{m:Int} (h:∀i,i<n->f i=g i):YC f n m=YC g n m:=by
 induction n with
 |zero=>simp[YC]
 |succ n ih=>rw[XZ,XZ,ih (fun i hi=>h i (by omega)),h n (by omega)]
theorem OA {g f' g':Nat->Int} (h:∀i,i<n->f i=f' i) (k:∀i,i<n->g i=g' i):Yl f g n=Yl f' g' n:=by
 induction n with
 |zero=>simp[Yl]
 |succ n ih=>rw[Wv,Wv,ih (fun i hi=>h i (by omega)) (fun i hi=>k i (by omega)),h n (by omega),k n (by omega)]
variable {U:Tb}
theorem JY.body (h:JY T U) (e6:T.nnx=T.nck):WT T=WT U:=by
 unfold WT;rw[<-h.r,<-h.n1,<-h.n2,<-h.n3,<-h.n4,<-h.n5,So h.f1,Tv _ h.f3,TK h.f1,TK h.f2,Ov h.f3,TK h.f4,OA h.f5 (fun i hi=>h.f6 i (by omega))]
theorem JY.file (h:JY T U) (e6:T.nnx=T.nck):Yb T=Yb U:=by unfold Yb;rw[h.body e6]
theorem JY.snd (h:JY T U) (hS:SG T):SG U:=by
 have hd:=hS.hd;have e3:=hS.e3;have e4:=hS.e4;have e6:=hS.e6;unfold Hd at hd;rw[h.r,So h.f1,h.n1,h.n2]at hd;refine⟨⟨hd.1,hd.2.1,hd.2.2.1,fun i hi=>?_⟩,?_,?_,?_,?_,fun i hi=>?_,fun i hi=>?_,fun k hk=>?_,?_⟩
 ·rw[<-h.f2 i (by rw[h.n2];exact hi)];exact hd.2.2.2 i hi
 ·rw[<-h.n3,<-h.n2];exact hS.e3
 ·rw[<-h.n4,<-h.n2];exact hS.e4
 ·rw[<-h.n6,<-h.n5];exact hS.e6
 ·rw[<-h.n5];exact hS.e5
 ·rw[<-h.n2]at hi;rw[<-h.f3 i (by omega),<-h.n5];exact hS.b3 i hi
 ·rw[<-h.n2]at hi;rw[<-h.f4 i (by omega)];exact hS.b4 i hi
 ·rw[<-h.n5]at hk;have hc:=hS.cs k hk;unfold Wp at hc ⊢;rw[<-h.f5 k hk,<-h.f6 k (by omega),<-h.n2,<-h.n1];rcases hc with hc|⟨c1,c2,c3,c4⟩
  ·exact Or.inl hc
  ·refine Or.inr ⟨c1,c2,?_,?_⟩
   ·rw[<-h.f3 _ (by omega)];exact c3
   ·rw[<-h.f3 _ (by omega),<-So h.f1];exact c4
 ·rcases hS.la with h0|h0
  ·exact Or.inl (by rw[<-h.n5];exact h0)
  ·by_cases hz:T.nck=0
   ·exact Or.inl (by rw[<-h.n5];exact hz)
   ·refine Or.inr ?_;rw[<-h.n5,<-h.f5 _ (by omega)];exact h0
end
end Go.Proofs.YtoaaklhpmhjhkabGreat
