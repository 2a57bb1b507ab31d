import Derived.Test.YtoaaklhpmhjhkabC37
set_option maxRecDepth 100000
set_option maxHeartbeats 4000000
set_option linter.all false
namespace Go.Proofs.Ytoaaklhpmhjhkab
open Go.RowKit
open Bm
theorem MT (w:World):(zeroValue 85).run Try.prog w=.ok (.agg #[.string ⟨#[]⟩,.int .i64 0]) w:=by
 have h:(Try.prog.info? 85).bind (·.zero)=some (.agg #[.string ⟨#[]⟩,.int .i64 0]):=by kernel_rfl
 cases hq:Try.prog.info? 85 with
 |none=>rw[hq]at h;cases h
 |some i=>rw[hq]at h;simp at h;simp[zeroValue,typeInfo,hq,h]
variable {base : Nat}{v : Value}{w : World}
theorem Yh.sl {l:List WQ} (h:Yh base v l w):∃la lc,v=.slice la l.length lc:=by
 rcases h.2 with ⟨h1,h2⟩|⟨g,cap,_,e,_⟩
 ·exact⟨none,0,by rw[h1,h2]⟩
 ·exact⟨_,cap,e⟩
theorem U8 (qs:List WQ) (p q:WQ):(qs++[p]).set qs.length q=qs++[q]:=by simp
theorem Qe (ad:Option Addr) (n cap:Nat) (f:Nat->Int) (w:World) (hn:n<=17592186044416) (hI:IL ad f n w) (hr:∀i,i<n->LJ (f i)):
  Calls Try.prog 22 #[.slice ad n cap] w (Pu w):=by
 have hz:=MT;have HPk:Hid (∀(c:Int) (w':World),LJ c->Calls Try.prog 15 #[.int .i64 c,.int .i64 20] w' fun e w''=>e=.returned (.int .i64 (Vx c 20))/\w''=w'):=fun c w' h=>QX c 20 w' h (by omega) (by omega)
 have HI:Hid (∀w',Below w.heap.size w w'->IL ad f n w'):=fun w' h=>hI.below h
 have HR:=hyd hr;clear hI hr;go_enter Try.func22,Try.ntmps22;go_wp2_with fail
 go_loopw [3,4,5] (fun lv x y w'=>∃(i left S:Nat) (ps:List WQ),i<=n/\x=.int .i64 left/\y=.int .i64 i/\S+left=6/\Yh w.heap.size lv ps w'/\Hid (SP ps S)/\Below w.heap.size w w') (fun _ _ y _=>n-(intOf y).toNat)
 case atStart=>exact⟨0,6,0,[],by omega,rfl,rfl,rfl,Yh.nil _ _,MH,Below.refl _ _⟩
 case round=>
  obtain⟨i,left,S,ps,hi,rfl,rfl,hSl,O,HPs,B⟩:=hrel;obtain⟨la,lc,hla⟩:=O.sl;subst hla;have hpl:ps.length<=6:=by have:=NA ps.length rfl HPs.out;omega
  obtain⟨N,hN⟩:=nam ps.length;have HN:=hyd hN;have HO:Hid (Yh w.heap.size (.slice la N lc) ps wr):=by show Yh _ _ _ _;rw[hN];exact O
  rw[<-hN];have hN6:N<=6:=by omega
  clear hN O hpl;by_cases hlt:i<n
  ·have hlt':(i:Int)<n:=by omega
   obtain⟨g,o,hg,hc⟩:=HI.out wr B i hlt;subst hg;obtain⟨c,hcv⟩:=nam (f i);rw[<-hcv]at hc;have HC:Hid (LJ c):=by show LJ c;rw[hcv];exact HR.out i hlt
   clear hcv;obtain⟨k,hk⟩:∃k:Nat,k=Vx c 20:=⟨_,rfl⟩;have hk20:k<20:=by rw[hk];exact Ny c (by omega)
   have HPc:Hid (Calls Try.prog 15 #[.int .i64 c,.int .i64 20] wr fun e w''=>e=.returned (.int .i64 k)/\w''=wr):=by show Calls _ _ _ _ _;rw[hk];exact HPk.out c wr HC.out
   clear hk;go_wp2_with fail;refine HPc.out.mono ?_;rintro e wr ⟨rfl,rfl⟩;clear HPc hc HC;by_cases hA:k<10/\0<left
   ·obtain⟨k10,l0⟩:=hA;have k10':(k:Int)<10:=by omega
    have l0':(0:Int)<left:=by omega
    have HPi:=hyd (PY k wr k10);go_wp2_with fail;refine HPi.out.mono ?_;rintro e w2 ⟨rfl,B2⟩;clear HPi;obtain⟨Z,hZ⟩:=nam (YE (V0 k));have HZ:=hyd hZ;rw[<-hZ];clear hZ;go_wp2_with (first|(with_reducible show wpList _ _ _ (⟨_,Op.call { callee:=Callee.builtin Builtin.append,args:=_,argTypes:=_ },_,_,_,_⟩::_) _ _;refine WR.out ?_));refine⟨?_⟩;obtain⟨W3,hW3⟩:=nam (w2.alloc (.cells #[.string Z,.int .i64 0] 85));rw[<-hW3];have B3:Below w2.heap.size w2 W3:=by rw[hW3];exact box_bel _ _
    have T3:TC w2.heap.size [.string Z,.int .i64 0] W3:=by rw[hW3];exact TC.boxed w2 _ _
    have B23:=B2.trans (B3.mono B2.size);have BW3:=B.trans (B23.mono B.size);have O3:=HO.out.below B23;refine Va rfl _ _ rfl w.heap.size (.slice la N lc) ps rfl O3 (by have:=HN.out;omega) w2.heap.size (V0 k,0) rfl (fun j u hu=>by have:=(T3 j u (by rw[HZ.out];exact hu)).1;exact this) BW3.size ?_;intro g2 cap2 w4 h1 h2;have HB4:=hyd (BW3.grown h2 BW3.size (fun q hq=>(O3.blk q hq).1));rw[<-HN.out]at h1 ⊢;have HP2:=hyd (XQ HPs.out (P1 k10));have HO4:=hyd h1;clear h1 h2 O3 BW3 B23 T3 B3 hW3 B2 HO HPs HZ B
    (try simp only[psm])
    go_wp2_with fail;go_roundw
    case rel=>exact⟨i+1,left-1,S+1,_,by omega,by rw[show((left-1:Nat):Int)=(left:Int)-1 by omega],by go_num,by omega,HO4.out,HP2,HB4.out⟩
    case measure=>simp[intOf];omega
   ·by_cases k10:k<10
    ·have k10':(k:Int)<10:=by omega
     have l0':¬(0:Int)<left:=by omega
     have k10g:¬(10:Int)<=k:=by omega
     have k14g:¬(14:Int)<=k:=by omega
     go_wp2_with fail;go_roundw
     case rel=>exact⟨i+1,left,S,ps,by omega,rfl,by go_num,hSl,HO.out,HPs,B⟩
     case measure=>simp[intOf];omega
    ·have k10':¬(k:Int)<10:=by omega
     have k10g:(10:Int)<=k:=by omega
     by_cases k14:k<14
     ·have k14':(k:Int)<14:=by omega
      have k14g:¬(14:Int)<=k:=by omega
      by_cases hN1:1<N
      ·have hN1':(1:Int)<N:=by omega
       rcases List.eq_nil_or_concat ps with e|⟨rs,q,e⟩
       ·subst e;have:=HN.out;simp at this;omega
       rw[List.concat_eq_append]at e;subst e;rcases List.eq_nil_or_concat rs with e|⟨qs,p,e⟩
       ·subst e;have:=HN.out;simp at this;omega
       rw[List.concat_eq_append]at e;subst e;obtain⟨S1,V,eS1,HQ1,hqk⟩:=T8 HPs.out;obtain⟨S2,U,eS2,HQ2,hpk⟩:=T8 HQ1;obtain⟨N2,hN2⟩:=nam qs.length;obtain⟨N1,hN1e⟩:=nam (N2+1);have hNN:N=N1+1:=by rw[HN.out,hN1e,hN2];simp
       have iN:(N:Int)-1=(N1:Int):=by omega
       have iN2:(N:Int)-2=(N2:Int):=by omega
       have l1N:(N1:Int)<N:=by omega
       have l2N:(N2:Int)<N:=by omega
       have l21:(N2:Int)<N1:=by omega
       have hO2:Yh w.heap.size (.slice la ((qs++[p])++[q]).length lc) ((qs++[p])++[q]) wr:=by rw[<-HN.out];exact HO.out
       obtain⟨g3,cap3,e3⟩:=hO2.slc (by simp);cases e3;have hcp:(N1:Int)<=lc:=by
        rcases hO2.2 with ⟨h,_⟩|⟨_,_,_,e,_,_,h,_⟩
        ·cases h
        ·cases e;rw[<-HN.out]at h;omega
       have hps1:((qs++[p])++[q])[N1]?=some q:=by rw[hN1e,hN2];simp
       have hps2:((qs++[p])++[q])[N2]?=some p:=by rw[hN2];simp
       have rg1:=(hO2.at_ hps1).1;have rg2:=(hO2.at_ hps2).1;obtain⟨P,hP⟩:=nam (YE p.1);obtain⟨d,hd⟩:=nam p.2;obtain⟨Q,hQ⟩:=nam (YE q.1);obtain⟨dq,hdq⟩:=nam q.2;have hr1:wr.drew.rangeAt g3 (N1*2) [.string Q,.int .i64 dq]:=by rw[hQ,hdq];exact rg1
       have hr2:wr.drew.rangeAt g3 (N2*2) [.string P,.int .i64 d]:=by rw[hP,hd];exact rg2
       have HP:=hyd7 hP hd hQ hdq hN2 hN1e hNN;have HO2:=hyd hO2;have Hpk:Hid (Ux p U/\Ux q V/\SP qs S2/\S=S2+U+V):=⟨hpk,hqk,HQ2,by omega⟩;have hw1:IntKind.i64.wrap ((N:Int)-1)=(N1:Int):=by rw[iN];simp[IntKind.wrap,IntKind.bits,IntKind.signed];omega
       have hw2:IntKind.i64.wrap ((N:Int)-2)=(N2:Int):=by rw[iN2];simp[IntKind.wrap,IntKind.bits,IntKind.signed];omega
       have hw3:IntKind.i64.wrap (N1:Int)=(N1:Int):=by simp[IntKind.wrap,IntKind.bits,IntKind.signed];omega
       have hw4:IntKind.i64.wrap (N2:Int)=(N2:Int):=by simp[IntKind.wrap,IntKind.bits,IntKind.signed];omega
       clear hP hd hQ hdq hN2 hN1e hO2 rg1 rg2 hps1 hps2 hpk hqk HQ1 HQ2 eS1 eS2 HPs HO hNN;go_wp2_with fail;have g3l:=(HO2.out.blk g3 rfl).2;have HSk:Hid (∀w',Below wr.heap.size wr.drew w'->w'.rangeAt g3 (N2*2) [.string P,.int .i64 d]/\w'.rangeAt g3 (N1*2) [.string Q,.int .i64 dq]):=fun w' hb=>⟨fun m u hu=>by rw[hb.cell (p:=⟨g3,N2*2+m,none⟩) g3l];exact hr2 m u hu,fun m u hu=>by rw[hb.cell (p:=⟨g3,N1*2+m,none⟩) g3l];exact hr1 m u hu⟩
       obtain⟨bar,hbar⟩:=nam (decide ((k:Int)<12));obtain⟨Zs,hZs⟩:=nam (YE (Vw p.1 q.1 bar));obtain⟨dz,hdz⟩:=nam (Wh p.2 q.2 bar);obtain⟨ok,hok⟩:=nam ((decide ((Vw p.1 q.1 bar).length<=40)&&decide (Wh p.2 q.2 bar<=6)));have HJ:Hid (∀W,Calls Try.prog 37 #[.agg #[.string P,.int .i64 d],.agg #[.string Q,.int .i64 dq],.bool bar] W fun en w'=>en=.returned (.tuple #[.agg #[.string Zs,.int .i64 dz],.bool ok])/\Below W.heap.size W w'):=fun W=>by
        rw[HP.out.1,HP.out.2.1,HP.out.2.2.1,HP.out.2.2.2.1,hZs,hdz,hok];exact Um p.1 q.1 p.2 q.2 bar W Hpk.out.1.len Hpk.out.2.1.len Hpk.out.1.d0 Hpk.out.1.d6 Hpk.out.2.1.d0 Hpk.out.2.1.d6
       have HZ:=hyd3 hZs hdz hok;have Hbar:=hyd hbar;have hS0:=HSk.out wr.drew (Below.refl _ _);clear hZs hdz hok hbar hr1 hr2;refine wp_region_held_drew (S:=fun w'=>w'.rangeAt g3 (N2*2) [.string P,.int .i64 d]/\w'.rangeAt g3 (N1*2) [.string Q,.int .i64 dq]) (by kernel_rfl) hS0 (fun hHeld=>?_);refine Sl 0 ?_;refine Sl 1 ?_;refine Sl 2 ?_;refine Sl 3 ?_;refine Sl 4 ?_ (hy:=by exact Or.inl ⟨by rfl,fun w' s=>Yy 85 _ rfl g3 (N2*2) rfl [.string P,.int .i64 d] _ s.1 Try.underlying85 rfl YQ⟩);refine Sl 5 ?_;refine Sl 6 ?_;refine Sl 7 ?_;refine Sl 8 ?_;refine Sl 9 ?_ (hy:=by exact Or.inl ⟨by rfl,fun w' s=>Yy 85 _ rfl g3 (N1*2) rfl [.string Q,.int .i64 dq] _ s.2 Try.underlying85 rfl YQ⟩);refine Sl 10 ?_;refine Sl 11 ?_;rw[<-Hbar.out];refine wpAnyH_ready (rs:=[12,16]) (by kernel_rfl) (by simp) ?_;refine AllReadyH.cons (o:=?oB12) ?hiB12 (fun K hK=>?_) (AllReadyH.cons (o:=?oB16) ?hiB16 (fun K hK=>?_) AllReadyH.nil)
       case hiB12=>simp only[gel];rfl
       case hiB16=>simp only[gel];rfl
       ·go_simp;refine(HJ.out wr.drew).mono ?_;rintro e w6 ⟨rfl,B6⟩;go_wp2_with fail;have S6:=HSk.out w6 B6;refine hK.out _ _ S6 (fun hHeld=>?_);clear hK K
        (try simp only[psm])
        refine Sl 13 ?_;refine Sl 14 ?_;refine Sl 15 ?_;refine wpAnyH_ready (rs:=[16]) (by kernel_rfl) (by simp) ?_;refine AllReadyH.cons (o:=?oC16) ?hiC16 (fun K hK=>?_) AllReadyH.nil
        case hiC16=>simp only[gel];rfl
        obtain⟨W7,hW7⟩:=nam (w6.alloc (.cells #[.string ⟨#[]⟩,.int .i64 0] 85));have B7:Below w6.heap.size w6 W7:=by rw[hW7];exact box_bel _ _
        have T7:TC w6.heap.size [.string ⟨#[]⟩,.int .i64 0] W7:=by rw[hW7];exact TC.boxed w6 _ _
        have B67d:=B6.trans (B7.mono B6.size);have B67:=(Below.refl wr.heap.size wr).drew.trans B67d;have th8:=T7.there;have hb9:=B6.size;go_simp;rw[<-hW7];refine hK.out _ _ (HSk.out W7 B67d) (fun hHeld=>?_);clear hK K hW7 T7 B7
        (try simp only[psm])
        refine wpAnyH_ready (rs:=[17]) (by kernel_rfl) (by simp) ?_;refine AllReadyH.cons (o:=?oC17) ?hiC17 (fun K hK=>?_) AllReadyH.nil
        case hiC17=>simp only[gel];rfl
        rw[if_pos (by rfl)];refine wp_store_mid 85 _ _ rfl (w6.heap.size) 0 #[.string Zs,.int .i64 dz] rfl rfl th8 YQ (by simp[Value.oneCell']) ?_;obtain⟨W8,hW8⟩:=nam (W7.setCells (w6.heap.size) 0 [.string Zs,.int .i64 dz]);have hg8:=Y7 (w6.heap.size) [.string Zs,.int .i64 dz] 0 W7;have r9:=World.rangeAt_setCells_same W7 (w6.heap.size) 0 [.string Zs,.int .i64 dz] th8;rw[<-hW8]at hg8 r9;have B8:=B67.grown hg8 B67.size (fun q hq=>by cases hq;exact hb9);rw[List.toList_toArray,<-hW8];have B8d:=B67d.grown hg8 B67d.size (fun q hq=>by cases hq;exact hb9);refine hK.out _ _ (HSk.out W8 B8d) (fun hHeld=>?_);clear hK K hW8 hg8 B8d th8
        (try simp only[Act.put])
        refine Sl 18 ?_;refine wpAnyH_done (by kernel_rfl) ?_ _;clear B67 B67d hb9;have BW8:=B.trans (B8.mono B.size);have O7:=HO2.out.below B8;have hl3:((qs++[p])++[q]).length=N:=by have h1:=HP.out.2.2.2.2;simp;omega
        have HP7:=HP.out.2.2.2.2;cases ok
        ·have HO7:Hid (Yh w.heap.size (.slice (some ⟨g3,0,none⟩) N lc) ((qs++[p])++[q]) W8):=by show Yh _ _ _ _;rw[<-hl3];exact O7
         have HPs:Hid (SP ((qs++[p])++[q]) S):=by show SP _ _;rw[Hpk.out.2.2.2];exact XQ (XQ Hpk.out.2.2.1 Hpk.out.1) Hpk.out.2.1
         have HB7:=hyd BW8;clear O7 BW8 B8 hl3 B6 B r9 HP7;go_wp2_with fail;go_roundw
         case rel=>exact⟨i+1,left,S,_,by omega,rfl,by go_num,hSl,HO7.out,HPs,HB7.out⟩
         case measure=>simp[intOf];omega
        ·have O7c:=Yh.cut (m:=N1) O7 (by omega);have htk:((qs++[p])++[q]).take N1=qs++[p]:=List.take_left' (by simp;omega);rw[htk]at O7c;have hlc:(qs++[p]).length=N1:=by simp;omega
         have O7d:Yh w.heap.size (.slice (some ⟨g3,0,none⟩) (qs++[p]).length lc) (qs++[p]) W8:=by rw[hlc];exact O7c
         obtain⟨_,th⟩:=O7d.at_ (i:=N2) (p:=p) (by rw[HP7.1];simp);have O8:=O7d.put (i:=N2) (by omega) (Vw p.1 q.1 bar,Wh p.2 q.2 bar);rw[HP7.1,U8,<-HP7.1]at O8;have hT:decide ((Vw p.1 q.1 bar).length<=40)=true/\decide (Wh p.2 q.2 bar<=6)=true:=by have:=HZ.out.2.2;simpa using this.symm
         have hpk2:=Sh Hpk.out.1 Hpk.out.2.1 (b:=bar) (by simpa using hT.1) (by simpa using hT.2);have HPs:Hid (SP (qs++[(Vw p.1 q.1 bar,Wh p.2 q.2 bar)]) S):=by show SP _ _;rw[Hpk.out.2.2.2,Nat.add_assoc];exact XQ Hpk.out.2.2.1 hpk2
         have ec:Vc (Vw p.1 q.1 bar,Wh p.2 q.2 bar)=[.string Zs,.int .i64 dz]:=by unfold Vc;rw[HZ.out.1,HZ.out.2.1]
         rw[ec,hlc]at O8;have HO8:=hyd O8;have HB8:=hyd (BW8.grown (Y7 g3 [.string Zs,.int .i64 dz] (N2*2) W8) BW8.size (fun q hq=>by cases hq;exact(O7.blk g3 rfl).1));clear O7 O8 O7c O7d BW8 B8 hl3 B6 B hT hpk2 ec htk hlc HP7;go_wp2_with (first|(refine Ut rfl _ _ rfl g3 N lc N1 rfl rfl (by omega) (by omega) ?_)|(refine wpList_load_mid rfl 85 _ rfl w6.heap.size 0 rfl [.string Zs,.int .i64 dz] _ r9 Try.underlying85 rfl YQ ?_)|(refine wpList_store_mid rfl 85 _ _ rfl g3 (N2*2) #[.string Zs,.int .i64 dz] rfl rfl th YQ (by simp[Value.oneCell']) ?_));go_roundw
         case rel=>exact⟨i+1,left,S,_,by omega,rfl,by go_num,hSl,HO8.out,HPs,HB8.out⟩
         case measure=>simp[intOf];omega
       ·obtain⟨W7,hW7⟩:=nam ((wr.alloc (.cells #[.string ⟨#[]⟩,.int .i64 0] 85)).drew);have B7d:Below wr.heap.size wr.drew W7:=by rw[show W7=wr.drew.alloc (.cells #[.string ⟨#[]⟩,.int .i64 0] 85) from hW7];exact box_bel wr.drew _
        have T7:TC wr.heap.size [.string ⟨#[]⟩,.int .i64 0] W7:=by rw[show W7=wr.drew.alloc (.cells #[.string ⟨#[]⟩,.int .i64 0] 85) from hW7];exact TC.boxed wr.drew _ _
        have hs7:W7.heap.size=wr.heap.size+1:=by rw[hW7];show(wr.alloc _).heap.size=_;simp
        go_simp;rw[<-hW7];refine hK.out _ _ (HSk.out W7 B7d) (fun hHeld=>?_);clear hK K hW7
        (try simp only[psm])
        refine wpAnyH_ready (rs:=[12]) (by kernel_rfl) (by simp) ?_;refine AllReadyH.cons (o:=?oD12) ?hiD12 (fun K hK=>?_) AllReadyH.nil
        case hiD12=>simp only[gel];rfl
        go_simp;refine(HJ.out W7).mono ?_;rintro e w6 ⟨rfl,B6⟩;go_wp2_with fail;have B67d:=B7d.trans (B6.mono B7d.size);have B67:=(Below.refl wr.heap.size wr).drew.trans B67d;have th8:=(T7.block (B6.block wr.heap.size (by omega))).there;have hb9:wr.heap.size<=wr.heap.size:=Nat.le_refl _;refine hK.out _ _ (HSk.out w6 B67d) (fun hHeld=>?_);clear hK K T7
        (try simp only[psm])
        refine Sl 13 ?_;refine Sl 14 ?_;refine Sl 15 ?_;refine wpAnyH_ready (rs:=[17]) (by kernel_rfl) (by simp) ?_;refine AllReadyH.cons (o:=?oD17) ?hiD17 (fun K hK=>?_) AllReadyH.nil
        case hiD17=>simp only[gel];rfl
        rw[if_pos (by rfl)];refine wp_store_mid 85 _ _ rfl (wr.heap.size) 0 #[.string Zs,.int .i64 dz] rfl rfl th8 YQ (by simp[Value.oneCell']) ?_;obtain⟨W8,hW8⟩:=nam (w6.setCells (wr.heap.size) 0 [.string Zs,.int .i64 dz]);have hg8:=Y7 (wr.heap.size) [.string Zs,.int .i64 dz] 0 w6;have r9:=World.rangeAt_setCells_same w6 (wr.heap.size) 0 [.string Zs,.int .i64 dz] th8;rw[<-hW8]at hg8 r9;have B8:=B67.grown hg8 B67.size (fun q hq=>by cases hq;exact hb9);rw[List.toList_toArray,<-hW8];have B8d:=B67d.grown hg8 B67d.size (fun q hq=>by cases hq;exact hb9);refine hK.out _ _ (HSk.out W8 B8d) (fun hHeld=>?_);clear hK K hW8 hg8 B8d th8
        (try simp only[Act.put])
        refine Sl 18 ?_;refine wpAnyH_done (by kernel_rfl) ?_ _;clear B67 B67d hb9 B7d hs7;have BW8:=B.trans (B8.mono B.size);have O7:=HO2.out.below B8;have hl3:((qs++[p])++[q]).length=N:=by have h1:=HP.out.2.2.2.2;simp;omega
        have HP7:=HP.out.2.2.2.2;cases ok
        ·have HO7:Hid (Yh w.heap.size (.slice (some ⟨g3,0,none⟩) N lc) ((qs++[p])++[q]) W8):=by show Yh _ _ _ _;rw[<-hl3];exact O7
         have HPs:Hid (SP ((qs++[p])++[q]) S):=by show SP _ _;rw[Hpk.out.2.2.2];exact XQ (XQ Hpk.out.2.2.1 Hpk.out.1) Hpk.out.2.1
         have HB7:=hyd BW8;clear O7 BW8 B8 hl3 B6 B r9 HP7;go_wp2_with fail;go_roundw
         case rel=>exact⟨i+1,left,S,_,by omega,rfl,by go_num,hSl,HO7.out,HPs,HB7.out⟩
         case measure=>simp[intOf];omega
        ·have O7c:=Yh.cut (m:=N1) O7 (by omega);have htk:((qs++[p])++[q]).take N1=qs++[p]:=List.take_left' (by simp;omega);rw[htk]at O7c;have hlc:(qs++[p]).length=N1:=by simp;omega
         have O7d:Yh w.heap.size (.slice (some ⟨g3,0,none⟩) (qs++[p]).length lc) (qs++[p]) W8:=by rw[hlc];exact O7c
         obtain⟨_,th⟩:=O7d.at_ (i:=N2) (p:=p) (by rw[HP7.1];simp);have O8:=O7d.put (i:=N2) (by omega) (Vw p.1 q.1 bar,Wh p.2 q.2 bar);rw[HP7.1,U8,<-HP7.1]at O8;have hT:decide ((Vw p.1 q.1 bar).length<=40)=true/\decide (Wh p.2 q.2 bar<=6)=true:=by have:=HZ.out.2.2;simpa using this.symm
         have hpk2:=Sh Hpk.out.1 Hpk.out.2.1 (b:=bar) (by simpa using hT.1) (by simpa using hT.2);have HPs:Hid (SP (qs++[(Vw p.1 q.1 bar,Wh p.2 q.2 bar)]) S):=by show SP _ _;rw[Hpk.out.2.2.2,Nat.add_assoc];exact XQ Hpk.out.2.2.1 hpk2
         have ec:Vc (Vw p.1 q.1 bar,Wh p.2 q.2 bar)=[.string Zs,.int .i64 dz]:=by unfold Vc;rw[HZ.out.1,HZ.out.2.1]
         rw[ec,hlc]at O8;have HO8:=hyd O8;have HB8:=hyd (BW8.grown (Y7 g3 [.string Zs,.int .i64 dz] (N2*2) W8) BW8.size (fun q hq=>by cases hq;exact(O7.blk g3 rfl).1));clear O7 O8 O7c O7d BW8 B8 hl3 B6 B hT hpk2 ec htk hlc HP7;go_wp2_with (first|(refine Ut rfl _ _ rfl g3 N lc N1 rfl rfl (by omega) (by omega) ?_)|(refine wpList_load_mid rfl 85 _ rfl wr.heap.size 0 rfl [.string Zs,.int .i64 dz] _ r9 Try.underlying85 rfl YQ ?_)|(refine wpList_store_mid rfl 85 _ _ rfl g3 (N2*2) #[.string Zs,.int .i64 dz] rfl rfl th YQ (by simp[Value.oneCell']) ?_));go_roundw
         case rel=>exact⟨i+1,left,S,_,by omega,rfl,by go_num,hSl,HO8.out,HPs,HB8.out⟩
         case measure=>simp[intOf];omega
      ·have hN1':¬(1:Int)<N:=by omega
       go_wp2_with fail;go_roundw
       case rel=>exact⟨i+1,left,S,ps,by omega,rfl,by go_num,hSl,HO.out,HPs,B⟩
       case measure=>simp[intOf];omega
     ·have k14':¬(k:Int)<14:=by omega
      have k14g:(14:Int)<=k:=by omega
      by_cases hN0:0<N
      ·have hN0':(0:Int)<N:=by omega
       rcases List.eq_nil_or_concat ps with e|⟨qs,p,e⟩
       ·subst e;have:=HN.out;simp at this;omega
       rw[List.concat_eq_append]at e;subst e;obtain⟨S',V,eS,HQ,hpk⟩:=T8 HPs.out;obtain⟨N1,hN1⟩:=nam qs.length;have hNN:N=N1+1:=by rw[HN.out,hN1];simp
       have iN:(N:Int)-1=(N1:Int):=by omega
       have l1N:(N1:Int)<N:=by omega
       have HN':Hid (N=(qs++[p]).length):=HN;have hO2:Yh w.heap.size (.slice la (qs++[p]).length lc) (qs++[p]) wr:=by rw[<-HN'.out];exact HO.out
       obtain⟨g3,cap3,e3⟩:=hO2.slc (by simp);cases e3;have hps:(qs++[p])[N1]?=some p:=by rw[hN1];simp
       obtain⟨rg,_⟩:=hO2.at_ hps;obtain⟨P,hP⟩:=nam (YE p.1);obtain⟨d,hd⟩:=nam p.2;have r0:wr.cell? ⟨g3,N1*2,none⟩=some (.string P):=by rw[hP];exact rg 0 _ rfl
       have r1:wr.cell? ⟨g3,N1*2+1,none⟩=some (.int .i64 d):=by rw[hd];exact rg 1 _ rfl
       have HP:=hyd3 hP hd hN1;have HO2:=hyd hO2;have Hpk:=hyd3 hpk HQ eS;obtain⟨W5,hW5⟩:=nam (wr.alloc (.cells #[.string ⟨#[42]⟩,.string ⟨#[43]⟩,.string ⟨#[63]⟩,.string ⟨#[123,48,44,49,125]⟩,.string ⟨#[123,49,125]⟩,.string ⟨#[124]⟩] 9));have B5:Below wr.heap.size wr W5:=by rw[hW5];exact box_bel _ _
       have g3l:=(hO2.blk g3 rfl).2;have q0:W5.cell? ⟨g3,N1*2,none⟩=some (.string P):=by rw[B5.cell (p:=⟨g3,N1*2,none⟩) g3l];exact r0
       have q1:W5.cell? ⟨g3,N1*2+1,none⟩=some (.int .i64 d):=by rw[B5.cell (p:=⟨g3,N1*2+1,none⟩) g3l];exact r1
       have HW5:=hyd hW5;have HB5:=hyd2 B5 g3l;rw[hW5]at q0 q1;clear hP hd hN1 hO2 rg hps hpk HQ eS HPs HO r0 r1 hW5 B5 g3l;by_cases k19:k=19
       ·subst k19;obtain⟨Zs,hZs⟩:=nam (YE (Vw p.1 [] true));obtain⟨dz,hdz⟩:=nam (Wh p.2 0 true);obtain⟨ok,hok⟩:=nam ((decide ((Vw p.1 [] true).length<=40)&&decide (Wh p.2 0 true<=6)));have hb:=Hpk.out.1;have HJ:Hid (Calls Try.prog 37 #[.agg #[.string P,.int .i64 d],.agg #[.string ⟨#[]⟩,.int .i64 0],.bool true] W5 fun en w'=>en=.returned (.tuple #[.agg #[.string Zs,.int .i64 dz],.bool ok])/\Below W5.heap.size W5 w'):=by
         show Calls _ _ _ _ _;rw[HP.out.1,HP.out.2.1,hZs,hdz,hok];exact Um p.1 [] p.2 0 true W5 hb.len (by simp) hb.d0 hb.d6 (by omega) (by omega)
        have HZ:=hyd3 hZs hdz hok;clear hZs hdz hok hb;go_wp2_with fail;rw[<-HW5.out];refine HJ.out.mono ?_;rintro e w6 ⟨rfl,B6⟩;clear HJ q0 q1 HW5;obtain⟨W7,hW7⟩:=nam (w6.alloc (.cells #[.string Zs,.int .i64 dz] 85));have B7:Below w6.heap.size w6 W7:=by rw[hW7];exact box_bel _ _
        have B57:=HB5.out.1.trans ((B6.trans (B7.mono B6.size)).mono HB5.out.1.size);have BW7:=B.trans (B57.mono B.size);have O7:=HO2.out.below B57;have hl3:(qs++[p]).length=N1+1:=by rw[HP.out.2.2];simp
        have HW7:=hyd hW7;cases ok
        ·have HO7:Hid (Yh w.heap.size (.slice (some ⟨g3,0,none⟩) (N1+1) lc) (qs++[p]) W7):=by show Yh _ _ _ _;rw[<-hl3];exact O7
         have HPs:Hid (SP (qs++[p]) S):=by show SP _ _;rw[Hpk.out.2.2];exact XQ Hpk.out.2.1 Hpk.out.1
         have HB7:=hyd BW7;clear O7 BW7 B57 B7 hW7 hl3 B6 B;go_wp2_with fail;rw[<-HW7.out];go_roundw
         case rel=>exact⟨i+1,left,S,_,by omega,rfl,by go_num,hSl,HO7.out,HPs,HB7.out⟩
         case measure=>simp[intOf];omega
        ·obtain⟨_,th⟩:=O7.at_ (i:=N1) (p:=p) (by rw[HP.out.2.2];simp);have O8:=O7.put (i:=N1) (by omega) (Vw p.1 [] true,Wh p.2 0 true);rw[HP.out.2.2,U8,<-HP.out.2.2]at O8;have hT:decide ((Vw p.1 [] true).length<=40)=true/\decide (Wh p.2 0 true<=6)=true:=by have:=HZ.out.2.2;simpa using this.symm
         have hpk2:=OG Hpk.out.1 (by simpa using hT.1) (by simpa using hT.2);have HPs:Hid (SP (qs++[(Vw p.1 [] true,Wh p.2 0 true)]) S):=by show SP _ _;rw[Hpk.out.2.2];exact XQ Hpk.out.2.1 hpk2
         have ec:Vc (Vw p.1 [] true,Wh p.2 0 true)=[.string Zs,.int .i64 dz]:=by unfold Vc;rw[HZ.out.1,HZ.out.2.1]
         rw[ec]at O8;have HO8:Hid (Yh w.heap.size (.slice (some ⟨g3,0,none⟩) (N1+1) lc) (qs++[(Vw p.1 [] true,Wh p.2 0 true)]) (W7.setCells g3 (N1*2) [.string Zs,.int .i64 dz])):=by show Yh _ _ _ _;rw[<-hl3];exact O8
         have HB8:=hyd (BW7.grown (Y7 g3 [.string Zs,.int .i64 dz] (N1*2) W7) BW7.size (fun q hq=>by cases hq;exact(O7.blk g3 rfl).1));clear O7 O8 BW7 B57 B7 hl3 B6 B hT hpk2 ec;rw[hW7]at th;go_wp2_with (first|(refine wpList_store_mid rfl 85 _ _ rfl g3 (N1*2) #[.string Zs,.int .i64 dz] rfl rfl th YQ (by simp[Value.oneCell']) ?_));rw[<-hW7];go_roundw
         case rel=>exact⟨i+1,left,S,_,by omega,rfl,by go_num,hSl,HO8.out,HPs,HB8.out⟩
         case measure=>simp[intOf];omega
       ·have kn19:((k:Int)==19)=false:=beq_eq_false_iff_ne.2 (by omega);obtain⟨j,hj⟩:=nam (k-14);have ij:(k:Int)-14=(j:Int):=by omega
        have hj5:j<5:=by omega
        have hj6:(j:Int)<6:=by omega
        have hwj:IntKind.i64.wrap ((k:Int)-14)=(j:Int):=by rw[ij];simp[IntKind.wrap,IntKind.bits,IntKind.signed];omega
        have hwn:IntKind.i64.wrap ((N:Int)-1)=(N1:Int):=by rw[iN];simp[IntKind.wrap,IntKind.bits,IntKind.signed];omega
        go_wp2_with fail;rw[<-HW5.out];clear hj;have hwn2:IntKind.i64.wrap (N1:Int)=(N1:Int):=by simp[IntKind.wrap,IntKind.bits,IntKind.signed];omega
        have hN1p:(N1:Int)<N1+1:=by omega
        have hwj2:IntKind.i64.wrap (j:Int)=(j:Int):=by simp[IntKind.wrap,IntKind.bits,IntKind.signed];omega
        have hr5:W5.drew.rangeAt g3 (N1*2) [.string P,.int .i64 d]:=fun m u hu=>by
         rcases m with _|_|m
         ·cases hu;have:=q0;rw[<-HW5.out]at this;exact this
         ·cases hu;have:=q1;rw[<-HW5.out]at this;exact this
         ·simp at hu
        obtain⟨SX,hSX⟩:=nam (YE (Wt j));have cS:W5.drew.cell? ⟨wr.heap.size,j,none⟩=some (.string SX):=by
         show W5.cell? _=_;rw[HW5.out,World.cell?_alloc_new,hSX];have:j=0\/j=1\/j=2\/j=3\/j=4:=by omega
         rcases this with rfl|rfl|rfl|rfl|rfl<;>rfl
        have HSX:=hyd hSX;clear hSX q0 q1;refine wp_region_any (by kernel_rfl) ?_;change wpAny _ _ _ _ 16 _ _ W5.drew;refine wpAny_take (i:=0) (by simp only[List.getElem?_toArray,List.getElem?_cons_zero];rfl) (by kernel_rfl) (by kernel_rfl) (by kernel_rfl) (by exact fun _ _ _ h=>h) (Or.inl ⟨by rfl,by intro w';go_simp;first|done|with_reducible rfl⟩) ?_
        (try simp only[psm])
        refine wpAny_take (i:=1) (by simp only[gel];rfl) (by kernel_rfl) (by kernel_rfl) (by kernel_rfl) (by exact fun _ _ _ h=>h) (Or.inl ⟨by rfl,by intro w';go_simp;first|done|with_reducible rfl⟩) ?_
        (try simp only[psm])
        refine wpAny_take (i:=2) (by simp only[gel];rfl) (by kernel_rfl) (by kernel_rfl) (by kernel_rfl) (by exact fun _ _ _ h=>h) (Or.inl ⟨by rfl,by intro w';go_simp;first|done|with_reducible rfl⟩) ?_
        (try simp only[psm])
        refine wpAny_take (i:=3) (by simp only[gel];rfl) (by kernel_rfl) (by kernel_rfl) (by kernel_rfl) (by exact fun _ _ _ h=>h) (Or.inl ⟨by rfl,by intro w';go_simp;first|done|with_reducible rfl⟩) ?_
        (try simp only[psm])
        refine wpAny_take (i:=4) (by simp only[gel];rfl) (by kernel_rfl) (by kernel_rfl) (by kernel_rfl) (by exact fun _ _ _ h=>h) (Or.inl ⟨by rfl,by intro w';go_simp;first|done|with_reducible rfl⟩) ?_
        (try simp only[psm])
        refine wpAny_take (i:=5) (by simp only[gel];rfl) (by kernel_rfl) (by kernel_rfl) (by kernel_rfl) (by exact fun _ _ _ h=>h) (Or.inl ⟨by rfl,by intro w';go_simp;first|done|with_reducible rfl⟩) ?_
        (try simp only[psm])
        refine wpAny_take (i:=6) (by simp only[gel];rfl) (by kernel_rfl) (by kernel_rfl) (by kernel_rfl) (by exact fun _ _ _ h=>h) (Or.inl ⟨by rfl,by intro w';go_simp;first|done|with_reducible rfl⟩) ?_
        (try simp only[psm])
        refine wpAny_take (i:=8) (by simp only[gel];rfl) (by kernel_rfl) (by kernel_rfl) (by kernel_rfl) (by exact fun _ _ _ h=>h) (Or.inl ⟨by rfl,by intro w';go_simp;first|done|with_reducible rfl⟩) ?_
        (try simp only[psm])
        refine wpAny_take (i:=9) (by simp only[gel];rfl) (by kernel_rfl) (by kernel_rfl) (by kernel_rfl) (by exact fun _ _ _ h=>h) (Or.inl ⟨by rfl,by intro w';go_simp;first|done|with_reducible rfl⟩) ?_
        (try simp only[psm])
        refine wpAny_take (i:=10) (by simp only[gel];rfl) (by kernel_rfl) (by kernel_rfl) (by kernel_rfl) (by exact fun _ _ _ h=>h) (Or.inl ⟨by rfl,by intro w';go_simp;first|done|with_reducible rfl⟩) ?_
        (try simp only[psm])
        refine wpAny_take (i:=11) (by simp only[gel];rfl) (by kernel_rfl) (by kernel_rfl) (by kernel_rfl) (by exact fun _ _ _ h=>h) (Or.inl ⟨by rfl,by intro w';go_simp;first|done|with_reducible rfl⟩) ?_
        (try simp only[psm])
        refine OY (fuel:=3) 7 12 (v4:=.agg #[.string P,.int .i64 d]) (v5:=.string SX) (by simp only[gel];rfl) (by simp only[gel];rfl) rfl rfl (by kernel_rfl) (by kernel_rfl) (by kernel_rfl) (Yy 85 _ rfl g3 (N1*2) rfl [.string P,.int .i64 d] _ hr5 Try.underlying85 rfl YQ) (Yy 85 _ rfl g3 (N1*2) rfl [.string P,.int .i64 d] _ hr5 Try.underlying85 rfl YQ) (by go_simp;first|done|with_reducible rfl) (by go_simp;first|done|with_reducible rfl) rfl (by kernel_rfl) rfl rfl ?_
        (try simp only[psm])
        refine XY 13 (by rfl) (by kernel_rfl) ?_;simp only[List.drop_succ_cons,List.drop_zero];obtain⟨Zs,hZs⟩:=nam (YE (Rk p.1 p.2 (Wt j)));obtain⟨dz,hdz⟩:=nam (Rj p.1 p.2 (Wt j));have hb:=Hpk.out.1;have hsl:(Wt j).length<=40:=by
         have:j=0\/j=1\/j=2\/j=3\/j=4:=by omega
         rcases this with rfl|rfl|rfl|rfl|rfl<;>decide
        have HBd:Hid (Calls Try.prog 38 #[.agg #[.string P,.int .i64 d],.string SX] W5.drew fun e w'=>e=.returned (.agg #[.string Zs,.int .i64 dz])/\Below W5.heap.size W5.drew w'):=by
         show Calls _ _ _ _ _;rw[HP.out.1,HP.out.2.1,HSX.out,hZs,hdz];exact Ob p.1 (Wt j) p.2 W5.drew hb.len hsl hb.d0 hb.d6
        have hpk2:=P0 Hpk.out.1 hj5;have HZ:=hyd2 hZs hdz;clear hZs hdz hb hsl;go_wp2_with fail;refine HBd.out.mono ?_;rintro e w6 ⟨rfl,B6⟩;clear HBd;have B57:=HB5.out.1.drew.trans (B6.mono HB5.out.1.size);have BW6:=B.trans (B57.mono B.size);have O7:=HO2.out.below B57;have hl3:(qs++[p]).length=N1+1:=by rw[HP.out.2.2];simp
        obtain⟨_,th⟩:=O7.at_ (i:=N1) (p:=p) (by rw[HP.out.2.2];simp);have O8:=O7.put (i:=N1) (by omega) (Rk p.1 p.2 (Wt j),Rj p.1 p.2 (Wt j));rw[HP.out.2.2,U8,<-HP.out.2.2]at O8;have HPs:Hid (SP (qs++[(Rk p.1 p.2 (Wt j),Rj p.1 p.2 (Wt j))]) S):=by show SP _ _;rw[Hpk.out.2.2];exact XQ Hpk.out.2.1 hpk2
        have ec:Vc (Rk p.1 p.2 (Wt j),Rj p.1 p.2 (Wt j))=[.string Zs,.int .i64 dz]:=by unfold Vc;rw[HZ.out.1,HZ.out.2]
        rw[ec]at O8;have HO8:Hid (Yh w.heap.size (.slice (some ⟨g3,0,none⟩) (N1+1) lc) (qs++[(Rk p.1 p.2 (Wt j),Rj p.1 p.2 (Wt j))]) (w6.setCells g3 (N1*2) [.string Zs,.int .i64 dz])):=by show Yh _ _ _ _;rw[<-hl3];exact O8
        have HB8:=hyd (BW6.grown (Y7 g3 [.string Zs,.int .i64 dz] (N1*2) w6) BW6.size (fun q hq=>by cases hq;exact(O7.blk g3 rfl).1));clear O7 O8 BW6 B57 hl3 B6 B hpk2 ec hr5 cS;go_wp2_with (first|(refine wpList_store_mid rfl 85 _ _ rfl g3 (N1*2) #[.string Zs,.int .i64 dz] rfl rfl th YQ (by simp[Value.oneCell']) ?_));go_roundw
        case rel=>exact⟨i+1,left,S,_,by omega,rfl,by go_num,hSl,HO8.out,HPs,HB8.out⟩
        case measure=>simp[intOf];omega
      ·have hN0':¬(0:Int)<N:=by omega
       go_wp2_with fail;go_roundw
       case rel=>exact⟨i+1,left,S,ps,by omega,rfl,by go_num,hSl,HO.out,HPs,B⟩
       case measure=>simp[intOf];omega
  ·have hge:¬(i:Int)<n:=by omega
   have hS6:S<=6:=by omega
   generalize hw0:wr=w0 at *;have HB0:=hyd B;clear hSl hlt hi HPk HI HR hw0 B hz;go_wp2_with fail
   go_loopw [14,15] (fun ov y w'=>∃t:Nat,t<=N/\y=.int .i64 t/\WP w0.heap.size ov (ps.take t) w'/\Below w0.heap.size w0 w') (fun _ y _=>N-(intOf y).toNat)
   case atStart=>exact⟨0,by omega,rfl,WP.nil _ _,Below.refl _ _⟩
   case round=>
    obtain⟨t,ht,rfl,OX,BX⟩:=hrel;obtain⟨xa,xc,hxa⟩:=OX.sl;have hlt0:(ps.take t).length=t:=by rw[List.length_take];have:=HN.out;omega
    rw[hlt0]at hxa;subst hxa;have HX:=hyd OX;have HT:=hyd hlt0;have HBX:=hyd BX;have OP:=HO.out.below BX;clear OX hlt0;by_cases hl:t<N
    ·have hl':(t:Int)<N:=by omega
     obtain⟨p,hp⟩:∃p,ps[t]?=some p:=⟨_,List.getElem?_eq_getElem (by have:=HN.out;omega)⟩;have OP2:Yh w.heap.size (.slice la ps.length lc) ps wr:=by rw[<-HN.out];exact OP
     obtain⟨g3,cap3,e3⟩:=OP2.slc (by have:=HN.out;omega);cases e3;obtain⟨P,hP⟩:=nam (YE p.1);have r0:wr.cell? ⟨g3,t*2,none⟩=some (.string P):=by rw[hP];exact(OP2.at_ hp).1 0 _ rfl
     have HP:=hyd hP;have Hp:=hyd hp;clear OP OP2 hP hp BX;go_wp2_with (first|(with_reducible show wpList _ _ _ (⟨_,Op.call { callee:=Callee.builtin Builtin.append,args:=_,argTypes:=_ },_,_,_,_⟩::_) _ _;refine WR.out ?_));refine⟨?_⟩;obtain⟨W3,hW3⟩:=nam (wr.alloc (.cells #[.string P] 9));rw[<-hW3];have B3:Below wr.heap.size wr W3:=by rw[hW3];exact box_bel _ _
     have T3:TC wr.heap.size [.string P] W3:=by rw[hW3];exact TC.boxed wr _ _
     have O3:=HX.out.below B3;have BW3:=HBX.out.trans (B3.mono HBX.out.size);refine WO rfl _ _ rfl w0.heap.size (.slice xa t xc) (ps.take t) rfl O3 (by rw[HT.out];omega) wr.heap.size p rfl (by rw[<-HP.out];exact(T3 0 _ rfl).1) BW3.size ?_;intro g2 cap2 w4 h1 h2;have HB4:=hyd (BW3.grown h2 BW3.size (fun q hq=>(O3.blk q hq).1));rw[HT.out]at h1 ⊢;have HO4:=hyd h1;clear h1 h2 O3 BW3 T3 B3 hW3 HX HBX
     (try simp only[psm])
     go_wp2_with fail;go_roundw
     case rel=>exact⟨t+1,by omega,by go_num,by rw[List.take_add_one,Hp.out];exact HO4.out,HB4.out⟩
     case measure=>simp[intOf];omega
    ·have hl':¬(t:Int)<N:=by omega
     have e:t=N:=by omega
     subst e;have hps:ps.take t=ps:=by rw[HN.out,List.take_length]
     have BW:=HB0.out.trans (BX.mono HB0.out.size);have HX2:Hid (WP w0.heap.size (.slice xa t xc) ps wr):=by have:=HX.out;rw[hps]at this;exact this
     have HBW:=hyd BW;clear HX HT hps OP BX BW;by_cases h0:t=0
     ·subst h0;have hpn:=List.eq_nil_of_length_eq_zero HN.out.symm;have HX3:Hid (WP w0.heap.size (.slice xa 0 xc) [] wr):=by have:=HX2.out;rw[hpn]at this;exact this
      clear HX2 hpn;go_wp2_with (first|(with_reducible show wpList _ _ _ (⟨_,Op.call { callee:=Callee.builtin Builtin.append,args:=_,argTypes:=_ },_,_,_,_⟩::_) _ _;refine WR.out ?_));refine⟨?_⟩;obtain⟨W3,hW3⟩:=nam (wr.alloc (.cells #[.string ⟨#[]⟩] 9));rw[<-hW3];have B3:Below wr.heap.size wr W3:=by rw[hW3];exact box_bel _ _
      have T3:TC wr.heap.size [.string ⟨#[]⟩] W3:=by rw[hW3];exact TC.boxed wr _ _
      have O3:=HX3.out.below B3;have BW3:=HBX.out.trans (B3.mono HBX.out.size);have BV3:=HB0.out.trans (BW3.mono HB0.out.size);refine WO rfl _ _ rfl w0.heap.size (.slice xa 0 xc) [] rfl O3 (by simp) wr.heap.size ([],0) rfl (by exact(T3 0 _ rfl).1) BW3.size ?_;intro g2 cap2 w4 h1 h2;have HB4:=hyd (BV3.grown h2 BV3.size (fun q hq=>by have:=(O3.blk q hq).1;have:=HB0.out.size;omega));have HO4:=hyd h1;clear h1 h2 O3 BW3 T3 B3 hW3 HX3 HBX BV3
      (try simp only[psm])
      go_wp2_with fail;go_ret;exact Pm HO4.out HB4.out (by simp) (by simp) NP (by omega)
     ·have h0':((t:Int)==0)=false:=beq_eq_false_iff_ne.2 (by omega);go_wp2_with fail;go_ret;exact Pm HX2.out HBW.out (by have:=HN.out;omega) (by have:=HN.out;omega) (MQ HPs.out) hS6
end Go.Proofs.Ytoaaklhpmhjhkab
