import Derived.Test.YtoaaklhpmhjhkabC35
set_option maxRecDepth 100000
set_option maxHeartbeats 4000000
set_option linter.all false
namespace Go.Proofs.Ytoaaklhpmhjhkab
open Go.RowKit
open Bm
def Vw (x y:List UInt8) (b:Bool):List UInt8:=if b then 40::((x++124::y)++[41]) else x++y
def Wh (d e:Int) (b:Bool):Int:=(if d<e then e else d)+(if b then 1 else 0)
theorem Um (x y:List UInt8) (d e:Int) (b:Bool) (w:World) (hx:x.length<=40) (hy:y.length<=40) (d0:0<=d) (d6:d<=6) (e0:0<=e) (e6:e<=6):
  Calls Try.prog 37 #[.agg #[.string (YE x),.int .i64 d],.agg #[.string (YE y),.int .i64 e],.bool b] w fun en w'=>en=.returned (.tuple #[.agg #[.string (YE (Vw x y b)),.int .i64 (Wh d e b)],.bool (decide ((Vw x y b).length<=40)&&decide (Wh d e b<=6))])/\Below w.heap.size w w':=by
 obtain⟨X,hX⟩:=nam (YE x);obtain⟨Y,hY⟩:=nam (YE y);have zx:X.size=x.length:=by rw[hX];exact UX x
 have zy:Y.size=y.length:=by rw[hY];exact UX y
 have n1:¬9223372036854775807<X.size+Y.size:=by omega
 have n2:¬9223372036854775807<1+X.size:=by omega
 have n3:¬9223372036854775807<1+X.size+1:=by omega
 have n4:¬9223372036854775807<1+X.size+1+Y.size:=by omega
 have n5:¬9223372036854775807<1+X.size+1+Y.size+1:=by omega
 rw[<-hX,<-hY];cases b
 ·have HZ:Hid (X++Y=YE (Vw x y false)):=by show _=_;rw[hX,hY,WH];rfl
  have HL:Hid ((Vw x y false).length=X.size+Y.size):=by show _=_;rw[zx,zy];simp[Vw]
  by_cases hde:d<e
  ·have HD:Hid (Wh d e false=e):=by show _=_;simp[Wh,hde]
   clear zx zy hX hY;by_cases h40:X.size+Y.size<=40
   ·have h40':(X.size:Int)+(Y.size:Int)<=40:=by omega
    have h6':e<=6:=by omega
    go_enter Try.func37,Try.ntmps37;go_wp2_with fail;obtain⟨V1,hV1⟩:=nam (w.alloc (.cells #[.string X,.int .i64 d] 85));obtain⟨V2,hV2⟩:=nam (V1.alloc (.cells #[.string Y,.int .i64 e] 85));obtain⟨V3,hV3⟩:=nam (V2.alloc (.cells #[.string ⟨#[]⟩,.int .i64 0] 85));obtain⟨V4,hV4⟩:=nam (V3.alloc (.cells #[.string (X++Y),.int .i64 (e)] 85));rw[<-hV1,<-hV2,<-hV3,<-hV4];have s1:V1.heap.size=w.heap.size+1:=by rw[hV1];simp
    have s2:V2.heap.size=w.heap.size+1+1:=by rw[hV2];simp[s1]
    have s3:V3.heap.size=w.heap.size+1+1+1:=by rw[hV3];simp[s2]
    have B1:Below w.heap.size w V1:=by rw[hV1];exact box_bel _ _
    have B2:Below V1.heap.size V1 V2:=by rw[hV2];exact box_bel _ _
    have B3:Below V2.heap.size V2 V3:=by rw[hV3];exact box_bel _ _
    have B4:Below V3.heap.size V3 V4:=by rw[hV4];exact box_bel _ _
    have T3:TC (w.heap.size+1+1) [.string ⟨#[]⟩,.int .i64 0] V3:=by rw[<-s2,hV3];exact TC.boxed V2 _ _
    have T34:=T3.block (B4.block _ (by omega));have T4:TC (w.heap.size+1+1+1) [.string (X++Y),.int .i64 (e)] V4:=by rw[<-s3,hV4];exact TC.boxed V3 _ _
    have BX:Below w.heap.size w V4:=((B1.trans (B2.mono B1.size)).trans (B3.mono (by omega))).trans (B4.mono (by omega));have hS0:V4.drew.cell? ⟨w.heap.size+1+1+1,0,none⟩=some (.string (X++Y))/\V4.drew.cell? ⟨w.heap.size+1+1+1,1,none⟩=some (.int .i64 (e)):=⟨(T4 0 _ rfl).1,(T4 1 _ rfl).1⟩;have th:=T34.there;obtain⟨V5,hV5⟩:=nam (V4.drew.setCells (w.heap.size+1+1) 0 [.string (X++Y),.int .i64 (e)]);have hg5:=Y7 (w.heap.size+1+1) [.string (X++Y),.int .i64 (e)] 0 V4.drew;have hr5:=World.rangeAt_setCells_same V4.drew (w.heap.size+1+1) 0 [.string (X++Y),.int .i64 (e)] th;rw[<-hV5]at hg5 hr5;have B5:=(BX.drew).grown hg5 BX.size (fun q hq=>by cases hq;omega);have h8:V4.heap.size=w.heap.size+1+1+1+1:=by rw[hV4];simp[s3]
    have h9:w.heap.size+1+1+1<V4.drew.heap.size:=by show _<V4.heap.size;omega
    have hk5:∀o,V5.cell? ⟨w.heap.size+1+1+1,o,none⟩=V4.drew.cell? ⟨w.heap.size+1+1+1,o,none⟩:=fun o=>World.cell?_of_block (w:=V4.drew) (a:=⟨w.heap.size+1+1+1,o,none⟩) (hg5.block _ h9 (fun h=>by have h2:w.heap.size+1+1+1=w.heap.size+1+1:=Option.some.inj h;omega))
    have hS5:V5.cell? ⟨w.heap.size+1+1+1,0,none⟩=some (.string (X++Y))/\V5.cell? ⟨w.heap.size+1+1+1,1,none⟩=some (.int .i64 (e)):=by rw[hk5,hk5];exact hS0
    have hl5:(loadVar 85 ⟨w.heap.size+1+1,0,none⟩).run Try.prog V5=.ok (.agg #[.string (X++Y),.int .i64 (e)]) V5:=run_loadVar_mid (P:=Try.prog) V5 (w.heap.size+1+1) 0 85 [.string (X++Y),.int .i64 (e)] _ hr5 Try.underlying85 rfl YQ;have HF:=hyd3 hV5 B5 hl5;clear hV1 hV2 hV3 hV4 hV5 s1 s2 s3 B1 B2 B3 B4 T3 T34 T4 BX hg5 hr5 B5 hk5 hl5 h8 h9;refine wp_region_held_drew (S:=fun w'=>w'.cell? ⟨w.heap.size+1+1+1,0,none⟩=some (.string (X++Y))/\w'.cell? ⟨w.heap.size+1+1+1,1,none⟩=some (.int .i64 (e))) (by kernel_rfl) hS0 (fun hHeld=>?_);refine wpAnyH_take (i:=0) (by simp only[List.getElem?_toArray,List.getElem?_cons_zero];rfl) (by kernel_rfl) (by kernel_rfl) (by kernel_rfl) (by exact fun _ _ _ h=>h) (Or.inl ⟨by rfl,by intro w' hSw;obtain⟨s1,s2⟩:=hSw;go_simp;first|done|with_reducible rfl⟩) (by assumption) ?_
    (try simp only[psm])
    refine wpAnyH_take (i:=1) (by simp only[gel];rfl) (by kernel_rfl) (by kernel_rfl) (by kernel_rfl) (by exact fun _ _ _ h=>h) (Or.inl ⟨by rfl,by intro w' hSw;obtain⟨s1,s2⟩:=hSw;go_simp;first|done|with_reducible rfl⟩) (by assumption) ?_
    (try simp only[psm])
    refine wpAnyH_take (i:=2) (by simp only[gel];rfl) (by kernel_rfl) (by kernel_rfl) (by kernel_rfl) (by exact fun _ _ _ h=>h) (Or.inl ⟨by rfl,by intro w' hSw;obtain⟨s1,s2⟩:=hSw;go_simp;first|done|with_reducible rfl⟩) (by assumption) ?_
    (try simp only[psm])
    refine wpAnyH_take (i:=3) (by simp only[gel];rfl) (by kernel_rfl) (by kernel_rfl) (by kernel_rfl) (by exact fun _ _ _ h=>h) (Or.inl ⟨by rfl,by intro w' hSw;obtain⟨s1,s2⟩:=hSw;go_simp;first|done|with_reducible rfl⟩) (by assumption) ?_
    (try simp only[psm])
    refine wpAnyH_take (i:=4) (by simp only[gel];rfl) (by kernel_rfl) (by kernel_rfl) (by kernel_rfl) (by exact fun _ _ _ h=>h) (Or.inl ⟨by rfl,by intro w' hSw;obtain⟨s1,s2⟩:=hSw;go_simp;first|done|with_reducible rfl⟩) (by assumption) ?_
    (try simp only[psm])
    refine wpAnyH_take (i:=5) (by simp only[gel];rfl) (by kernel_rfl) (by kernel_rfl) (by kernel_rfl) (by exact fun _ _ _ h=>h) (Or.inl ⟨by rfl,by intro w' hSw;obtain⟨s1,s2⟩:=hSw;go_simp;first|done|with_reducible rfl⟩) (by assumption) ?_
    (try simp only[psm])
    refine wpAnyH_take (i:=6) (by simp only[gel];rfl) (by kernel_rfl) (by kernel_rfl) (by kernel_rfl) (by exact fun _ _ _ h=>h) (Or.inl ⟨by rfl,by intro w' hSw;obtain⟨s1,s2⟩:=hSw;go_simp;first|done|with_reducible rfl⟩) (by assumption) ?_
    (try simp only[psm])
    refine wpAnyH_take (i:=7) (by simp only[gel];rfl) (by kernel_rfl) (by kernel_rfl) (by kernel_rfl) (by exact fun _ _ _ h=>h) (Or.inl ⟨by rfl,by intro w' hSw;obtain⟨s1,s2⟩:=hSw;go_simp;first|done|with_reducible rfl⟩) (by assumption) ?_
    (try simp only[psm])
    refine wpAnyH_take (i:=8) (by simp only[gel];rfl) (by kernel_rfl) (by kernel_rfl) (by kernel_rfl) (by exact fun _ _ _ h=>h) (Or.inl ⟨by rfl,by intro w' hSw;obtain⟨s1,s2⟩:=hSw;go_simp;first|done|with_reducible rfl⟩) (by assumption) ?_
    (try simp only[psm])
    refine wpAnyH_take (i:=9) (by simp only[gel];rfl) (by kernel_rfl) (by kernel_rfl) (by kernel_rfl) (by exact fun _ _ _ h=>h) (Or.inl ⟨by rfl,by intro w' hSw;obtain⟨s1,s2⟩:=hSw;go_simp;first|done|with_reducible rfl⟩) (by assumption) ?_
    (try simp only[psm])
    refine wpAnyH_ready (rs:=[10]) (by kernel_rfl) (by simp) ?_;refine AllReadyH.cons (o:=?oZ1) ?hiZ1 (fun K hK=>?_) AllReadyH.nil
    case hiZ1=>simp only[gel];rfl
    rw[if_pos (by rfl)];refine wp_store_mid 85 _ _ rfl (w.heap.size+1+1) 0 #[.string (X++Y),.int .i64 (e)] rfl rfl th YQ (by simp[Value.oneCell']) ?_;rw[List.toList_toArray,<-HF.out.1];refine hK.out _ _ hS5 (fun hHeld=>?_);clear hK K
    (try simp only[Act.put])
    refine wpAnyH_take (i:=11) (by simp only[gel];rfl) (by kernel_rfl) (by kernel_rfl) (by kernel_rfl) (by exact fun _ _ _ h=>h) (Or.inl ⟨by rfl,by intro w' hSw;obtain⟨s1,s2⟩:=hSw;go_simp;first|done|with_reducible rfl⟩) (by assumption) ?_
    (try simp only[psm])
    refine wpAnyH_done (by kernel_rfl) ?_ _;go_wp2_with fail;refine bodyPost_ret (v:=.tuple #[.agg #[.string (X++Y),.int .i64 (e)],.bool true]) (Ys Try.results37 rfl HF.out.2.2 rfl) rfl ⟨?_,HF.out.2.1⟩;rw[<-HZ.out,HL.out,HD.out];have hq:(decide (X.size+Y.size<=40)&&decide (e<=6))=true:=by first|(simp;omega)|(simp;intro;omega)|simp[h40]|(simp[h40];omega)
    rw[hq]
   ·have h40':¬(X.size:Int)+(Y.size:Int)<=40:=by omega
    have hdec:decide ((X.size:Int)+(Y.size:Int)<=40)=false:=by simp;omega
    go_enter Try.func37,Try.ntmps37;go_wp2_with fail;obtain⟨V1,hV1⟩:=nam (w.alloc (.cells #[.string X,.int .i64 d] 85));obtain⟨V2,hV2⟩:=nam (V1.alloc (.cells #[.string Y,.int .i64 e] 85));obtain⟨V3,hV3⟩:=nam (V2.alloc (.cells #[.string ⟨#[]⟩,.int .i64 0] 85));obtain⟨V4,hV4⟩:=nam (V3.alloc (.cells #[.string (X++Y),.int .i64 (e)] 85));rw[<-hV1,<-hV2,<-hV3,<-hV4];have s1:V1.heap.size=w.heap.size+1:=by rw[hV1];simp
    have s2:V2.heap.size=w.heap.size+1+1:=by rw[hV2];simp[s1]
    have s3:V3.heap.size=w.heap.size+1+1+1:=by rw[hV3];simp[s2]
    have B1:Below w.heap.size w V1:=by rw[hV1];exact box_bel _ _
    have B2:Below V1.heap.size V1 V2:=by rw[hV2];exact box_bel _ _
    have B3:Below V2.heap.size V2 V3:=by rw[hV3];exact box_bel _ _
    have B4:Below V3.heap.size V3 V4:=by rw[hV4];exact box_bel _ _
    have T3:TC (w.heap.size+1+1) [.string ⟨#[]⟩,.int .i64 0] V3:=by rw[<-s2,hV3];exact TC.boxed V2 _ _
    have T34:=T3.block (B4.block _ (by omega));have T4:TC (w.heap.size+1+1+1) [.string (X++Y),.int .i64 (e)] V4:=by rw[<-s3,hV4];exact TC.boxed V3 _ _
    have BX:Below w.heap.size w V4:=((B1.trans (B2.mono B1.size)).trans (B3.mono (by omega))).trans (B4.mono (by omega));have hS0:V4.drew.cell? ⟨w.heap.size+1+1+1,0,none⟩=some (.string (X++Y))/\V4.drew.cell? ⟨w.heap.size+1+1+1,1,none⟩=some (.int .i64 (e)):=⟨(T4 0 _ rfl).1,(T4 1 _ rfl).1⟩;have th:=T34.there;obtain⟨V5,hV5⟩:=nam (V4.drew.setCells (w.heap.size+1+1) 0 [.string (X++Y),.int .i64 (e)]);have hg5:=Y7 (w.heap.size+1+1) [.string (X++Y),.int .i64 (e)] 0 V4.drew;have hr5:=World.rangeAt_setCells_same V4.drew (w.heap.size+1+1) 0 [.string (X++Y),.int .i64 (e)] th;rw[<-hV5]at hg5 hr5;have B5:=(BX.drew).grown hg5 BX.size (fun q hq=>by cases hq;omega);have h8:V4.heap.size=w.heap.size+1+1+1+1:=by rw[hV4];simp[s3]
    have h9:w.heap.size+1+1+1<V4.drew.heap.size:=by show _<V4.heap.size;omega
    have hk5:∀o,V5.cell? ⟨w.heap.size+1+1+1,o,none⟩=V4.drew.cell? ⟨w.heap.size+1+1+1,o,none⟩:=fun o=>World.cell?_of_block (w:=V4.drew) (a:=⟨w.heap.size+1+1+1,o,none⟩) (hg5.block _ h9 (fun h=>by have h2:w.heap.size+1+1+1=w.heap.size+1+1:=Option.some.inj h;omega))
    have hS5:V5.cell? ⟨w.heap.size+1+1+1,0,none⟩=some (.string (X++Y))/\V5.cell? ⟨w.heap.size+1+1+1,1,none⟩=some (.int .i64 (e)):=by rw[hk5,hk5];exact hS0
    have hl5:(loadVar 85 ⟨w.heap.size+1+1,0,none⟩).run Try.prog V5=.ok (.agg #[.string (X++Y),.int .i64 (e)]) V5:=run_loadVar_mid (P:=Try.prog) V5 (w.heap.size+1+1) 0 85 [.string (X++Y),.int .i64 (e)] _ hr5 Try.underlying85 rfl YQ;have HF:=hyd3 hV5 B5 hl5;clear hV1 hV2 hV3 hV4 hV5 s1 s2 s3 B1 B2 B3 B4 T3 T34 T4 BX hg5 hr5 B5 hk5 hl5 h8 h9;refine wp_region_held_drew (S:=fun w'=>w'.cell? ⟨w.heap.size+1+1+1,0,none⟩=some (.string (X++Y))/\w'.cell? ⟨w.heap.size+1+1+1,1,none⟩=some (.int .i64 (e))) (by kernel_rfl) hS0 (fun hHeld=>?_);refine wpAnyH_take (i:=0) (by simp only[List.getElem?_toArray,List.getElem?_cons_zero];rfl) (by kernel_rfl) (by kernel_rfl) (by kernel_rfl) (by exact fun _ _ _ h=>h) (Or.inl ⟨by rfl,by intro w' hSw;obtain⟨s1,s2⟩:=hSw;go_simp;first|done|with_reducible rfl⟩) (by assumption) ?_
    (try simp only[psm])
    refine wpAnyH_take (i:=1) (by simp only[gel];rfl) (by kernel_rfl) (by kernel_rfl) (by kernel_rfl) (by exact fun _ _ _ h=>h) (Or.inl ⟨by rfl,by intro w' hSw;obtain⟨s1,s2⟩:=hSw;go_simp;first|done|with_reducible rfl⟩) (by assumption) ?_
    (try simp only[psm])
    refine wpAnyH_take (i:=2) (by simp only[gel];rfl) (by kernel_rfl) (by kernel_rfl) (by kernel_rfl) (by exact fun _ _ _ h=>h) (Or.inl ⟨by rfl,by intro w' hSw;obtain⟨s1,s2⟩:=hSw;go_simp;first|done|with_reducible rfl⟩) (by assumption) ?_
    (try simp only[psm])
    refine wpAnyH_take (i:=3) (by simp only[gel];rfl) (by kernel_rfl) (by kernel_rfl) (by kernel_rfl) (by exact fun _ _ _ h=>h) (Or.inl ⟨by rfl,by intro w' hSw;obtain⟨s1,s2⟩:=hSw;go_simp;first|done|with_reducible rfl⟩) (by assumption) ?_
    (try simp only[psm])
    refine wpAnyH_take (i:=4) (by simp only[gel];rfl) (by kernel_rfl) (by kernel_rfl) (by kernel_rfl) (by exact fun _ _ _ h=>h) (Or.inl ⟨by rfl,by intro w' hSw;obtain⟨s1,s2⟩:=hSw;go_simp;first|done|with_reducible rfl⟩) (by assumption) ?_
    (try simp only[psm])
    refine wpAnyH_take (i:=5) (by simp only[gel];rfl) (by kernel_rfl) (by kernel_rfl) (by kernel_rfl) (by exact fun _ _ _ h=>h) (Or.inl ⟨by rfl,by intro w' hSw;obtain⟨s1,s2⟩:=hSw;go_simp;first|done|with_reducible rfl⟩) (by assumption) ?_
    (try simp only[psm])
    refine wpAnyH_take (i:=6) (v:=undef) (by simp only[gel];rfl) (by kernel_rfl) (by kernel_rfl) (by kernel_rfl) (by exact fun _ _ _ h=>h) (Or.inr ⟨by rfl,rfl⟩) (by assumption) ?_
    (try simp only[psm])
    refine wpAnyH_take (i:=7) (v:=undef) (by simp only[gel];rfl) (by kernel_rfl) (by kernel_rfl) (by kernel_rfl) (by exact fun _ _ _ h=>h) (Or.inr ⟨by rfl,rfl⟩) (by assumption) ?_
    (try simp only[psm])
    refine wpAnyH_take (i:=8) (v:=undef) (by simp only[gel];rfl) (by kernel_rfl) (by kernel_rfl) (by kernel_rfl) (by exact fun _ _ _ h=>h) (Or.inr ⟨by rfl,rfl⟩) (by assumption) ?_
    (try simp only[psm])
    refine wpAnyH_take (i:=9) (by simp only[gel];rfl) (by kernel_rfl) (by kernel_rfl) (by kernel_rfl) (by exact fun _ _ _ h=>h) (Or.inl ⟨by rfl,by intro w' hSw;obtain⟨s1,s2⟩:=hSw;go_simp;first|done|with_reducible rfl⟩) (by assumption) ?_
    (try simp only[psm])
    refine wpAnyH_ready (rs:=[10]) (by kernel_rfl) (by simp) ?_;refine AllReadyH.cons (o:=?oZ2) ?hiZ2 (fun K hK=>?_) AllReadyH.nil
    case hiZ2=>simp only[gel];rfl
    rw[if_pos (by rfl)];refine wp_store_mid 85 _ _ rfl (w.heap.size+1+1) 0 #[.string (X++Y),.int .i64 (e)] rfl rfl th YQ (by simp[Value.oneCell']) ?_;rw[List.toList_toArray,<-HF.out.1];refine hK.out _ _ hS5 (fun hHeld=>?_);clear hK K
    (try simp only[Act.put])
    refine wpAnyH_take (i:=11) (by simp only[gel];rfl) (by kernel_rfl) (by kernel_rfl) (by kernel_rfl) (by exact fun _ _ _ h=>h) (Or.inl ⟨by rfl,by intro w' hSw;obtain⟨s1,s2⟩:=hSw;go_simp;first|done|with_reducible rfl⟩) (by assumption) ?_
    (try simp only[psm])
    refine wpAnyH_done (by kernel_rfl) ?_ _;go_wp2_with fail;refine bodyPost_ret (v:=.tuple #[.agg #[.string (X++Y),.int .i64 (e)],.bool false]) (Ys Try.results37 rfl HF.out.2.2 rfl) rfl ⟨?_,HF.out.2.1⟩;rw[<-HZ.out,HL.out,HD.out];have hq:(decide (X.size+Y.size<=40)&&decide (e<=6))=false:=by first|(simp;omega)|(simp;intro;omega)|simp[h40]|(simp[h40];omega)
    rw[hq]
  ·have HD:Hid (Wh d e false=d):=by show _=_;simp[Wh,hde]
   clear zx zy hX hY;by_cases h40:X.size+Y.size<=40
   ·have h40':(X.size:Int)+(Y.size:Int)<=40:=by omega
    have h6':d<=6:=by omega
    go_enter Try.func37,Try.ntmps37;go_wp2_with fail;obtain⟨V1,hV1⟩:=nam (w.alloc (.cells #[.string X,.int .i64 d] 85));obtain⟨V2,hV2⟩:=nam (V1.alloc (.cells #[.string Y,.int .i64 e] 85));obtain⟨V3,hV3⟩:=nam (V2.alloc (.cells #[.string ⟨#[]⟩,.int .i64 0] 85));obtain⟨V4,hV4⟩:=nam (V3.alloc (.cells #[.string (X++Y),.int .i64 (d)] 85));rw[<-hV1,<-hV2,<-hV3,<-hV4];have s1:V1.heap.size=w.heap.size+1:=by rw[hV1];simp
    have s2:V2.heap.size=w.heap.size+1+1:=by rw[hV2];simp[s1]
    have s3:V3.heap.size=w.heap.size+1+1+1:=by rw[hV3];simp[s2]
    have B1:Below w.heap.size w V1:=by rw[hV1];exact box_bel _ _
    have B2:Below V1.heap.size V1 V2:=by rw[hV2];exact box_bel _ _
    have B3:Below V2.heap.size V2 V3:=by rw[hV3];exact box_bel _ _
    have B4:Below V3.heap.size V3 V4:=by rw[hV4];exact box_bel _ _
    have T3:TC (w.heap.size+1+1) [.string ⟨#[]⟩,.int .i64 0] V3:=by rw[<-s2,hV3];exact TC.boxed V2 _ _
    have T34:=T3.block (B4.block _ (by omega));have T4:TC (w.heap.size+1+1+1) [.string (X++Y),.int .i64 (d)] V4:=by rw[<-s3,hV4];exact TC.boxed V3 _ _
    have BX:Below w.heap.size w V4:=((B1.trans (B2.mono B1.size)).trans (B3.mono (by omega))).trans (B4.mono (by omega));have hS0:V4.drew.cell? ⟨w.heap.size+1+1+1,0,none⟩=some (.string (X++Y))/\V4.drew.cell? ⟨w.heap.size+1+1+1,1,none⟩=some (.int .i64 (d)):=⟨(T4 0 _ rfl).1,(T4 1 _ rfl).1⟩;have th:=T34.there;obtain⟨V5,hV5⟩:=nam (V4.drew.setCells (w.heap.size+1+1) 0 [.string (X++Y),.int .i64 (d)]);have hg5:=Y7 (w.heap.size+1+1) [.string (X++Y),.int .i64 (d)] 0 V4.drew;have hr5:=World.rangeAt_setCells_same V4.drew (w.heap.size+1+1) 0 [.string (X++Y),.int .i64 (d)] th;rw[<-hV5]at hg5 hr5;have B5:=(BX.drew).grown hg5 BX.size (fun q hq=>by cases hq;omega);have h8:V4.heap.size=w.heap.size+1+1+1+1:=by rw[hV4];simp[s3]
    have h9:w.heap.size+1+1+1<V4.drew.heap.size:=by show _<V4.heap.size;omega
    have hk5:∀o,V5.cell? ⟨w.heap.size+1+1+1,o,none⟩=V4.drew.cell? ⟨w.heap.size+1+1+1,o,none⟩:=fun o=>World.cell?_of_block (w:=V4.drew) (a:=⟨w.heap.size+1+1+1,o,none⟩) (hg5.block _ h9 (fun h=>by have h2:w.heap.size+1+1+1=w.heap.size+1+1:=Option.some.inj h;omega))
    have hS5:V5.cell? ⟨w.heap.size+1+1+1,0,none⟩=some (.string (X++Y))/\V5.cell? ⟨w.heap.size+1+1+1,1,none⟩=some (.int .i64 (d)):=by rw[hk5,hk5];exact hS0
    have hl5:(loadVar 85 ⟨w.heap.size+1+1,0,none⟩).run Try.prog V5=.ok (.agg #[.string (X++Y),.int .i64 (d)]) V5:=run_loadVar_mid (P:=Try.prog) V5 (w.heap.size+1+1) 0 85 [.string (X++Y),.int .i64 (d)] _ hr5 Try.underlying85 rfl YQ;have HF:=hyd3 hV5 B5 hl5;clear hV1 hV2 hV3 hV4 hV5 s1 s2 s3 B1 B2 B3 B4 T3 T34 T4 BX hg5 hr5 B5 hk5 hl5 h8 h9;refine wp_region_held_drew (S:=fun w'=>w'.cell? ⟨w.heap.size+1+1+1,0,none⟩=some (.string (X++Y))/\w'.cell? ⟨w.heap.size+1+1+1,1,none⟩=some (.int .i64 (d))) (by kernel_rfl) hS0 (fun hHeld=>?_);refine wpAnyH_take (i:=0) (by simp only[List.getElem?_toArray,List.getElem?_cons_zero];rfl) (by kernel_rfl) (by kernel_rfl) (by kernel_rfl) (by exact fun _ _ _ h=>h) (Or.inl ⟨by rfl,by intro w' hSw;obtain⟨s1,s2⟩:=hSw;go_simp;first|done|with_reducible rfl⟩) (by assumption) ?_
    (try simp only[psm])
    refine wpAnyH_take (i:=1) (by simp only[gel];rfl) (by kernel_rfl) (by kernel_rfl) (by kernel_rfl) (by exact fun _ _ _ h=>h) (Or.inl ⟨by rfl,by intro w' hSw;obtain⟨s1,s2⟩:=hSw;go_simp;first|done|with_reducible rfl⟩) (by assumption) ?_
    (try simp only[psm])
    refine wpAnyH_take (i:=2) (by simp only[gel];rfl) (by kernel_rfl) (by kernel_rfl) (by kernel_rfl) (by exact fun _ _ _ h=>h) (Or.inl ⟨by rfl,by intro w' hSw;obtain⟨s1,s2⟩:=hSw;go_simp;first|done|with_reducible rfl⟩) (by assumption) ?_
    (try simp only[psm])
    refine wpAnyH_take (i:=3) (by simp only[gel];rfl) (by kernel_rfl) (by kernel_rfl) (by kernel_rfl) (by exact fun _ _ _ h=>h) (Or.inl ⟨by rfl,by intro w' hSw;obtain⟨s1,s2⟩:=hSw;go_simp;first|done|with_reducible rfl⟩) (by assumption) ?_
    (try simp only[psm])
    refine wpAnyH_take (i:=4) (by simp only[gel];rfl) (by kernel_rfl) (by kernel_rfl) (by kernel_rfl) (by exact fun _ _ _ h=>h) (Or.inl ⟨by rfl,by intro w' hSw;obtain⟨s1,s2⟩:=hSw;go_simp;first|done|with_reducible rfl⟩) (by assumption) ?_
    (try simp only[psm])
    refine wpAnyH_take (i:=5) (by simp only[gel];rfl) (by kernel_rfl) (by kernel_rfl) (by kernel_rfl) (by exact fun _ _ _ h=>h) (Or.inl ⟨by rfl,by intro w' hSw;obtain⟨s1,s2⟩:=hSw;go_simp;first|done|with_reducible rfl⟩) (by assumption) ?_
    (try simp only[psm])
    refine wpAnyH_take (i:=6) (by simp only[gel];rfl) (by kernel_rfl) (by kernel_rfl) (by kernel_rfl) (by exact fun _ _ _ h=>h) (Or.inl ⟨by rfl,by intro w' hSw;obtain⟨s1,s2⟩:=hSw;go_simp;first|done|with_reducible rfl⟩) (by assumption) ?_
    (try simp only[psm])
    refine wpAnyH_take (i:=7) (by simp only[gel];rfl) (by kernel_rfl) (by kernel_rfl) (by kernel_rfl) (by exact fun _ _ _ h=>h) (Or.inl ⟨by rfl,by intro w' hSw;obtain⟨s1,s2⟩:=hSw;go_simp;first|done|with_reducible rfl⟩) (by assumption) ?_
    (try simp only[psm])
    refine wpAnyH_take (i:=8) (by simp only[gel];rfl) (by kernel_rfl) (by kernel_rfl) (by kernel_rfl) (by exact fun _ _ _ h=>h) (Or.inl ⟨by rfl,by intro w' hSw;obtain⟨s1,s2⟩:=hSw;go_simp;first|done|with_reducible rfl⟩) (by assumption) ?_
    (try simp only[psm])
    refine wpAnyH_take (i:=9) (by simp only[gel];rfl) (by kernel_rfl) (by kernel_rfl) (by kernel_rfl) (by exact fun _ _ _ h=>h) (Or.inl ⟨by rfl,by intro w' hSw;obtain⟨s1,s2⟩:=hSw;go_simp;first|done|with_reducible rfl⟩) (by assumption) ?_
    (try simp only[psm])
    refine wpAnyH_ready (rs:=[10]) (by kernel_rfl) (by simp) ?_;refine AllReadyH.cons (o:=?oZ3) ?hiZ3 (fun K hK=>?_) AllReadyH.nil
    case hiZ3=>simp only[gel];rfl
    rw[if_pos (by rfl)];refine wp_store_mid 85 _ _ rfl (w.heap.size+1+1) 0 #[.string (X++Y),.int .i64 (d)] rfl rfl th YQ (by simp[Value.oneCell']) ?_;rw[List.toList_toArray,<-HF.out.1];refine hK.out _ _ hS5 (fun hHeld=>?_);clear hK K
    (try simp only[Act.put])
    refine wpAnyH_take (i:=11) (by simp only[gel];rfl) (by kernel_rfl) (by kernel_rfl) (by kernel_rfl) (by exact fun _ _ _ h=>h) (Or.inl ⟨by rfl,by intro w' hSw;obtain⟨s1,s2⟩:=hSw;go_simp;first|done|with_reducible rfl⟩) (by assumption) ?_
    (try simp only[psm])
    refine wpAnyH_done (by kernel_rfl) ?_ _;go_wp2_with fail;refine bodyPost_ret (v:=.tuple #[.agg #[.string (X++Y),.int .i64 (d)],.bool true]) (Ys Try.results37 rfl HF.out.2.2 rfl) rfl ⟨?_,HF.out.2.1⟩;rw[<-HZ.out,HL.out,HD.out];have hq:(decide (X.size+Y.size<=40)&&decide (d<=6))=true:=by first|(simp;omega)|(simp;intro;omega)|simp[h40]|(simp[h40];omega)
    rw[hq]
   ·have h40':¬(X.size:Int)+(Y.size:Int)<=40:=by omega
    have hdec:decide ((X.size:Int)+(Y.size:Int)<=40)=false:=by simp;omega
    go_enter Try.func37,Try.ntmps37;go_wp2_with fail;obtain⟨V1,hV1⟩:=nam (w.alloc (.cells #[.string X,.int .i64 d] 85));obtain⟨V2,hV2⟩:=nam (V1.alloc (.cells #[.string Y,.int .i64 e] 85));obtain⟨V3,hV3⟩:=nam (V2.alloc (.cells #[.string ⟨#[]⟩,.int .i64 0] 85));obtain⟨V4,hV4⟩:=nam (V3.alloc (.cells #[.string (X++Y),.int .i64 (d)] 85));rw[<-hV1,<-hV2,<-hV3,<-hV4];have s1:V1.heap.size=w.heap.size+1:=by rw[hV1];simp
    have s2:V2.heap.size=w.heap.size+1+1:=by rw[hV2];simp[s1]
    have s3:V3.heap.size=w.heap.size+1+1+1:=by rw[hV3];simp[s2]
    have B1:Below w.heap.size w V1:=by rw[hV1];exact box_bel _ _
    have B2:Below V1.heap.size V1 V2:=by rw[hV2];exact box_bel _ _
    have B3:Below V2.heap.size V2 V3:=by rw[hV3];exact box_bel _ _
    have B4:Below V3.heap.size V3 V4:=by rw[hV4];exact box_bel _ _
    have T3:TC (w.heap.size+1+1) [.string ⟨#[]⟩,.int .i64 0] V3:=by rw[<-s2,hV3];exact TC.boxed V2 _ _
    have T34:=T3.block (B4.block _ (by omega));have T4:TC (w.heap.size+1+1+1) [.string (X++Y),.int .i64 (d)] V4:=by rw[<-s3,hV4];exact TC.boxed V3 _ _
    have BX:Below w.heap.size w V4:=((B1.trans (B2.mono B1.size)).trans (B3.mono (by omega))).trans (B4.mono (by omega));have hS0:V4.drew.cell? ⟨w.heap.size+1+1+1,0,none⟩=some (.string (X++Y))/\V4.drew.cell? ⟨w.heap.size+1+1+1,1,none⟩=some (.int .i64 (d)):=⟨(T4 0 _ rfl).1,(T4 1 _ rfl).1⟩;have th:=T34.there;obtain⟨V5,hV5⟩:=nam (V4.drew.setCells (w.heap.size+1+1) 0 [.string (X++Y),.int .i64 (d)]);have hg5:=Y7 (w.heap.size+1+1) [.string (X++Y),.int .i64 (d)] 0 V4.drew;have hr5:=World.rangeAt_setCells_same V4.drew (w.heap.size+1+1) 0 [.string (X++Y),.int .i64 (d)] th;rw[<-hV5]at hg5 hr5;have B5:=(BX.drew).grown hg5 BX.size (fun q hq=>by cases hq;omega);have h8:V4.heap.size=w.heap.size+1+1+1+1:=by rw[hV4];simp[s3]
    have h9:w.heap.size+1+1+1<V4.drew.heap.size:=by show _<V4.heap.size;omega
    have hk5:∀o,V5.cell? ⟨w.heap.size+1+1+1,o,none⟩=V4.drew.cell? ⟨w.heap.size+1+1+1,o,none⟩:=fun o=>World.cell?_of_block (w:=V4.drew) (a:=⟨w.heap.size+1+1+1,o,none⟩) (hg5.block _ h9 (fun h=>by have h2:w.heap.size+1+1+1=w.heap.size+1+1:=Option.some.inj h;omega))
    have hS5:V5.cell? ⟨w.heap.size+1+1+1,0,none⟩=some (.string (X++Y))/\V5.cell? ⟨w.heap.size+1+1+1,1,none⟩=some (.int .i64 (d)):=by rw[hk5,hk5];exact hS0
    have hl5:(loadVar 85 ⟨w.heap.size+1+1,0,none⟩).run Try.prog V5=.ok (.agg #[.string (X++Y),.int .i64 (d)]) V5:=run_loadVar_mid (P:=Try.prog) V5 (w.heap.size+1+1) 0 85 [.string (X++Y),.int .i64 (d)] _ hr5 Try.underlying85 rfl YQ;have HF:=hyd3 hV5 B5 hl5;clear hV1 hV2 hV3 hV4 hV5 s1 s2 s3 B1 B2 B3 B4 T3 T34 T4 BX hg5 hr5 B5 hk5 hl5 h8 h9;refine wp_region_held_drew (S:=fun w'=>w'.cell? ⟨w.heap.size+1+1+1,0,none⟩=some (.string (X++Y))/\w'.cell? ⟨w.heap.size+1+1+1,1,none⟩=some (.int .i64 (d))) (by kernel_rfl) hS0 (fun hHeld=>?_);refine wpAnyH_take (i:=0) (by simp only[List.getElem?_toArray,List.getElem?_cons_zero];rfl) (by kernel_rfl) (by kernel_rfl) (by kernel_rfl) (by exact fun _ _ _ h=>h) (Or.inl ⟨by rfl,by intro w' hSw;obtain⟨s1,s2⟩:=hSw;go_simp;first|done|with_reducible rfl⟩) (by assumption) ?_
    (try simp only[psm])
    refine wpAnyH_take (i:=1) (by simp only[gel];rfl) (by kernel_rfl) (by kernel_rfl) (by kernel_rfl) (by exact fun _ _ _ h=>h) (Or.inl ⟨by rfl,by intro w' hSw;obtain⟨s1,s2⟩:=hSw;go_simp;first|done|with_reducible rfl⟩) (by assumption) ?_
    (try simp only[psm])
    refine wpAnyH_take (i:=2) (by simp only[gel];rfl) (by kernel_rfl) (by kernel_rfl) (by kernel_rfl) (by exact fun _ _ _ h=>h) (Or.inl ⟨by rfl,by intro w' hSw;obtain⟨s1,s2⟩:=hSw;go_simp;first|done|with_reducible rfl⟩) (by assumption) ?_
    (try simp only[psm])
    refine wpAnyH_take (i:=3) (by simp only[gel];rfl) (by kernel_rfl) (by kernel_rfl) (by kernel_rfl) (by exact fun _ _ _ h=>h) (Or.inl ⟨by rfl,by intro w' hSw;obtain⟨s1,s2⟩:=hSw;go_simp;first|done|with_reducible rfl⟩) (by assumption) ?_
    (try simp only[psm])
    refine wpAnyH_take (i:=4) (by simp only[gel];rfl) (by kernel_rfl) (by kernel_rfl) (by kernel_rfl) (by exact fun _ _ _ h=>h) (Or.inl ⟨by rfl,by intro w' hSw;obtain⟨s1,s2⟩:=hSw;go_simp;first|done|with_reducible rfl⟩) (by assumption) ?_
    (try simp only[psm])
    refine wpAnyH_take (i:=5) (by simp only[gel];rfl) (by kernel_rfl) (by kernel_rfl) (by kernel_rfl) (by exact fun _ _ _ h=>h) (Or.inl ⟨by rfl,by intro w' hSw;obtain⟨s1,s2⟩:=hSw;go_simp;first|done|with_reducible rfl⟩) (by assumption) ?_
    (try simp only[psm])
    refine wpAnyH_take (i:=6) (v:=undef) (by simp only[gel];rfl) (by kernel_rfl) (by kernel_rfl) (by kernel_rfl) (by exact fun _ _ _ h=>h) (Or.inr ⟨by rfl,rfl⟩) (by assumption) ?_
    (try simp only[psm])
    refine wpAnyH_take (i:=7) (v:=undef) (by simp only[gel];rfl) (by kernel_rfl) (by kernel_rfl) (by kernel_rfl) (by exact fun _ _ _ h=>h) (Or.inr ⟨by rfl,rfl⟩) (by assumption) ?_
    (try simp only[psm])
    refine wpAnyH_take (i:=8) (v:=undef) (by simp only[gel];rfl) (by kernel_rfl) (by kernel_rfl) (by kernel_rfl) (by exact fun _ _ _ h=>h) (Or.inr ⟨by rfl,rfl⟩) (by assumption) ?_
    (try simp only[psm])
    refine wpAnyH_take (i:=9) (by simp only[gel];rfl) (by kernel_rfl) (by kernel_rfl) (by kernel_rfl) (by exact fun _ _ _ h=>h) (Or.inl ⟨by rfl,by intro w' hSw;obtain⟨s1,s2⟩:=hSw;go_simp;first|done|with_reducible rfl⟩) (by assumption) ?_
    (try simp only[psm])
    refine wpAnyH_ready (rs:=[10]) (by kernel_rfl) (by simp) ?_;refine AllReadyH.cons (o:=?oZ4) ?hiZ4 (fun K hK=>?_) AllReadyH.nil
    case hiZ4=>simp only[gel];rfl
    rw[if_pos (by rfl)];refine wp_store_mid 85 _ _ rfl (w.heap.size+1+1) 0 #[.string (X++Y),.int .i64 (d)] rfl rfl th YQ (by simp[Value.oneCell']) ?_;rw[List.toList_toArray,<-HF.out.1];refine hK.out _ _ hS5 (fun hHeld=>?_);clear hK K
    (try simp only[Act.put])
    refine wpAnyH_take (i:=11) (by simp only[gel];rfl) (by kernel_rfl) (by kernel_rfl) (by kernel_rfl) (by exact fun _ _ _ h=>h) (Or.inl ⟨by rfl,by intro w' hSw;obtain⟨s1,s2⟩:=hSw;go_simp;first|done|with_reducible rfl⟩) (by assumption) ?_
    (try simp only[psm])
    refine wpAnyH_done (by kernel_rfl) ?_ _;go_wp2_with fail;refine bodyPost_ret (v:=.tuple #[.agg #[.string (X++Y),.int .i64 (d)],.bool false]) (Ys Try.results37 rfl HF.out.2.2 rfl) rfl ⟨?_,HF.out.2.1⟩;rw[<-HZ.out,HL.out,HD.out];have hq:(decide (X.size+Y.size<=40)&&decide (d<=6))=false:=by first|(simp;omega)|(simp;intro;omega)|simp[h40]|(simp[h40];omega)
    rw[hq]
 ·have HZ:Hid ((((⟨#[40]⟩:ByteArray)++X)++⟨#[124]⟩++Y)++⟨#[41]⟩=YE (Vw x y true)):=by show _=_;rw[hX,hY,show(⟨#[40]⟩:ByteArray)=YE [40] from rfl,show(⟨#[41]⟩:ByteArray)=YE [41] from rfl,show(⟨#[124]⟩:ByteArray)=YE [124] from rfl,WH,WH,WH,WH];simp[Vw]
  have HL:Hid ((Vw x y true).length=1+X.size+1+Y.size+1):=by show _=_;rw[zx,zy];simp[Vw];omega
  by_cases hde:d<e
  ·have HD:Hid (Wh d e true=e+1):=by show _=_;simp[Wh,hde]
   clear zx zy hX hY;by_cases h40:1+X.size+1+Y.size+1<=40
   ·have h40':(1:Int)+(X.size:Int)+1+(Y.size:Int)+1<=40:=by omega
    by_cases h6:e+1<=6
    ·have h6':e+1<=6:=by omega
     go_enter Try.func37,Try.ntmps37;go_wp2_with fail;obtain⟨V1,hV1⟩:=nam (w.alloc (.cells #[.string X,.int .i64 d] 85));obtain⟨V2,hV2⟩:=nam (V1.alloc (.cells #[.string Y,.int .i64 e] 85));obtain⟨V3,hV3⟩:=nam (V2.alloc (.cells #[.string ⟨#[]⟩,.int .i64 0] 85));obtain⟨V4,hV4⟩:=nam (V3.alloc (.cells #[.string ((((⟨#[40]⟩:ByteArray)++X)++⟨#[124]⟩++Y)++⟨#[41]⟩),.int .i64 (e+1)] 85));rw[<-hV1,<-hV2,<-hV3,<-hV4];have s1:V1.heap.size=w.heap.size+1:=by rw[hV1];simp
     have s2:V2.heap.size=w.heap.size+1+1:=by rw[hV2];simp[s1]
     have s3:V3.heap.size=w.heap.size+1+1+1:=by rw[hV3];simp[s2]
     have B1:Below w.heap.size w V1:=by rw[hV1];exact box_bel _ _
     have B2:Below V1.heap.size V1 V2:=by rw[hV2];exact box_bel _ _
     have B3:Below V2.heap.size V2 V3:=by rw[hV3];exact box_bel _ _
     have B4:Below V3.heap.size V3 V4:=by rw[hV4];exact box_bel _ _
     have T3:TC (w.heap.size+1+1) [.string ⟨#[]⟩,.int .i64 0] V3:=by rw[<-s2,hV3];exact TC.boxed V2 _ _
     have T34:=T3.block (B4.block _ (by omega));have T4:TC (w.heap.size+1+1+1) [.string ((((⟨#[40]⟩:ByteArray)++X)++⟨#[124]⟩++Y)++⟨#[41]⟩),.int .i64 (e+1)] V4:=by rw[<-s3,hV4];exact TC.boxed V3 _ _
     have BX:Below w.heap.size w V4:=((B1.trans (B2.mono B1.size)).trans (B3.mono (by omega))).trans (B4.mono (by omega));have hS0:V4.drew.cell? ⟨w.heap.size+1+1+1,0,none⟩=some (.string ((((⟨#[40]⟩:ByteArray)++X)++⟨#[124]⟩++Y)++⟨#[41]⟩))/\V4.drew.cell? ⟨w.heap.size+1+1+1,1,none⟩=some (.int .i64 (e+1)):=⟨(T4 0 _ rfl).1,(T4 1 _ rfl).1⟩;have th:=T34.there;obtain⟨V5,hV5⟩:=nam (V4.drew.setCells (w.heap.size+1+1) 0 [.string ((((⟨#[40]⟩:ByteArray)++X)++⟨#[124]⟩++Y)++⟨#[41]⟩),.int .i64 (e+1)]);have hg5:=Y7 (w.heap.size+1+1) [.string ((((⟨#[40]⟩:ByteArray)++X)++⟨#[124]⟩++Y)++⟨#[41]⟩),.int .i64 (e+1)] 0 V4.drew;have hr5:=World.rangeAt_setCells_same V4.drew (w.heap.size+1+1) 0 [.string ((((⟨#[40]⟩:ByteArray)++X)++⟨#[124]⟩++Y)++⟨#[41]⟩),.int .i64 (e+1)] th;rw[<-hV5]at hg5 hr5;have B5:=(BX.drew).grown hg5 BX.size (fun q hq=>by cases hq;omega);have h8:V4.heap.size=w.heap.size+1+1+1+1:=by rw[hV4];simp[s3]
     have h9:w.heap.size+1+1+1<V4.drew.heap.size:=by show _<V4.heap.size;omega
     have hk5:∀o,V5.cell? ⟨w.heap.size+1+1+1,o,none⟩=V4.drew.cell? ⟨w.heap.size+1+1+1,o,none⟩:=fun o=>World.cell?_of_block (w:=V4.drew) (a:=⟨w.heap.size+1+1+1,o,none⟩) (hg5.block _ h9 (fun h=>by have h2:w.heap.size+1+1+1=w.heap.size+1+1:=Option.some.inj h;omega))
     have hS5:V5.cell? ⟨w.heap.size+1+1+1,0,none⟩=some (.string ((((⟨#[40]⟩:ByteArray)++X)++⟨#[124]⟩++Y)++⟨#[41]⟩))/\V5.cell? ⟨w.heap.size+1+1+1,1,none⟩=some (.int .i64 (e+1)):=by rw[hk5,hk5];exact hS0
     have hl5:(loadVar 85 ⟨w.heap.size+1+1,0,none⟩).run Try.prog V5=.ok (.agg #[.string ((((⟨#[40]⟩:ByteArray)++X)++⟨#[124]⟩++Y)++⟨#[41]⟩),.int .i64 (e+1)]) V5:=run_loadVar_mid (P:=Try.prog) V5 (w.heap.size+1+1) 0 85 [.string ((((⟨#[40]⟩:ByteArray)++X)++⟨#[124]⟩++Y)++⟨#[41]⟩),.int .i64 (e+1)] _ hr5 Try.underlying85 rfl YQ;have HF:=hyd3 hV5 B5 hl5;clear hV1 hV2 hV3 hV4 hV5 s1 s2 s3 B1 B2 B3 B4 T3 T34 T4 BX hg5 hr5 B5 hk5 hl5 h8 h9;refine wp_region_held_drew (S:=fun w'=>w'.cell? ⟨w.heap.size+1+1+1,0,none⟩=some (.string ((((⟨#[40]⟩:ByteArray)++X)++⟨#[124]⟩++Y)++⟨#[41]⟩))/\w'.cell? ⟨w.heap.size+1+1+1,1,none⟩=some (.int .i64 (e+1))) (by kernel_rfl) hS0 (fun hHeld=>?_);refine wpAnyH_take (i:=0) (by simp only[List.getElem?_toArray,List.getElem?_cons_zero];rfl) (by kernel_rfl) (by kernel_rfl) (by kernel_rfl) (by exact fun _ _ _ h=>h) (Or.inl ⟨by rfl,by intro w' hSw;obtain⟨s1,s2⟩:=hSw;go_simp;first|done|with_reducible rfl⟩) (by assumption) ?_
     (try simp only[psm])
     refine wpAnyH_take (i:=1) (by simp only[gel];rfl) (by kernel_rfl) (by kernel_rfl) (by kernel_rfl) (by exact fun _ _ _ h=>h) (Or.inl ⟨by rfl,by intro w' hSw;obtain⟨s1,s2⟩:=hSw;go_simp;first|done|with_reducible rfl⟩) (by assumption) ?_
     (try simp only[psm])
     refine wpAnyH_take (i:=2) (by simp only[gel];rfl) (by kernel_rfl) (by kernel_rfl) (by kernel_rfl) (by exact fun _ _ _ h=>h) (Or.inl ⟨by rfl,by intro w' hSw;obtain⟨s1,s2⟩:=hSw;go_simp;first|done|with_reducible rfl⟩) (by assumption) ?_
     (try simp only[psm])
     refine wpAnyH_take (i:=3) (by simp only[gel];rfl) (by kernel_rfl) (by kernel_rfl) (by kernel_rfl) (by exact fun _ _ _ h=>h) (Or.inl ⟨by rfl,by intro w' hSw;obtain⟨s1,s2⟩:=hSw;go_simp;first|done|with_reducible rfl⟩) (by assumption) ?_
     (try simp only[psm])
     refine wpAnyH_take (i:=4) (by simp only[gel];rfl) (by kernel_rfl) (by kernel_rfl) (by kernel_rfl) (by exact fun _ _ _ h=>h) (Or.inl ⟨by rfl,by intro w' hSw;obtain⟨s1,s2⟩:=hSw;go_simp;first|done|with_reducible rfl⟩) (by assumption) ?_
     (try simp only[psm])
     refine wpAnyH_take (i:=5) (by simp only[gel];rfl) (by kernel_rfl) (by kernel_rfl) (by kernel_rfl) (by exact fun _ _ _ h=>h) (Or.inl ⟨by rfl,by intro w' hSw;obtain⟨s1,s2⟩:=hSw;go_simp;first|done|with_reducible rfl⟩) (by assumption) ?_
     (try simp only[psm])
     refine wpAnyH_take (i:=6) (by simp only[gel];rfl) (by kernel_rfl) (by kernel_rfl) (by kernel_rfl) (by exact fun _ _ _ h=>h) (Or.inl ⟨by rfl,by intro w' hSw;obtain⟨s1,s2⟩:=hSw;go_simp;first|done|with_reducible rfl⟩) (by assumption) ?_
     (try simp only[psm])
     refine wpAnyH_take (i:=7) (by simp only[gel];rfl) (by kernel_rfl) (by kernel_rfl) (by kernel_rfl) (by exact fun _ _ _ h=>h) (Or.inl ⟨by rfl,by intro w' hSw;obtain⟨s1,s2⟩:=hSw;go_simp;first|done|with_reducible rfl⟩) (by assumption) ?_
     (try simp only[psm])
     refine wpAnyH_take (i:=8) (by simp only[gel];rfl) (by kernel_rfl) (by kernel_rfl) (by kernel_rfl) (by exact fun _ _ _ h=>h) (Or.inl ⟨by rfl,by intro w' hSw;obtain⟨s1,s2⟩:=hSw;go_simp;first|done|with_reducible rfl⟩) (by assumption) ?_
     (try simp only[psm])
     refine wpAnyH_take (i:=9) (by simp only[gel];rfl) (by kernel_rfl) (by kernel_rfl) (by kernel_rfl) (by exact fun _ _ _ h=>h) (Or.inl ⟨by rfl,by intro w' hSw;obtain⟨s1,s2⟩:=hSw;go_simp;first|done|with_reducible rfl⟩) (by assumption) ?_
     (try simp only[psm])
     refine wpAnyH_ready (rs:=[10]) (by kernel_rfl) (by simp) ?_;refine AllReadyH.cons (o:=?oZ5) ?hiZ5 (fun K hK=>?_) AllReadyH.nil
     case hiZ5=>simp only[gel];rfl
     rw[if_pos (by rfl)];refine wp_store_mid 85 _ _ rfl (w.heap.size+1+1) 0 #[.string ((((⟨#[40]⟩:ByteArray)++X)++⟨#[124]⟩++Y)++⟨#[41]⟩),.int .i64 (e+1)] rfl rfl th YQ (by simp[Value.oneCell']) ?_;rw[List.toList_toArray,<-HF.out.1];refine hK.out _ _ hS5 (fun hHeld=>?_);clear hK K
     (try simp only[Act.put])
     refine wpAnyH_take (i:=11) (by simp only[gel];rfl) (by kernel_rfl) (by kernel_rfl) (by kernel_rfl) (by exact fun _ _ _ h=>h) (Or.inl ⟨by rfl,by intro w' hSw;obtain⟨s1,s2⟩:=hSw;go_simp;first|done|with_reducible rfl⟩) (by assumption) ?_
     (try simp only[psm])
     refine wpAnyH_done (by kernel_rfl) ?_ _;go_wp2_with fail;refine bodyPost_ret (v:=.tuple #[.agg #[.string ((((⟨#[40]⟩:ByteArray)++X)++⟨#[124]⟩++Y)++⟨#[41]⟩),.int .i64 (e+1)],.bool true]) (Ys Try.results37 rfl HF.out.2.2 rfl) rfl ⟨?_,HF.out.2.1⟩;rw[<-HZ.out,HL.out,HD.out];have hq:(decide (1+X.size+1+Y.size+1<=40)&&decide (e+1<=6))=true:=by first|(simp;omega)|(simp;intro;omega)|simp[h40]|(simp[h40];omega)
     rw[hq]
    ·have h6':¬e+1<=6:=by omega
     have hdec:decide (e+1<=6)=false:=by simp;omega
     go_enter Try.func37,Try.ntmps37;go_wp2_with fail;obtain⟨V1,hV1⟩:=nam (w.alloc (.cells #[.string X,.int .i64 d] 85));obtain⟨V2,hV2⟩:=nam (V1.alloc (.cells #[.string Y,.int .i64 e] 85));obtain⟨V3,hV3⟩:=nam (V2.alloc (.cells #[.string ⟨#[]⟩,.int .i64 0] 85));obtain⟨V4,hV4⟩:=nam (V3.alloc (.cells #[.string ((((⟨#[40]⟩:ByteArray)++X)++⟨#[124]⟩++Y)++⟨#[41]⟩),.int .i64 (e+1)] 85));rw[<-hV1,<-hV2,<-hV3,<-hV4];have s1:V1.heap.size=w.heap.size+1:=by rw[hV1];simp
     have s2:V2.heap.size=w.heap.size+1+1:=by rw[hV2];simp[s1]
     have s3:V3.heap.size=w.heap.size+1+1+1:=by rw[hV3];simp[s2]
     have B1:Below w.heap.size w V1:=by rw[hV1];exact box_bel _ _
     have B2:Below V1.heap.size V1 V2:=by rw[hV2];exact box_bel _ _
     have B3:Below V2.heap.size V2 V3:=by rw[hV3];exact box_bel _ _
     have B4:Below V3.heap.size V3 V4:=by rw[hV4];exact box_bel _ _
     have T3:TC (w.heap.size+1+1) [.string ⟨#[]⟩,.int .i64 0] V3:=by rw[<-s2,hV3];exact TC.boxed V2 _ _
     have T34:=T3.block (B4.block _ (by omega));have T4:TC (w.heap.size+1+1+1) [.string ((((⟨#[40]⟩:ByteArray)++X)++⟨#[124]⟩++Y)++⟨#[41]⟩),.int .i64 (e+1)] V4:=by rw[<-s3,hV4];exact TC.boxed V3 _ _
     have BX:Below w.heap.size w V4:=((B1.trans (B2.mono B1.size)).trans (B3.mono (by omega))).trans (B4.mono (by omega));have hS0:V4.drew.cell? ⟨w.heap.size+1+1+1,0,none⟩=some (.string ((((⟨#[40]⟩:ByteArray)++X)++⟨#[124]⟩++Y)++⟨#[41]⟩))/\V4.drew.cell? ⟨w.heap.size+1+1+1,1,none⟩=some (.int .i64 (e+1)):=⟨(T4 0 _ rfl).1,(T4 1 _ rfl).1⟩;have th:=T34.there;obtain⟨V5,hV5⟩:=nam (V4.drew.setCells (w.heap.size+1+1) 0 [.string ((((⟨#[40]⟩:ByteArray)++X)++⟨#[124]⟩++Y)++⟨#[41]⟩),.int .i64 (e+1)]);have hg5:=Y7 (w.heap.size+1+1) [.string ((((⟨#[40]⟩:ByteArray)++X)++⟨#[124]⟩++Y)++⟨#[41]⟩),.int .i64 (e+1)] 0 V4.drew;have hr5:=World.rangeAt_setCells_same V4.drew (w.heap.size+1+1) 0 [.string ((((⟨#[40]⟩:ByteArray)++X)++⟨#[124]⟩++Y)++⟨#[41]⟩),.int .i64 (e+1)] th;rw[<-hV5]at hg5 hr5;have B5:=(BX.drew).grown hg5 BX.size (fun q hq=>by cases hq;omega);have h8:V4.heap.size=w.heap.size+1+1+1+1:=by rw[hV4];simp[s3]
     have h9:w.heap.size+1+1+1<V4.drew.heap.size:=by show _<V4.heap.size;omega
     have hk5:∀o,V5.cell? ⟨w.heap.size+1+1+1,o,none⟩=V4.drew.cell? ⟨w.heap.size+1+1+1,o,none⟩:=fun o=>World.cell?_of_block (w:=V4.drew) (a:=⟨w.heap.size+1+1+1,o,none⟩) (hg5.block _ h9 (fun h=>by have h2:w.heap.size+1+1+1=w.heap.size+1+1:=Option.some.inj h;omega))
     have hS5:V5.cell? ⟨w.heap.size+1+1+1,0,none⟩=some (.string ((((⟨#[40]⟩:ByteArray)++X)++⟨#[124]⟩++Y)++⟨#[41]⟩))/\V5.cell? ⟨w.heap.size+1+1+1,1,none⟩=some (.int .i64 (e+1)):=by rw[hk5,hk5];exact hS0
     have hl5:(loadVar 85 ⟨w.heap.size+1+1,0,none⟩).run Try.prog V5=.ok (.agg #[.string ((((⟨#[40]⟩:ByteArray)++X)++⟨#[124]⟩++Y)++⟨#[41]⟩),.int .i64 (e+1)]) V5:=run_loadVar_mid (P:=Try.prog) V5 (w.heap.size+1+1) 0 85 [.string ((((⟨#[40]⟩:ByteArray)++X)++⟨#[124]⟩++Y)++⟨#[41]⟩),.int .i64 (e+1)] _ hr5 Try.underlying85 rfl YQ;have HF:=hyd3 hV5 B5 hl5;clear hV1 hV2 hV3 hV4 hV5 s1 s2 s3 B1 B2 B3 B4 T3 T34 T4 BX hg5 hr5 B5 hk5 hl5 h8 h9;refine wp_region_held_drew (S:=fun w'=>w'.cell? ⟨w.heap.size+1+1+1,0,none⟩=some (.string ((((⟨#[40]⟩:ByteArray)++X)++⟨#[124]⟩++Y)++⟨#[41]⟩))/\w'.cell? ⟨w.heap.size+1+1+1,1,none⟩=some (.int .i64 (e+1))) (by kernel_rfl) hS0 (fun hHeld=>?_);refine wpAnyH_take (i:=0) (by simp only[List.getElem?_toArray,List.getElem?_cons_zero];rfl) (by kernel_rfl) (by kernel_rfl) (by kernel_rfl) (by exact fun _ _ _ h=>h) (Or.inl ⟨by rfl,by intro w' hSw;obtain⟨s1,s2⟩:=hSw;go_simp;first|done|with_reducible rfl⟩) (by assumption) ?_
     (try simp only[psm])
     refine wpAnyH_take (i:=1) (by simp only[gel];rfl) (by kernel_rfl) (by kernel_rfl) (by kernel_rfl) (by exact fun _ _ _ h=>h) (Or.inl ⟨by rfl,by intro w' hSw;obtain⟨s1,s2⟩:=hSw;go_simp;first|done|with_reducible rfl⟩) (by assumption) ?_
     (try simp only[psm])
     refine wpAnyH_take (i:=2) (by simp only[gel];rfl) (by kernel_rfl) (by kernel_rfl) (by kernel_rfl) (by exact fun _ _ _ h=>h) (Or.inl ⟨by rfl,by intro w' hSw;obtain⟨s1,s2⟩:=hSw;go_simp;first|done|with_reducible rfl⟩) (by assumption) ?_
     (try simp only[psm])
     refine wpAnyH_take (i:=3) (by simp only[gel];rfl) (by kernel_rfl) (by kernel_rfl) (by kernel_rfl) (by exact fun _ _ _ h=>h) (Or.inl ⟨by rfl,by intro w' hSw;obtain⟨s1,s2⟩:=hSw;go_simp;first|done|with_reducible rfl⟩) (by assumption) ?_
     (try simp only[psm])
     refine wpAnyH_take (i:=4) (by simp only[gel];rfl) (by kernel_rfl) (by kernel_rfl) (by kernel_rfl) (by exact fun _ _ _ h=>h) (Or.inl ⟨by rfl,by intro w' hSw;obtain⟨s1,s2⟩:=hSw;go_simp;first|done|with_reducible rfl⟩) (by assumption) ?_
     (try simp only[psm])
     refine wpAnyH_take (i:=5) (by simp only[gel];rfl) (by kernel_rfl) (by kernel_rfl) (by kernel_rfl) (by exact fun _ _ _ h=>h) (Or.inl ⟨by rfl,by intro w' hSw;obtain⟨s1,s2⟩:=hSw;go_simp;first|done|with_reducible rfl⟩) (by assumption) ?_
     (try simp only[psm])
     refine wpAnyH_take (i:=6) (by simp only[gel];rfl) (by kernel_rfl) (by kernel_rfl) (by kernel_rfl) (by exact fun _ _ _ h=>h) (Or.inl ⟨by rfl,by intro w' hSw;obtain⟨s1,s2⟩:=hSw;go_simp;first|done|with_reducible rfl⟩) (by assumption) ?_
     (try simp only[psm])
     refine wpAnyH_take (i:=7) (by simp only[gel];rfl) (by kernel_rfl) (by kernel_rfl) (by kernel_rfl) (by exact fun _ _ _ h=>h) (Or.inl ⟨by rfl,by intro w' hSw;obtain⟨s1,s2⟩:=hSw;go_simp;first|done|with_reducible rfl⟩) (by assumption) ?_
     (try simp only[psm])
     refine wpAnyH_take (i:=8) (by simp only[gel];rfl) (by kernel_rfl) (by kernel_rfl) (by kernel_rfl) (by exact fun _ _ _ h=>h) (Or.inl ⟨by rfl,by intro w' hSw;obtain⟨s1,s2⟩:=hSw;go_simp;first|done|with_reducible rfl⟩) (by assumption) ?_
     (try simp only[psm])
     refine wpAnyH_take (i:=9) (by simp only[gel];rfl) (by kernel_rfl) (by kernel_rfl) (by kernel_rfl) (by exact fun _ _ _ h=>h) (Or.inl ⟨by rfl,by intro w' hSw;obtain⟨s1,s2⟩:=hSw;go_simp;first|done|with_reducible rfl⟩) (by assumption) ?_
     (try simp only[psm])
     refine wpAnyH_ready (rs:=[10]) (by kernel_rfl) (by simp) ?_;refine AllReadyH.cons (o:=?oZ6) ?hiZ6 (fun K hK=>?_) AllReadyH.nil
     case hiZ6=>simp only[gel];rfl
     rw[if_pos (by rfl)];refine wp_store_mid 85 _ _ rfl (w.heap.size+1+1) 0 #[.string ((((⟨#[40]⟩:ByteArray)++X)++⟨#[124]⟩++Y)++⟨#[41]⟩),.int .i64 (e+1)] rfl rfl th YQ (by simp[Value.oneCell']) ?_;rw[List.toList_toArray,<-HF.out.1];refine hK.out _ _ hS5 (fun hHeld=>?_);clear hK K
     (try simp only[Act.put])
     refine wpAnyH_take (i:=11) (by simp only[gel];rfl) (by kernel_rfl) (by kernel_rfl) (by kernel_rfl) (by exact fun _ _ _ h=>h) (Or.inl ⟨by rfl,by intro w' hSw;obtain⟨s1,s2⟩:=hSw;go_simp;first|done|with_reducible rfl⟩) (by assumption) ?_
     (try simp only[psm])
     refine wpAnyH_done (by kernel_rfl) ?_ _;go_wp2_with fail;refine bodyPost_ret (v:=.tuple #[.agg #[.string ((((⟨#[40]⟩:ByteArray)++X)++⟨#[124]⟩++Y)++⟨#[41]⟩),.int .i64 (e+1)],.bool false]) (Ys Try.results37 rfl HF.out.2.2 rfl) rfl ⟨?_,HF.out.2.1⟩;rw[<-HZ.out,HL.out,HD.out];have hq:(decide (1+X.size+1+Y.size+1<=40)&&decide (e+1<=6))=false:=by first|(simp;omega)|(simp;intro;omega)|simp[h40]|(simp[h40];omega)
     rw[hq]
   ·have h40':¬(1:Int)+(X.size:Int)+1+(Y.size:Int)+1<=40:=by omega
    have hdec:decide ((1:Int)+(X.size:Int)+1+(Y.size:Int)+1<=40)=false:=by simp;omega
    go_enter Try.func37,Try.ntmps37;go_wp2_with fail;obtain⟨V1,hV1⟩:=nam (w.alloc (.cells #[.string X,.int .i64 d] 85));obtain⟨V2,hV2⟩:=nam (V1.alloc (.cells #[.string Y,.int .i64 e] 85));obtain⟨V3,hV3⟩:=nam (V2.alloc (.cells #[.string ⟨#[]⟩,.int .i64 0] 85));obtain⟨V4,hV4⟩:=nam (V3.alloc (.cells #[.string ((((⟨#[40]⟩:ByteArray)++X)++⟨#[124]⟩++Y)++⟨#[41]⟩),.int .i64 (e+1)] 85));rw[<-hV1,<-hV2,<-hV3,<-hV4];have s1:V1.heap.size=w.heap.size+1:=by rw[hV1];simp
    have s2:V2.heap.size=w.heap.size+1+1:=by rw[hV2];simp[s1]
    have s3:V3.heap.size=w.heap.size+1+1+1:=by rw[hV3];simp[s2]
    have B1:Below w.heap.size w V1:=by rw[hV1];exact box_bel _ _
    have B2:Below V1.heap.size V1 V2:=by rw[hV2];exact box_bel _ _
    have B3:Below V2.heap.size V2 V3:=by rw[hV3];exact box_bel _ _
    have B4:Below V3.heap.size V3 V4:=by rw[hV4];exact box_bel _ _
    have T3:TC (w.heap.size+1+1) [.string ⟨#[]⟩,.int .i64 0] V3:=by rw[<-s2,hV3];exact TC.boxed V2 _ _
    have T34:=T3.block (B4.block _ (by omega));have T4:TC (w.heap.size+1+1+1) [.string ((((⟨#[40]⟩:ByteArray)++X)++⟨#[124]⟩++Y)++⟨#[41]⟩),.int .i64 (e+1)] V4:=by rw[<-s3,hV4];exact TC.boxed V3 _ _
    have BX:Below w.heap.size w V4:=((B1.trans (B2.mono B1.size)).trans (B3.mono (by omega))).trans (B4.mono (by omega));have hS0:V4.drew.cell? ⟨w.heap.size+1+1+1,0,none⟩=some (.string ((((⟨#[40]⟩:ByteArray)++X)++⟨#[124]⟩++Y)++⟨#[41]⟩))/\V4.drew.cell? ⟨w.heap.size+1+1+1,1,none⟩=some (.int .i64 (e+1)):=⟨(T4 0 _ rfl).1,(T4 1 _ rfl).1⟩;have th:=T34.there;obtain⟨V5,hV5⟩:=nam (V4.drew.setCells (w.heap.size+1+1) 0 [.string ((((⟨#[40]⟩:ByteArray)++X)++⟨#[124]⟩++Y)++⟨#[41]⟩),.int .i64 (e+1)]);have hg5:=Y7 (w.heap.size+1+1) [.string ((((⟨#[40]⟩:ByteArray)++X)++⟨#[124]⟩++Y)++⟨#[41]⟩),.int .i64 (e+1)] 0 V4.drew;have hr5:=World.rangeAt_setCells_same V4.drew (w.heap.size+1+1) 0 [.string ((((⟨#[40]⟩:ByteArray)++X)++⟨#[124]⟩++Y)++⟨#[41]⟩),.int .i64 (e+1)] th;rw[<-hV5]at hg5 hr5;have B5:=(BX.drew).grown hg5 BX.size (fun q hq=>by cases hq;omega);have h8:V4.heap.size=w.heap.size+1+1+1+1:=by rw[hV4];simp[s3]
    have h9:w.heap.size+1+1+1<V4.drew.heap.size:=by show _<V4.heap.size;omega
    have hk5:∀o,V5.cell? ⟨w.heap.size+1+1+1,o,none⟩=V4.drew.cell? ⟨w.heap.size+1+1+1,o,none⟩:=fun o=>World.cell?_of_block (w:=V4.drew) (a:=⟨w.heap.size+1+1+1,o,none⟩) (hg5.block _ h9 (fun h=>by have h2:w.heap.size+1+1+1=w.heap.size+1+1:=Option.some.inj h;omega))
    have hS5:V5.cell? ⟨w.heap.size+1+1+1,0,none⟩=some (.string ((((⟨#[40]⟩:ByteArray)++X)++⟨#[124]⟩++Y)++⟨#[41]⟩))/\V5.cell? ⟨w.heap.size+1+1+1,1,none⟩=some (.int .i64 (e+1)):=by rw[hk5,hk5];exact hS0
    have hl5:(loadVar 85 ⟨w.heap.size+1+1,0,none⟩).run Try.prog V5=.ok (.agg #[.string ((((⟨#[40]⟩:ByteArray)++X)++⟨#[124]⟩++Y)++⟨#[41]⟩),.int .i64 (e+1)]) V5:=run_loadVar_mid (P:=Try.prog) V5 (w.heap.size+1+1) 0 85 [.string ((((⟨#[40]⟩:ByteArray)++X)++⟨#[124]⟩++Y)++⟨#[41]⟩),.int .i64 (e+1)] _ hr5 Try.underlying85 rfl YQ;have HF:=hyd3 hV5 B5 hl5;clear hV1 hV2 hV3 hV4 hV5 s1 s2 s3 B1 B2 B3 B4 T3 T34 T4 BX hg5 hr5 B5 hk5 hl5 h8 h9;refine wp_region_held_drew (S:=fun w'=>w'.cell? ⟨w.heap.size+1+1+1,0,none⟩=some (.string ((((⟨#[40]⟩:ByteArray)++X)++⟨#[124]⟩++Y)++⟨#[41]⟩))/\w'.cell? ⟨w.heap.size+1+1+1,1,none⟩=some (.int .i64 (e+1))) (by kernel_rfl) hS0 (fun hHeld=>?_);refine wpAnyH_take (i:=0) (by simp only[List.getElem?_toArray,List.getElem?_cons_zero];rfl) (by kernel_rfl) (by kernel_rfl) (by kernel_rfl) (by exact fun _ _ _ h=>h) (Or.inl ⟨by rfl,by intro w' hSw;obtain⟨s1,s2⟩:=hSw;go_simp;first|done|with_reducible rfl⟩) (by assumption) ?_
    (try simp only[psm])
    refine wpAnyH_take (i:=1) (by simp only[gel];rfl) (by kernel_rfl) (by kernel_rfl) (by kernel_rfl) (by exact fun _ _ _ h=>h) (Or.inl ⟨by rfl,by intro w' hSw;obtain⟨s1,s2⟩:=hSw;go_simp;first|done|with_reducible rfl⟩) (by assumption) ?_
    (try simp only[psm])
    refine wpAnyH_take (i:=2) (by simp only[gel];rfl) (by kernel_rfl) (by kernel_rfl) (by kernel_rfl) (by exact fun _ _ _ h=>h) (Or.inl ⟨by rfl,by intro w' hSw;obtain⟨s1,s2⟩:=hSw;go_simp;first|done|with_reducible rfl⟩) (by assumption) ?_
    (try simp only[psm])
    refine wpAnyH_take (i:=3) (by simp only[gel];rfl) (by kernel_rfl) (by kernel_rfl) (by kernel_rfl) (by exact fun _ _ _ h=>h) (Or.inl ⟨by rfl,by intro w' hSw;obtain⟨s1,s2⟩:=hSw;go_simp;first|done|with_reducible rfl⟩) (by assumption) ?_
    (try simp only[psm])
    refine wpAnyH_take (i:=4) (by simp only[gel];rfl) (by kernel_rfl) (by kernel_rfl) (by kernel_rfl) (by exact fun _ _ _ h=>h) (Or.inl ⟨by rfl,by intro w' hSw;obtain⟨s1,s2⟩:=hSw;go_simp;first|done|with_reducible rfl⟩) (by assumption) ?_
    (try simp only[psm])
    refine wpAnyH_take (i:=5) (by simp only[gel];rfl) (by kernel_rfl) (by kernel_rfl) (by kernel_rfl) (by exact fun _ _ _ h=>h) (Or.inl ⟨by rfl,by intro w' hSw;obtain⟨s1,s2⟩:=hSw;go_simp;first|done|with_reducible rfl⟩) (by assumption) ?_
    (try simp only[psm])
    refine wpAnyH_take (i:=6) (v:=undef) (by simp only[gel];rfl) (by kernel_rfl) (by kernel_rfl) (by kernel_rfl) (by exact fun _ _ _ h=>h) (Or.inr ⟨by rfl,rfl⟩) (by assumption) ?_
    (try simp only[psm])
    refine wpAnyH_take (i:=7) (v:=undef) (by simp only[gel];rfl) (by kernel_rfl) (by kernel_rfl) (by kernel_rfl) (by exact fun _ _ _ h=>h) (Or.inr ⟨by rfl,rfl⟩) (by assumption) ?_
    (try simp only[psm])
    refine wpAnyH_take (i:=8) (v:=undef) (by simp only[gel];rfl) (by kernel_rfl) (by kernel_rfl) (by kernel_rfl) (by exact fun _ _ _ h=>h) (Or.inr ⟨by rfl,rfl⟩) (by assumption) ?_
    (try simp only[psm])
    refine wpAnyH_take (i:=9) (by simp only[gel];rfl) (by kernel_rfl) (by kernel_rfl) (by kernel_rfl) (by exact fun _ _ _ h=>h) (Or.inl ⟨by rfl,by intro w' hSw;obtain⟨s1,s2⟩:=hSw;go_simp;first|done|with_reducible rfl⟩) (by assumption) ?_
    (try simp only[psm])
    refine wpAnyH_ready (rs:=[10]) (by kernel_rfl) (by simp) ?_;refine AllReadyH.cons (o:=?oZ7) ?hiZ7 (fun K hK=>?_) AllReadyH.nil
    case hiZ7=>simp only[gel];rfl
    rw[if_pos (by rfl)];refine wp_store_mid 85 _ _ rfl (w.heap.size+1+1) 0 #[.string ((((⟨#[40]⟩:ByteArray)++X)++⟨#[124]⟩++Y)++⟨#[41]⟩),.int .i64 (e+1)] rfl rfl th YQ (by simp[Value.oneCell']) ?_;rw[List.toList_toArray,<-HF.out.1];refine hK.out _ _ hS5 (fun hHeld=>?_);clear hK K
    (try simp only[Act.put])
    refine wpAnyH_take (i:=11) (by simp only[gel];rfl) (by kernel_rfl) (by kernel_rfl) (by kernel_rfl) (by exact fun _ _ _ h=>h) (Or.inl ⟨by rfl,by intro w' hSw;obtain⟨s1,s2⟩:=hSw;go_simp;first|done|with_reducible rfl⟩) (by assumption) ?_
    (try simp only[psm])
    refine wpAnyH_done (by kernel_rfl) ?_ _;go_wp2_with fail;refine bodyPost_ret (v:=.tuple #[.agg #[.string ((((⟨#[40]⟩:ByteArray)++X)++⟨#[124]⟩++Y)++⟨#[41]⟩),.int .i64 (e+1)],.bool false]) (Ys Try.results37 rfl HF.out.2.2 rfl) rfl ⟨?_,HF.out.2.1⟩;rw[<-HZ.out,HL.out,HD.out];have hq:(decide (1+X.size+1+Y.size+1<=40)&&decide (e+1<=6))=false:=by first|(simp;omega)|(simp;intro;omega)|simp[h40]|(simp[h40];omega)
    rw[hq]
  ·have HD:Hid (Wh d e true=d+1):=by show _=_;simp[Wh,hde]
   clear zx zy hX hY;by_cases h40:1+X.size+1+Y.size+1<=40
   ·have h40':(1:Int)+(X.size:Int)+1+(Y.size:Int)+1<=40:=by omega
    by_cases h6:d+1<=6
    ·have h6':d+1<=6:=by omega
     go_enter Try.func37,Try.ntmps37;go_wp2_with fail;obtain⟨V1,hV1⟩:=nam (w.alloc (.cells #[.string X,.int .i64 d] 85));obtain⟨V2,hV2⟩:=nam (V1.alloc (.cells #[.string Y,.int .i64 e] 85));obtain⟨V3,hV3⟩:=nam (V2.alloc (.cells #[.string ⟨#[]⟩,.int .i64 0] 85));obtain⟨V4,hV4⟩:=nam (V3.alloc (.cells #[.string ((((⟨#[40]⟩:ByteArray)++X)++⟨#[124]⟩++Y)++⟨#[41]⟩),.int .i64 (d+1)] 85));rw[<-hV1,<-hV2,<-hV3,<-hV4];have s1:V1.heap.size=w.heap.size+1:=by rw[hV1];simp
     have s2:V2.heap.size=w.heap.size+1+1:=by rw[hV2];simp[s1]
     have s3:V3.heap.size=w.heap.size+1+1+1:=by rw[hV3];simp[s2]
     have B1:Below w.heap.size w V1:=by rw[hV1];exact box_bel _ _
     have B2:Below V1.heap.size V1 V2:=by rw[hV2];exact box_bel _ _
     have B3:Below V2.heap.size V2 V3:=by rw[hV3];exact box_bel _ _
     have B4:Below V3.heap.size V3 V4:=by rw[hV4];exact box_bel _ _
     have T3:TC (w.heap.size+1+1) [.string ⟨#[]⟩,.int .i64 0] V3:=by rw[<-s2,hV3];exact TC.boxed V2 _ _
     have T34:=T3.block (B4.block _ (by omega));have T4:TC (w.heap.size+1+1+1) [.string ((((⟨#[40]⟩:ByteArray)++X)++⟨#[124]⟩++Y)++⟨#[41]⟩),.int .i64 (d+1)] V4:=by rw[<-s3,hV4];exact TC.boxed V3 _ _
     have BX:Below w.heap.size w V4:=((B1.trans (B2.mono B1.size)).trans (B3.mono (by omega))).trans (B4.mono (by omega));have hS0:V4.drew.cell? ⟨w.heap.size+1+1+1,0,none⟩=some (.string ((((⟨#[40]⟩:ByteArray)++X)++⟨#[124]⟩++Y)++⟨#[41]⟩))/\V4.drew.cell? ⟨w.heap.size+1+1+1,1,none⟩=some (.int .i64 (d+1)):=⟨(T4 0 _ rfl).1,(T4 1 _ rfl).1⟩;have th:=T34.there;obtain⟨V5,hV5⟩:=nam (V4.drew.setCells (w.heap.size+1+1) 0 [.string ((((⟨#[40]⟩:ByteArray)++X)++⟨#[124]⟩++Y)++⟨#[41]⟩),.int .i64 (d+1)]);have hg5:=Y7 (w.heap.size+1+1) [.string ((((⟨#[40]⟩:ByteArray)++X)++⟨#[124]⟩++Y)++⟨#[41]⟩),.int .i64 (d+1)] 0 V4.drew;have hr5:=World.rangeAt_setCells_same V4.drew (w.heap.size+1+1) 0 [.string ((((⟨#[40]⟩:ByteArray)++X)++⟨#[124]⟩++Y)++⟨#[41]⟩),.int .i64 (d+1)] th;rw[<-hV5]at hg5 hr5;have B5:=(BX.drew).grown hg5 BX.size (fun q hq=>by cases hq;omega);have h8:V4.heap.size=w.heap.size+1+1+1+1:=by rw[hV4];simp[s3]
     have h9:w.heap.size+1+1+1<V4.drew.heap.size:=by show _<V4.heap.size;omega
     have hk5:∀o,V5.cell? ⟨w.heap.size+1+1+1,o,none⟩=V4.drew.cell? ⟨w.heap.size+1+1+1,o,none⟩:=fun o=>World.cell?_of_block (w:=V4.drew) (a:=⟨w.heap.size+1+1+1,o,none⟩) (hg5.block _ h9 (fun h=>by have h2:w.heap.size+1+1+1=w.heap.size+1+1:=Option.some.inj h;omega))
     have hS5:V5.cell? ⟨w.heap.size+1+1+1,0,none⟩=some (.string ((((⟨#[40]⟩:ByteArray)++X)++⟨#[124]⟩++Y)++⟨#[41]⟩))/\V5.cell? ⟨w.heap.size+1+1+1,1,none⟩=some (.int .i64 (d+1)):=by rw[hk5,hk5];exact hS0
     have hl5:(loadVar 85 ⟨w.heap.size+1+1,0,none⟩).run Try.prog V5=.ok (.agg #[.string ((((⟨#[40]⟩:ByteArray)++X)++⟨#[124]⟩++Y)++⟨#[41]⟩),.int .i64 (d+1)]) V5:=run_loadVar_mid (P:=Try.prog) V5 (w.heap.size+1+1) 0 85 [.string ((((⟨#[40]⟩:ByteArray)++X)++⟨#[124]⟩++Y)++⟨#[41]⟩),.int .i64 (d+1)] _ hr5 Try.underlying85 rfl YQ;have HF:=hyd3 hV5 B5 hl5;clear hV1 hV2 hV3 hV4 hV5 s1 s2 s3 B1 B2 B3 B4 T3 T34 T4 BX hg5 hr5 B5 hk5 hl5 h8 h9;refine wp_region_held_drew (S:=fun w'=>w'.cell? ⟨w.heap.size+1+1+1,0,none⟩=some (.string ((((⟨#[40]⟩:ByteArray)++X)++⟨#[124]⟩++Y)++⟨#[41]⟩))/\w'.cell? ⟨w.heap.size+1+1+1,1,none⟩=some (.int .i64 (d+1))) (by kernel_rfl) hS0 (fun hHeld=>?_);refine wpAnyH_take (i:=0) (by simp only[List.getElem?_toArray,List.getElem?_cons_zero];rfl) (by kernel_rfl) (by kernel_rfl) (by kernel_rfl) (by exact fun _ _ _ h=>h) (Or.inl ⟨by rfl,by intro w' hSw;obtain⟨s1,s2⟩:=hSw;go_simp;first|done|with_reducible rfl⟩) (by assumption) ?_
     (try simp only[psm])
     refine wpAnyH_take (i:=1) (by simp only[gel];rfl) (by kernel_rfl) (by kernel_rfl) (by kernel_rfl) (by exact fun _ _ _ h=>h) (Or.inl ⟨by rfl,by intro w' hSw;obtain⟨s1,s2⟩:=hSw;go_simp;first|done|with_reducible rfl⟩) (by assumption) ?_
     (try simp only[psm])
     refine wpAnyH_take (i:=2) (by simp only[gel];rfl) (by kernel_rfl) (by kernel_rfl) (by kernel_rfl) (by exact fun _ _ _ h=>h) (Or.inl ⟨by rfl,by intro w' hSw;obtain⟨s1,s2⟩:=hSw;go_simp;first|done|with_reducible rfl⟩) (by assumption) ?_
     (try simp only[psm])
     refine wpAnyH_take (i:=3) (by simp only[gel];rfl) (by kernel_rfl) (by kernel_rfl) (by kernel_rfl) (by exact fun _ _ _ h=>h) (Or.inl ⟨by rfl,by intro w' hSw;obtain⟨s1,s2⟩:=hSw;go_simp;first|done|with_reducible rfl⟩) (by assumption) ?_
     (try simp only[psm])
     refine wpAnyH_take (i:=4) (by simp only[gel];rfl) (by kernel_rfl) (by kernel_rfl) (by kernel_rfl) (by exact fun _ _ _ h=>h) (Or.inl ⟨by rfl,by intro w' hSw;obtain⟨s1,s2⟩:=hSw;go_simp;first|done|with_reducible rfl⟩) (by assumption) ?_
     (try simp only[psm])
     refine wpAnyH_take (i:=5) (by simp only[gel];rfl) (by kernel_rfl) (by kernel_rfl) (by kernel_rfl) (by exact fun _ _ _ h=>h) (Or.inl ⟨by rfl,by intro w' hSw;obtain⟨s1,s2⟩:=hSw;go_simp;first|done|with_reducible rfl⟩) (by assumption) ?_
     (try simp only[psm])
     refine wpAnyH_take (i:=6) (by simp only[gel];rfl) (by kernel_rfl) (by kernel_rfl) (by kernel_rfl) (by exact fun _ _ _ h=>h) (Or.inl ⟨by rfl,by intro w' hSw;obtain⟨s1,s2⟩:=hSw;go_simp;first|done|with_reducible rfl⟩) (by assumption) ?_
     (try simp only[psm])
     refine wpAnyH_take (i:=7) (by simp only[gel];rfl) (by kernel_rfl) (by kernel_rfl) (by kernel_rfl) (by exact fun _ _ _ h=>h) (Or.inl ⟨by rfl,by intro w' hSw;obtain⟨s1,s2⟩:=hSw;go_simp;first|done|with_reducible rfl⟩) (by assumption) ?_
     (try simp only[psm])
     refine wpAnyH_take (i:=8) (by simp only[gel];rfl) (by kernel_rfl) (by kernel_rfl) (by kernel_rfl) (by exact fun _ _ _ h=>h) (Or.inl ⟨by rfl,by intro w' hSw;obtain⟨s1,s2⟩:=hSw;go_simp;first|done|with_reducible rfl⟩) (by assumption) ?_
     (try simp only[psm])
     refine wpAnyH_take (i:=9) (by simp only[gel];rfl) (by kernel_rfl) (by kernel_rfl) (by kernel_rfl) (by exact fun _ _ _ h=>h) (Or.inl ⟨by rfl,by intro w' hSw;obtain⟨s1,s2⟩:=hSw;go_simp;first|done|with_reducible rfl⟩) (by assumption) ?_
     (try simp only[psm])
     refine wpAnyH_ready (rs:=[10]) (by kernel_rfl) (by simp) ?_;refine AllReadyH.cons (o:=?oZ8) ?hiZ8 (fun K hK=>?_) AllReadyH.nil
     case hiZ8=>simp only[gel];rfl
     rw[if_pos (by rfl)];refine wp_store_mid 85 _ _ rfl (w.heap.size+1+1) 0 #[.string ((((⟨#[40]⟩:ByteArray)++X)++⟨#[124]⟩++Y)++⟨#[41]⟩),.int .i64 (d+1)] rfl rfl th YQ (by simp[Value.oneCell']) ?_;rw[List.toList_toArray,<-HF.out.1];refine hK.out _ _ hS5 (fun hHeld=>?_);clear hK K
     (try simp only[Act.put])
     refine wpAnyH_take (i:=11) (by simp only[gel];rfl) (by kernel_rfl) (by kernel_rfl) (by kernel_rfl) (by exact fun _ _ _ h=>h) (Or.inl ⟨by rfl,by intro w' hSw;obtain⟨s1,s2⟩:=hSw;go_simp;first|done|with_reducible rfl⟩) (by assumption) ?_
     (try simp only[psm])
     refine wpAnyH_done (by kernel_rfl) ?_ _;go_wp2_with fail;refine bodyPost_ret (v:=.tuple #[.agg #[.string ((((⟨#[40]⟩:ByteArray)++X)++⟨#[124]⟩++Y)++⟨#[41]⟩),.int .i64 (d+1)],.bool true]) (Ys Try.results37 rfl HF.out.2.2 rfl) rfl ⟨?_,HF.out.2.1⟩;rw[<-HZ.out,HL.out,HD.out];have hq:(decide (1+X.size+1+Y.size+1<=40)&&decide (d+1<=6))=true:=by first|(simp;omega)|(simp;intro;omega)|simp[h40]|(simp[h40];omega)
     rw[hq]
    ·have h6':¬d+1<=6:=by omega
     have hdec:decide (d+1<=6)=false:=by simp;omega
     go_enter Try.func37,Try.ntmps37;go_wp2_with fail;obtain⟨V1,hV1⟩:=nam (w.alloc (.cells #[.string X,.int .i64 d] 85));obtain⟨V2,hV2⟩:=nam (V1.alloc (.cells #[.string Y,.int .i64 e] 85));obtain⟨V3,hV3⟩:=nam (V2.alloc (.cells #[.string ⟨#[]⟩,.int .i64 0] 85));obtain⟨V4,hV4⟩:=nam (V3.alloc (.cells #[.string ((((⟨#[40]⟩:ByteArray)++X)++⟨#[124]⟩++Y)++⟨#[41]⟩),.int .i64 (d+1)] 85));rw[<-hV1,<-hV2,<-hV3,<-hV4];have s1:V1.heap.size=w.heap.size+1:=by rw[hV1];simp
     have s2:V2.heap.size=w.heap.size+1+1:=by rw[hV2];simp[s1]
     have s3:V3.heap.size=w.heap.size+1+1+1:=by rw[hV3];simp[s2]
     have B1:Below w.heap.size w V1:=by rw[hV1];exact box_bel _ _
     have B2:Below V1.heap.size V1 V2:=by rw[hV2];exact box_bel _ _
     have B3:Below V2.heap.size V2 V3:=by rw[hV3];exact box_bel _ _
     have B4:Below V3.heap.size V3 V4:=by rw[hV4];exact box_bel _ _
     have T3:TC (w.heap.size+1+1) [.string ⟨#[]⟩,.int .i64 0] V3:=by rw[<-s2,hV3];exact TC.boxed V2 _ _
     have T34:=T3.block (B4.block _ (by omega));have T4:TC (w.heap.size+1+1+1) [.string ((((⟨#[40]⟩:ByteArray)++X)++⟨#[124]⟩++Y)++⟨#[41]⟩),.int .i64 (d+1)] V4:=by rw[<-s3,hV4];exact TC.boxed V3 _ _
     have BX:Below w.heap.size w V4:=((B1.trans (B2.mono B1.size)).trans (B3.mono (by omega))).trans (B4.mono (by omega));have hS0:V4.drew.cell? ⟨w.heap.size+1+1+1,0,none⟩=some (.string ((((⟨#[40]⟩:ByteArray)++X)++⟨#[124]⟩++Y)++⟨#[41]⟩))/\V4.drew.cell? ⟨w.heap.size+1+1+1,1,none⟩=some (.int .i64 (d+1)):=⟨(T4 0 _ rfl).1,(T4 1 _ rfl).1⟩;have th:=T34.there;obtain⟨V5,hV5⟩:=nam (V4.drew.setCells (w.heap.size+1+1) 0 [.string ((((⟨#[40]⟩:ByteArray)++X)++⟨#[124]⟩++Y)++⟨#[41]⟩),.int .i64 (d+1)]);have hg5:=Y7 (w.heap.size+1+1) [.string ((((⟨#[40]⟩:ByteArray)++X)++⟨#[124]⟩++Y)++⟨#[41]⟩),.int .i64 (d+1)] 0 V4.drew;have hr5:=World.rangeAt_setCells_same V4.drew (w.heap.size+1+1) 0 [.string ((((⟨#[40]⟩:ByteArray)++X)++⟨#[124]⟩++Y)++⟨#[41]⟩),.int .i64 (d+1)] th;rw[<-hV5]at hg5 hr5;have B5:=(BX.drew).grown hg5 BX.size (fun q hq=>by cases hq;omega);have h8:V4.heap.size=w.heap.size+1+1+1+1:=by rw[hV4];simp[s3]
     have h9:w.heap.size+1+1+1<V4.drew.heap.size:=by show _<V4.heap.size;omega
     have hk5:∀o,V5.cell? ⟨w.heap.size+1+1+1,o,none⟩=V4.drew.cell? ⟨w.heap.size+1+1+1,o,none⟩:=fun o=>World.cell?_of_block (w:=V4.drew) (a:=⟨w.heap.size+1+1+1,o,none⟩) (hg5.block _ h9 (fun h=>by have h2:w.heap.size+1+1+1=w.heap.size+1+1:=Option.some.inj h;omega))
     have hS5:V5.cell? ⟨w.heap.size+1+1+1,0,none⟩=some (.string ((((⟨#[40]⟩:ByteArray)++X)++⟨#[124]⟩++Y)++⟨#[41]⟩))/\V5.cell? ⟨w.heap.size+1+1+1,1,none⟩=some (.int .i64 (d+1)):=by rw[hk5,hk5];exact hS0
     have hl5:(loadVar 85 ⟨w.heap.size+1+1,0,none⟩).run Try.prog V5=.ok (.agg #[.string ((((⟨#[40]⟩:ByteArray)++X)++⟨#[124]⟩++Y)++⟨#[41]⟩),.int .i64 (d+1)]) V5:=run_loadVar_mid (P:=Try.prog) V5 (w.heap.size+1+1) 0 85 [.string ((((⟨#[40]⟩:ByteArray)++X)++⟨#[124]⟩++Y)++⟨#[41]⟩),.int .i64 (d+1)] _ hr5 Try.underlying85 rfl YQ;have HF:=hyd3 hV5 B5 hl5;clear hV1 hV2 hV3 hV4 hV5 s1 s2 s3 B1 B2 B3 B4 T3 T34 T4 BX hg5 hr5 B5 hk5 hl5 h8 h9;refine wp_region_held_drew (S:=fun w'=>w'.cell? ⟨w.heap.size+1+1+1,0,none⟩=some (.string ((((⟨#[40]⟩:ByteArray)++X)++⟨#[124]⟩++Y)++⟨#[41]⟩))/\w'.cell? ⟨w.heap.size+1+1+1,1,none⟩=some (.int .i64 (d+1))) (by kernel_rfl) hS0 (fun hHeld=>?_);refine wpAnyH_take (i:=0) (by simp only[List.getElem?_toArray,List.getElem?_cons_zero];rfl) (by kernel_rfl) (by kernel_rfl) (by kernel_rfl) (by exact fun _ _ _ h=>h) (Or.inl ⟨by rfl,by intro w' hSw;obtain⟨s1,s2⟩:=hSw;go_simp;first|done|with_reducible rfl⟩) (by assumption) ?_
     (try simp only[psm])
     refine wpAnyH_take (i:=1) (by simp only[gel];rfl) (by kernel_rfl) (by kernel_rfl) (by kernel_rfl) (by exact fun _ _ _ h=>h) (Or.inl ⟨by rfl,by intro w' hSw;obtain⟨s1,s2⟩:=hSw;go_simp;first|done|with_reducible rfl⟩) (by assumption) ?_
     (try simp only[psm])
     refine wpAnyH_take (i:=2) (by simp only[gel];rfl) (by kernel_rfl) (by kernel_rfl) (by kernel_rfl) (by exact fun _ _ _ h=>h) (Or.inl ⟨by rfl,by intro w' hSw;obtain⟨s1,s2⟩:=hSw;go_simp;first|done|with_reducible rfl⟩) (by assumption) ?_
     (try simp only[psm])
     refine wpAnyH_take (i:=3) (by simp only[gel];rfl) (by kernel_rfl) (by kernel_rfl) (by kernel_rfl) (by exact fun _ _ _ h=>h) (Or.inl ⟨by rfl,by intro w' hSw;obtain⟨s1,s2⟩:=hSw;go_simp;first|done|with_reducible rfl⟩) (by assumption) ?_
     (try simp only[psm])
     refine wpAnyH_take (i:=4) (by simp only[gel];rfl) (by kernel_rfl) (by kernel_rfl) (by kernel_rfl) (by exact fun _ _ _ h=>h) (Or.inl ⟨by rfl,by intro w' hSw;obtain⟨s1,s2⟩:=hSw;go_simp;first|done|with_reducible rfl⟩) (by assumption) ?_
     (try simp only[psm])
     refine wpAnyH_take (i:=5) (by simp only[gel];rfl) (by kernel_rfl) (by kernel_rfl) (by kernel_rfl) (by exact fun _ _ _ h=>h) (Or.inl ⟨by rfl,by intro w' hSw;obtain⟨s1,s2⟩:=hSw;go_simp;first|done|with_reducible rfl⟩) (by assumption) ?_
     (try simp only[psm])
     refine wpAnyH_take (i:=6) (by simp only[gel];rfl) (by kernel_rfl) (by kernel_rfl) (by kernel_rfl) (by exact fun _ _ _ h=>h) (Or.inl ⟨by rfl,by intro w' hSw;obtain⟨s1,s2⟩:=hSw;go_simp;first|done|with_reducible rfl⟩) (by assumption) ?_
     (try simp only[psm])
     refine wpAnyH_take (i:=7) (by simp only[gel];rfl) (by kernel_rfl) (by kernel_rfl) (by kernel_rfl) (by exact fun _ _ _ h=>h) (Or.inl ⟨by rfl,by intro w' hSw;obtain⟨s1,s2⟩:=hSw;go_simp;first|done|with_reducible rfl⟩) (by assumption) ?_
     (try simp only[psm])
     refine wpAnyH_take (i:=8) (by simp only[gel];rfl) (by kernel_rfl) (by kernel_rfl) (by kernel_rfl) (by exact fun _ _ _ h=>h) (Or.inl ⟨by rfl,by intro w' hSw;obtain⟨s1,s2⟩:=hSw;go_simp;first|done|with_reducible rfl⟩) (by assumption) ?_
     (try simp only[psm])
     refine wpAnyH_take (i:=9) (by simp only[gel];rfl) (by kernel_rfl) (by kernel_rfl) (by kernel_rfl) (by exact fun _ _ _ h=>h) (Or.inl ⟨by rfl,by intro w' hSw;obtain⟨s1,s2⟩:=hSw;go_simp;first|done|with_reducible rfl⟩) (by assumption) ?_
     (try simp only[psm])
     refine wpAnyH_ready (rs:=[10]) (by kernel_rfl) (by simp) ?_;refine AllReadyH.cons (o:=?oZ9) ?hiZ9 (fun K hK=>?_) AllReadyH.nil
     case hiZ9=>simp only[gel];rfl
     rw[if_pos (by rfl)];refine wp_store_mid 85 _ _ rfl (w.heap.size+1+1) 0 #[.string ((((⟨#[40]⟩:ByteArray)++X)++⟨#[124]⟩++Y)++⟨#[41]⟩),.int .i64 (d+1)] rfl rfl th YQ (by simp[Value.oneCell']) ?_;rw[List.toList_toArray,<-HF.out.1];refine hK.out _ _ hS5 (fun hHeld=>?_);clear hK K
     (try simp only[Act.put])
     refine wpAnyH_take (i:=11) (by simp only[gel];rfl) (by kernel_rfl) (by kernel_rfl) (by kernel_rfl) (by exact fun _ _ _ h=>h) (Or.inl ⟨by rfl,by intro w' hSw;obtain⟨s1,s2⟩:=hSw;go_simp;first|done|with_reducible rfl⟩) (by assumption) ?_
     (try simp only[psm])
     refine wpAnyH_done (by kernel_rfl) ?_ _;go_wp2_with fail;refine bodyPost_ret (v:=.tuple #[.agg #[.string ((((⟨#[40]⟩:ByteArray)++X)++⟨#[124]⟩++Y)++⟨#[41]⟩),.int .i64 (d+1)],.bool false]) (Ys Try.results37 rfl HF.out.2.2 rfl) rfl ⟨?_,HF.out.2.1⟩;rw[<-HZ.out,HL.out,HD.out];have hq:(decide (1+X.size+1+Y.size+1<=40)&&decide (d+1<=6))=false:=by first|(simp;omega)|(simp;intro;omega)|simp[h40]|(simp[h40];omega)
     rw[hq]
   ·have h40':¬(1:Int)+(X.size:Int)+1+(Y.size:Int)+1<=40:=by omega
    have hdec:decide ((1:Int)+(X.size:Int)+1+(Y.size:Int)+1<=40)=false:=by simp;omega
    go_enter Try.func37,Try.ntmps37;go_wp2_with fail;obtain⟨V1,hV1⟩:=nam (w.alloc (.cells #[.string X,.int .i64 d] 85));obtain⟨V2,hV2⟩:=nam (V1.alloc (.cells #[.string Y,.int .i64 e] 85));obtain⟨V3,hV3⟩:=nam (V2.alloc (.cells #[.string ⟨#[]⟩,.int .i64 0] 85));obtain⟨V4,hV4⟩:=nam (V3.alloc (.cells #[.string ((((⟨#[40]⟩:ByteArray)++X)++⟨#[124]⟩++Y)++⟨#[41]⟩),.int .i64 (d+1)] 85));rw[<-hV1,<-hV2,<-hV3,<-hV4];have s1:V1.heap.size=w.heap.size+1:=by rw[hV1];simp
    have s2:V2.heap.size=w.heap.size+1+1:=by rw[hV2];simp[s1]
    have s3:V3.heap.size=w.heap.size+1+1+1:=by rw[hV3];simp[s2]
    have B1:Below w.heap.size w V1:=by rw[hV1];exact box_bel _ _
    have B2:Below V1.heap.size V1 V2:=by rw[hV2];exact box_bel _ _
    have B3:Below V2.heap.size V2 V3:=by rw[hV3];exact box_bel _ _
    have B4:Below V3.heap.size V3 V4:=by rw[hV4];exact box_bel _ _
    have T3:TC (w.heap.size+1+1) [.string ⟨#[]⟩,.int .i64 0] V3:=by rw[<-s2,hV3];exact TC.boxed V2 _ _
    have T34:=T3.block (B4.block _ (by omega));have T4:TC (w.heap.size+1+1+1) [.string ((((⟨#[40]⟩:ByteArray)++X)++⟨#[124]⟩++Y)++⟨#[41]⟩),.int .i64 (d+1)] V4:=by rw[<-s3,hV4];exact TC.boxed V3 _ _
    have BX:Below w.heap.size w V4:=((B1.trans (B2.mono B1.size)).trans (B3.mono (by omega))).trans (B4.mono (by omega));have hS0:V4.drew.cell? ⟨w.heap.size+1+1+1,0,none⟩=some (.string ((((⟨#[40]⟩:ByteArray)++X)++⟨#[124]⟩++Y)++⟨#[41]⟩))/\V4.drew.cell? ⟨w.heap.size+1+1+1,1,none⟩=some (.int .i64 (d+1)):=⟨(T4 0 _ rfl).1,(T4 1 _ rfl).1⟩;have th:=T34.there;obtain⟨V5,hV5⟩:=nam (V4.drew.setCells (w.heap.size+1+1) 0 [.string ((((⟨#[40]⟩:ByteArray)++X)++⟨#[124]⟩++Y)++⟨#[41]⟩),.int .i64 (d+1)]);have hg5:=Y7 (w.heap.size+1+1) [.string ((((⟨#[40]⟩:ByteArray)++X)++⟨#[124]⟩++Y)++⟨#[41]⟩),.int .i64 (d+1)] 0 V4.drew;have hr5:=World.rangeAt_setCells_same V4.drew (w.heap.size+1+1) 0 [.string ((((⟨#[40]⟩:ByteArray)++X)++⟨#[124]⟩++Y)++⟨#[41]⟩),.int .i64 (d+1)] th;rw[<-hV5]at hg5 hr5;have B5:=(BX.drew).grown hg5 BX.size (fun q hq=>by cases hq;omega);have h8:V4.heap.size=w.heap.size+1+1+1+1:=by rw[hV4];simp[s3]
    have h9:w.heap.size+1+1+1<V4.drew.heap.size:=by show _<V4.heap.size;omega
    have hk5:∀o,V5.cell? ⟨w.heap.size+1+1+1,o,none⟩=V4.drew.cell? ⟨w.heap.size+1+1+1,o,none⟩:=fun o=>World.cell?_of_block (w:=V4.drew) (a:=⟨w.heap.size+1+1+1,o,none⟩) (hg5.block _ h9 (fun h=>by have h2:w.heap.size+1+1+1=w.heap.size+1+1:=Option.some.inj h;omega))
    have hS5:V5.cell? ⟨w.heap.size+1+1+1,0,none⟩=some (.string ((((⟨#[40]⟩:ByteArray)++X)++⟨#[124]⟩++Y)++⟨#[41]⟩))/\V5.cell? ⟨w.heap.size+1+1+1,1,none⟩=some (.int .i64 (d+1)):=by rw[hk5,hk5];exact hS0
    have hl5:(loadVar 85 ⟨w.heap.size+1+1,0,none⟩).run Try.prog V5=.ok (.agg #[.string ((((⟨#[40]⟩:ByteArray)++X)++⟨#[124]⟩++Y)++⟨#[41]⟩),.int .i64 (d+1)]) V5:=run_loadVar_mid (P:=Try.prog) V5 (w.heap.size+1+1) 0 85 [.string ((((⟨#[40]⟩:ByteArray)++X)++⟨#[124]⟩++Y)++⟨#[41]⟩),.int .i64 (d+1)] _ hr5 Try.underlying85 rfl YQ;have HF:=hyd3 hV5 B5 hl5;clear hV1 hV2 hV3 hV4 hV5 s1 s2 s3 B1 B2 B3 B4 T3 T34 T4 BX hg5 hr5 B5 hk5 hl5 h8 h9;refine wp_region_held_drew (S:=fun w'=>w'.cell? ⟨w.heap.size+1+1+1,0,none⟩=some (.string ((((⟨#[40]⟩:ByteArray)++X)++⟨#[124]⟩++Y)++⟨#[41]⟩))/\w'.cell? ⟨w.heap.size+1+1+1,1,none⟩=some (.int .i64 (d+1))) (by kernel_rfl) hS0 (fun hHeld=>?_);refine wpAnyH_take (i:=0) (by simp only[List.getElem?_toArray,List.getElem?_cons_zero];rfl) (by kernel_rfl) (by kernel_rfl) (by kernel_rfl) (by exact fun _ _ _ h=>h) (Or.inl ⟨by rfl,by intro w' hSw;obtain⟨s1,s2⟩:=hSw;go_simp;first|done|with_reducible rfl⟩) (by assumption) ?_
    (try simp only[psm])
    refine wpAnyH_take (i:=1) (by simp only[gel];rfl) (by kernel_rfl) (by kernel_rfl) (by kernel_rfl) (by exact fun _ _ _ h=>h) (Or.inl ⟨by rfl,by intro w' hSw;obtain⟨s1,s2⟩:=hSw;go_simp;first|done|with_reducible rfl⟩) (by assumption) ?_
    (try simp only[psm])
    refine wpAnyH_take (i:=2) (by simp only[gel];rfl) (by kernel_rfl) (by kernel_rfl) (by kernel_rfl) (by exact fun _ _ _ h=>h) (Or.inl ⟨by rfl,by intro w' hSw;obtain⟨s1,s2⟩:=hSw;go_simp;first|done|with_reducible rfl⟩) (by assumption) ?_
    (try simp only[psm])
    refine wpAnyH_take (i:=3) (by simp only[gel];rfl) (by kernel_rfl) (by kernel_rfl) (by kernel_rfl) (by exact fun _ _ _ h=>h) (Or.inl ⟨by rfl,by intro w' hSw;obtain⟨s1,s2⟩:=hSw;go_simp;first|done|with_reducible rfl⟩) (by assumption) ?_
    (try simp only[psm])
    refine wpAnyH_take (i:=4) (by simp only[gel];rfl) (by kernel_rfl) (by kernel_rfl) (by kernel_rfl) (by exact fun _ _ _ h=>h) (Or.inl ⟨by rfl,by intro w' hSw;obtain⟨s1,s2⟩:=hSw;go_simp;first|done|with_reducible rfl⟩) (by assumption) ?_
    (try simp only[psm])
    refine wpAnyH_take (i:=5) (by simp only[gel];rfl) (by kernel_rfl) (by kernel_rfl) (by kernel_rfl) (by exact fun _ _ _ h=>h) (Or.inl ⟨by rfl,by intro w' hSw;obtain⟨s1,s2⟩:=hSw;go_simp;first|done|with_reducible rfl⟩) (by assumption) ?_
    (try simp only[psm])
    refine wpAnyH_take (i:=6) (v:=undef) (by simp only[gel];rfl) (by kernel_rfl) (by kernel_rfl) (by kernel_rfl) (by exact fun _ _ _ h=>h) (Or.inr ⟨by rfl,rfl⟩) (by assumption) ?_
    (try simp only[psm])
    refine wpAnyH_take (i:=7) (v:=undef) (by simp only[gel];rfl) (by kernel_rfl) (by kernel_rfl) (by kernel_rfl) (by exact fun _ _ _ h=>h) (Or.inr ⟨by rfl,rfl⟩) (by assumption) ?_
    (try simp only[psm])
    refine wpAnyH_take (i:=8) (v:=undef) (by simp only[gel];rfl) (by kernel_rfl) (by kernel_rfl) (by kernel_rfl) (by exact fun _ _ _ h=>h) (Or.inr ⟨by rfl,rfl⟩) (by assumption) ?_
    (try simp only[psm])
    refine wpAnyH_take (i:=9) (by simp only[gel];rfl) (by kernel_rfl) (by kernel_rfl) (by kernel_rfl) (by exact fun _ _ _ h=>h) (Or.inl ⟨by rfl,by intro w' hSw;obtain⟨s1,s2⟩:=hSw;go_simp;first|done|with_reducible rfl⟩) (by assumption) ?_
    (try simp only[psm])
    refine wpAnyH_ready (rs:=[10]) (by kernel_rfl) (by simp) ?_;refine AllReadyH.cons (o:=?oZ10) ?hiZ10 (fun K hK=>?_) AllReadyH.nil
    case hiZ10=>simp only[gel];rfl
    rw[if_pos (by rfl)];refine wp_store_mid 85 _ _ rfl (w.heap.size+1+1) 0 #[.string ((((⟨#[40]⟩:ByteArray)++X)++⟨#[124]⟩++Y)++⟨#[41]⟩),.int .i64 (d+1)] rfl rfl th YQ (by simp[Value.oneCell']) ?_;rw[List.toList_toArray,<-HF.out.1];refine hK.out _ _ hS5 (fun hHeld=>?_);clear hK K
    (try simp only[Act.put])
    refine wpAnyH_take (i:=11) (by simp only[gel];rfl) (by kernel_rfl) (by kernel_rfl) (by kernel_rfl) (by exact fun _ _ _ h=>h) (Or.inl ⟨by rfl,by intro w' hSw;obtain⟨s1,s2⟩:=hSw;go_simp;first|done|with_reducible rfl⟩) (by assumption) ?_
    (try simp only[psm])
    refine wpAnyH_done (by kernel_rfl) ?_ _;go_wp2_with fail;refine bodyPost_ret (v:=.tuple #[.agg #[.string ((((⟨#[40]⟩:ByteArray)++X)++⟨#[124]⟩++Y)++⟨#[41]⟩),.int .i64 (d+1)],.bool false]) (Ys Try.results37 rfl HF.out.2.2 rfl) rfl ⟨?_,HF.out.2.1⟩;rw[<-HZ.out,HL.out,HD.out];have hq:(decide (1+X.size+1+Y.size+1<=40)&&decide (d+1<=6))=false:=by first|(simp;omega)|(simp;intro;omega)|simp[h40]|(simp[h40];omega)
    rw[hq]
end Go.Proofs.Ytoaaklhpmhjhkab
