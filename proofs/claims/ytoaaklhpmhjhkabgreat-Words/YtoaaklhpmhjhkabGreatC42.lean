import Derived.Test.YtoaaklhpmhjhkabGreatC39
set_option maxRecDepth 100000
set_option maxHeartbeats 4000000
set_option linter.all false
namespace Go.Proofs.YtoaaklhpmhjhkabGreat
open Go.RowKit
def Ql (T:Tb) (x:ByteArray) (i:Nat):Nat->Nat->Int->Int->Int->Int × Int
 |0,_,_,r,l=>(r,l)
 |u+1,j,s,r,l=>if j<x.size then
   (if Tr T s (fb x j)=-1 then (r,l) else if Nx T (Tr T s (fb x j))=-1 then Ql T x i u (j+1) (Tr T s (fb x j)) r l else Ql T x i u (j+1) (Tr T s (fb x j)) (Nx T (Tr T s (fb x j))) ((j:Int)+1-i))
  else (r,l)
variable {a:Act}{ops:Array Oper}{x:ByteArray}{Q:Exit->Act->World->Prop}{rest:List Oper}{base i j n:Nat}{o:Oper}{ad:Option Addr}{T:Tb}{v:Value}{W w w':World}
theorem LT {u:Nat}{s r l:Int} (h:x.size<=j):Ql T x i u j s r l=(r,l):=by
 cases u
 ·rfl
 ·rw[Ql,if_neg (by omega)]
theorem Od {u:Nat}{s r l:Int} (h:j<x.size) (hs:Tr T s (fb x j)=-1):Ql T x i (u+1) j s r l=(r,l):=by
 rw[Ql,if_pos h,if_pos hs]
theorem Oc {u:Nat}{s r l:Int} (h:j<x.size) (hs:Tr T s (fb x j)≠-1) (hl:Nx T (Tr T s (fb x j))=-1):Ql T x i (u+1) j s r l=Ql T x i u (j+1) (Tr T s (fb x j)) r l:=by
 rw[Ql,if_pos h,if_neg hs,if_pos hl]
theorem Oe {u:Nat}{s r l:Int} (h:j<x.size) (hs:Tr T s (fb x j)≠-1) (hl:Nx T (Tr T s (fb x j))≠-1):Ql T x i (u+1) j s r l=Ql T x i u (j+1) (Tr T s (fb x j)) (Nx T (Tr T s (fb x j))) ((j:Int)+1-i):=by
 rw[Ql,if_pos h,if_neg hs,if_neg hl]
theorem MP:∀(u j:Nat) (s r l:Int),i<=j->1<=l->(i:Int)+l<=x.size->1<=(Ql T x i u j s r l).2/\(i:Int)+(Ql T x i u j s r l).2<=x.size
 |0,_,_,_,_,_,h1,h2=>⟨h1,h2⟩
 |u+1,j,s,r,l,hj,h1,h2=>by
  rw[Ql];split
  ·split
   ·exact⟨h1,h2⟩
   ·split
    ·exact MP u (j+1) _ _ _ (by omega) h1 h2
    ·exact MP u (j+1) _ _ _ (by omega) (by omega) (by omega)
  ·exact⟨h1,h2⟩
def WP (T:Tb) (x:ByteArray) (i:Nat):Int × Int:=Ql T x i (x.size-i) i 0 (-1) 1
theorem Tt (T:Tb) (x:ByteArray) (i:Nat) (h:i<x.size):1<=(WP T x i).2/\(i:Int)+(WP T x i).2<=x.size:=MP _ _ _ _ _ (Nat.le_refl _) (by omega) (by omega)
theorem UJ:(Tryz.prog.info? 37).map (·.size)=some 3:=by kernel_rfl
theorem Oq (w:World):(zeroValue 37).run Tryz.prog w=.ok (.agg #[.int .i64 0,.int .i64 0,.int .i64 0]) w:=by
 go_simp
theorem Lc (w:World) (a b c:Int) (t:TypeId):(w.alloc (.cells #[.int .i64 a,.int .i64 b,.int .i64 c] t)).there w.heap.size 0 3:=fun j hj=>by
 rcases j with _|_|_|j<;>first|(refine⟨?_,?_⟩<;>go_simp)|omega
structure TS (w:World) (r i l:Int) (W:World):Prop where
 z:W.there w.heap.size 0 3
 t:TZ (w.heap.size+1) [.int .i64 r,.int .i64 i,.int .i64 l] W
 b:Below w.heap.size w W
theorem TS.set0 {r i l:Int} (h:TS w r i l W) (x:Int):TS w x i l (W.setCell ⟨w.heap.size+1,0,none⟩ (.int .i64 x)):=
 ⟨fun j hj=>by rw[World.cell?_setCell_other _ _ _ _ (by intro he;have h1:=congrArg Addr.block he;simp at h1),World.frozen?_setCell];exact h.z j hj,h.t.set 0 (by simp) _,h.b.setCell (p:=⟨w.heap.size+1,0,none⟩) (Nat.le_succ _) _⟩
theorem TS.set2 {r i l:Int} (h:TS w r i l W) (x:Int):TS w r i x (W.setCell ⟨w.heap.size+1,2,none⟩ (.int .i64 x)):=
 ⟨fun j hj=>by rw[World.cell?_setCell_other _ _ _ _ (by intro he;have h1:=congrArg Addr.block he;simp at h1),World.frozen?_setCell];exact h.z j hj,h.t.set 2 (by simp) _,h.b.setCell (p:=⟨w.heap.size+1,2,none⟩) (Nat.le_succ _) _⟩
theorem TS.out {r i l:Int} (h:TS w r i l W):∃W',W'=W.setCells w.heap.size 0 [.int .i64 r,.int .i64 i,.int .i64 l]/\(loadVar 37 ⟨w.heap.size,0,none⟩).run Tryz.prog W'=.ok (.agg #[.int .i64 r,.int .i64 i,.int .i64 l]) W'/\Below w.heap.size w W':=by
 refine⟨_,rfl,?_,?_⟩
 ·exact run_loadVar_mid (P:=Tryz.prog) _ w.heap.size 0 37 [.int .i64 r,.int .i64 i,.int .i64 l] _ (World.rangeAt_setCells_same W w.heap.size 0 [.int .i64 r,.int .i64 i,.int .i64 l] h.z) u_q rfl UJ
 ·exact h.b.grown (Y6 w.heap.size [.int .i64 r,.int .i64 i,.int .i64 l] 0 W) h.b.size (fun q hq=>by cases hq;exact Nat.le_refl _)
theorem Oi (b:Nat) (T:Tb) (A:T8) (x:ByteArray) (i:Nat) (w:World) (hS:SG T) (hA:Xa b T A w) (hI:Vj T A w) (hx:x.size<=2000) (hi:i<x.size):
  Calls Tryz.prog 36 #[.pointer (some ⟨b,0,none⟩),.string x,.int .i64 i] w fun e w'=>e=.returned (.agg #[.int .i64 (WP T x i).1,.int .i64 i,.int .i64 (WP T x i).2])/\Below w.heap.size w w':=by
 have hz:=Oq;obtain⟨R,hR⟩:=nam (WP T x i);rw[<-hR];have HR:=hyd hR;clear hR;have H1:Hid (∀w' (s c:Int),Below w.heap.size w w'->Calls Tryz.prog 61 #[.pointer (some ⟨b,0,none⟩),.int .i64 s,.int .i64 c] w' fun e w''=>e=.returned (.int .i64 (Tr T s c))/\w''=w'):=fun w' s c h'=>La b T A s c w' hS (hA.below h') (hI.below h')
 have H2:Hid (∀w' (s:Int),Below w.heap.size w w'->Calls Tryz.prog 62 #[.pointer (some ⟨b,0,none⟩),.int .i64 s] w' fun e w''=>e=.returned (.int .i64 (Nx T s))/\w''=w'):=fun w' s h'=>MO b T A s w' (hA.below h') (hI.below h')
 clear hA hI hS;obtain⟨W,hW⟩:=nam ((w.alloc (.cells #[.int .i64 0,.int .i64 0,.int .i64 0] 37)).alloc (.cells #[.int .i64 (-1),.int .i64 i,.int .i64 1] 37));have S0:TS w (-1) i 1 W:=by
  have hs1:(w.alloc (.cells #[.int .i64 0,.int .i64 0,.int .i64 0] 37)).heap.size=w.heap.size+1:=by simp
  rw[hW];refine⟨Yu (Lc w 0 0 0 _) (by omega) (Yh _ _),?_,(Yh w _).trans ((Yh _ _).mono (by simp))⟩;rw[<-hs1];exact TZ.boxed _ [.int .i64 (-1),.int .i64 i,.int .i64 1] _
 go_enter Tryz.func36,Tryz.ntmps36;go_wp2_with fail;rw[<-hW];clear hW
 go_loopw [8,9] (fun st jv w'=>∃(u j:Nat) (s r l:Int),st=.int .i64 s/\jv=.int .i64 j/\i<=j/\j<=x.size/\x.size<=u+j/\TS w r i l w'/\Hid (R=Ql T x i u j s r l)) (fun _ jv _=>x.size-(intOf jv).toNat)
 case atStart=>exact⟨x.size-i,i,0,-1,1,rfl,rfl,Nat.le_refl _,by omega,by omega,S0,HR⟩
 case round=>
  clear HR S0;obtain⟨u,j,s,r,l,rfl,rfl,hij,hj,hu,hS,HR⟩:=hrel;by_cases hlt:j<x.size
  ·have hlt':(j:Int)<(x.size:Int):=by omega
   rcases u with _|u
   ·omega
   have HF:=hyd (GF x j hlt);have hbx:=x[j].toNat_lt;go_wp2_with fail;refine(H1.out _ s _ hS.b).mono ?_;rintro e w1 ⟨rfl,rfl⟩;rw[HF.out];clear hbx;obtain⟨s',hs'⟩:=nam (Tr T s (fb x j));rw[<-hs'];have Hs:=hyd hs';clear hs';by_cases hn:s'=-1
   ·have HR1:Hid (R=(r,l)):=by show _=_;rw[HR.out,Od hlt (by rw[<-Hs.out];exact hn)]
    have q1:(s'==-1)=true:=by simpa using hn
    obtain⟨W9,hW9,hl9,hb9⟩:=hS.out;have HW9:=hyd hW9;have HL9:=hyd hl9;have hrg:=hS.t.range;have hth:=hS.z;clear hW9 hl9 HR Hs;go_wp2_with (first|(refine wpList_load_mid rfl 37 _ rfl (w.heap.size+1) 0 rfl [.int .i64 r,.int .i64 i,.int .i64 l] _ hrg u_q rfl UJ ?_)|(refine wpList_store_mid rfl 37 _ _ rfl w.heap.size 0 #[.int .i64 r,.int .i64 i,.int .i64 l] rfl rfl hth UJ (by simp[Value.oneCell']) ?_;rw[List.toList_toArray,<-HW9.out]));refine bodyPost_ret (v:=.agg #[.int .i64 r,.int .i64 i,.int .i64 l]) (Xb Tryz.results36 rfl HL9.out) rfl ?_;rw[HR1.out];exact⟨rfl,hb9⟩
   ·have q1:(s'==-1)=false:=by simpa using hn
    go_wp2_with fail;refine(H2.out _ s' hS.b).mono ?_;rintro e w2 ⟨rfl,rfl⟩;obtain⟨r',hr'⟩:=nam (Nx T s');rw[<-hr'];have Hr:=hyd hr';clear hr';by_cases hm:r'=-1
    ·have HR1:Hid (R=Ql T x i u (j+1) s' r l):=by show _=_;rw[HR.out,Oc hlt (by rw[<-Hs.out];exact hn) (by rw[<-Hs.out,<-Hr.out];exact hm),<-Hs.out]
     have q3:(r' != -1)=false:=by simp[hm]
     clear HR Hs Hr;go_wp2_with fail;go_roundw
     case rel=>exact⟨u,j+1,s',r,l,rfl,by go_num,by omega,by omega,by omega,hS,HR1⟩
     case measure=>simp[intOf];omega
    ·have HR1:Hid (R=Ql T x i u (j+1) s' r' ((j:Int)+1-i)):=by show _=_;rw[HR.out,Oe hlt (by rw[<-Hs.out];exact hn) (by rw[<-Hs.out,<-Hr.out];exact hm),<-Hs.out,<-Hr.out]
     have q3:(r' != -1)=true:=by simp[hm]
     obtain⟨k0,k0f⟩:=hS.t 0 _ rfl;obtain⟨k2,k2f⟩:=(hS.set0 r').t 2 _ rfl;have S2:=(hS.set0 r').set2 ((j:Int)+1-i);clear HR Hs Hr;go_wp2_with fail;go_roundw
     case rel=>exact⟨u,j+1,s',r',(j:Int)+1-i,rfl,by go_num,by omega,by omega,by omega,S2,HR1⟩
     case measure=>simp[intOf];omega
  ·have hge:¬(j:Int)<(x.size:Int):=by omega
   have HR1:Hid (R=(r,l)):=by show _=_;rw[HR.out,LT (by omega)]
   obtain⟨W9,hW9,hl9,hb9⟩:=hS.out;have HW9:=hyd hW9;have HL9:=hyd hl9;have hrg:=hS.t.range;have hth:=hS.z;clear hW9 hl9 HR;go_wp2_with (first|(refine wpList_load_mid rfl 37 _ rfl (w.heap.size+1) 0 rfl [.int .i64 r,.int .i64 i,.int .i64 l] _ hrg u_q rfl UJ ?_)|(refine wpList_store_mid rfl 37 _ _ rfl w.heap.size 0 #[.int .i64 r,.int .i64 i,.int .i64 l] rfl rfl hth UJ (by simp[Value.oneCell']) ?_;rw[List.toList_toArray,<-HW9.out]));refine bodyPost_ret (v:=.agg #[.int .i64 r,.int .i64 i,.int .i64 l]) (Xb Tryz.results36 rfl HL9.out) rfl ?_;rw[HR1.out];exact⟨rfl,hb9⟩
def RG (T:Tb) (x:ByteArray):Nat->Nat->List (Int × Int × Int)
 |0,_=>[]
 |u+1,i=>if i<x.size then ((WP T x i).1,(i:Int),(WP T x i).2)::RG T x u (i+(WP T x i).2.toNat) else []
theorem VO {u:Nat} (h:x.size<=i):RG T x u i=[]:=by
 cases u
 ·rfl
 ·rw[RG,if_neg (by omega)]
theorem JT {u:Nat}{r:Int} (h:i<x.size) (e:WP T x i=(r,(n:Int))):RG T x (u+1) i=(r,(i:Int),(n:Int))::RG T x u (i+n):=by
 rw[RG,if_pos h,e];simp
def Qg (T:Tb) (x:ByteArray):List (Int × Int × Int):=if 2000<x.size then [] else RG T x x.size 0
def MW (t:Int × Int × Int):List Value:=[.int .i64 t.1,.int .i64 t.2.1,.int .i64 t.2.2]
def Xc (l:List (Int × Int × Int)):List Value:=l.flatMap MW
theorem OF (a b:List (Int × Int × Int)):Xc (a++b)=Xc a++Xc b:=by simp[Xc]
theorem Kw (a:Int × Int × Int):Xc [a]=MW a:=by simp[Xc]
theorem Kv (l:List (Int × Int × Int)):(Xc l).length=l.length*3:=by
 induction l with
 |nil=>rfl
 |cons a l ih=>rw[show Xc (a::l)=MW a++Xc l from by simp[Xc],List.length_append,ih];simp[MW];omega
def Ud (base:Nat) (v:Value) (l:List (Int × Int × Int)) (w:World):Prop:=w.ownsRow base 37 3 v l.length (Xc l)
theorem Ud.below {l:List (Int × Int × Int)} (h:Ud base v l w) (hW:Below w.heap.size w w'):Ud base v l w':=Ne h hW
theorem Ud.ge {l:List (Int × Int × Int)} (h:Ud base v l w):∀k,v.ownBlock=some k->base<=k:=fun k hk=>(h.lt k hk).1
theorem Ud.nil (base:Nat) (w:World):Ud base (.slice none 0 0) [] w:=⟨rfl,Or.inl ⟨rfl,rfl⟩⟩
theorem KB:∃i,Tryz.prog.info? 37=some i/\i.zero=some (.agg #[.int .i64 0,.int .i64 0,.int .i64 0])/\i.size=3/\i.bytes=24:=by
 have h:(Tryz.prog.info? 37).isSome=true:=by kernel_rfl
 obtain⟨i,hi⟩:=Option.isSome_iff_exists.1 h;refine⟨i,hi,?_,?_,?_⟩
 ·have:((Tryz.prog.info? 37).bind (·.zero))=some (.agg #[.int .i64 0,.int .i64 0,.int .i64 0]):=by kernel_rfl
  rw[hi]at this;simpa using this
 ·have:((Tryz.prog.info? 37).map (·.size))=some 3:=by kernel_rfl
  rw[hi]at this;simpa using this
 ·have:((Tryz.prog.info? 37).map (·.bytes))=some 24:=by kernel_rfl
  rw[hi]at this;simpa using this
theorem Tw (hgd:o.guard=none) (s x:Operand)
  (ho:o.op=.call { callee:=.builtin .append,args:=#[s,x],argTypes:=#[31,31] }) (base:Nat)
  (v:Value) (l:List (Int × Int × Int)) (hs:a.eval s=v) (hown:Ud base v l w) (hn:l.length<=100000)
  (B:Nat) (t:Int × Int × Int) (hx:a.eval x=.slice (some ⟨B,0,none⟩) 1 1) (hnews:∀j u,(MW t)[j]?=some u->w.cell? ⟨B,j,none⟩=some u) (hbase:base<=w.heap.size)
  (h:∀g cap w',Ud base (.slice (some ⟨g,0,none⟩) (l.length+1) cap) (l++[t]) w'->w.grownBy w' v.ownBlock->wpList Tryz.prog ops Q rest (a.put o.dst (.slice (some ⟨g,0,none⟩) (l.length+1) cap)) w'):wpList Tryz.prog ops Q (o::rest) a w:=by
 obtain⟨i,hi,hz0,hz1,hz2⟩:=KB;refine wpList_append_lies w hgd s x 31 ho base 37 i (.agg #[.int .i64 0,.int .i64 0,.int .i64 0]) 3 24 Tryz.underlying31 hi hz0 hz1 hz2 (by simp[Value.cells]) (by omega) v l.length (Xc l) hs hown ⟨B,0,none⟩ 1 1 (MW t) hx (by simp[MW]) (fun j u hu=>by rw[Addr.add_mid,Nat.zero_add];exact hnews j u hu) (by simp[MW,Value.oneCell']) (by omega) (by unfold maxLen;omega) (by omega) hbase _ rfl ?_;intro g cap w' h1 h2 h3 h4;refine h g cap w' ?_ h2;unfold Ud;rw[OF,Kw,List.length_append];exact h1
def Tp (x:ByteArray):Int:=if 2000<x.size then 2 else 0
def Qt (T:Tb) (x:ByteArray) (w:World) (e:Ending) (w':World):Prop:=
 ∃v,e=.returned (.tuple #[v,.int .i64 (Tp x)])/\Ud w.heap.size v (Qg T x) w'/\Below w.heap.size w w'
theorem GZ (b:Nat) (T:Tb) (A:T8) (x:ByteArray) (w:World) (hS:SG T) (hA:Xa b T A w) (hI:Vj T A w) (hx:x.size<=140737488355328):
  Calls Tryz.prog 14 #[.pointer (some ⟨b,0,none⟩),.string x] w (Qt T x w):=by
 by_cases hb:2000<x.size
 ·have hb':(2000:Int)<(x.size:Int):=by omega
  have HR:Hid (Qg T x=[]):=by show _=_;rw[Qg,if_pos hb]
  have HE:Hid (Tp x=2):=by show _=_;rw[Tp,if_pos hb]
  clear hA hI hS hb;go_enter Tryz.func14,Tryz.ntmps14;go_wp2_with fail;go_ret2;refine⟨.slice none 0 0,?_,?_,Below.refl _ _⟩
  ·rw[HE.out];rfl
  ·rw[HR.out];exact Ud.nil _ _
 have hb':¬(2000:Int)<(x.size:Int):=by omega
 have hz:=Oq;obtain⟨R,hR⟩:=nam (Qg T x);have HRR:=hyd hR;rw[Qg,if_neg hb]at hR;have HR:=hyd hR;have HE:Hid (Tp x=0):=by show _=_;rw[Tp,if_neg hb]
 clear hR;have H1:Hid (∀w' (i:Nat),Below w.heap.size w w'->i<x.size->Calls Tryz.prog 36 #[.pointer (some ⟨b,0,none⟩),.string x,.int .i64 i] w' fun e w''=>e=.returned (.agg #[.int .i64 (WP T x i).1,.int .i64 i,.int .i64 (WP T x i).2])/\Below w'.heap.size w' w''):=fun w' i h' hi=>Oi b T A x i w' hS (hA.below h') (hI.below h') (by omega) hi
 clear hA hI hS;go_enter Tryz.func14,Tryz.ntmps14;go_wp2_with fail
 go_loopw [6,7] (fun v av w'=>∃(u i:Nat) (ls:List (Int × Int × Int)),av=.int .i64 i/\i<=x.size/\x.size<=u+i/\ls.length<=i/\Ud w.heap.size v ls w'/\Below w.heap.size w w'/\Hid (R=ls++RG T x u i)) (fun _ av _=>x.size-(intOf av).toNat)
 case atStart=>exact⟨x.size,0,[],rfl,by omega,by omega,by simp,Ud.nil _ _,Below.refl _ _,HR⟩
 case round=>
  clear HR;obtain⟨u,i,ls,rfl,hi,hu,hls,hO,hB,HR⟩:=hrel;by_cases hlt:i<x.size
  ·have hlt':(i:Int)<(x.size:Int):=by omega
   rcases u with _|u
   ·omega
   obtain⟨n1,n2⟩:=Tt T x i hlt;obtain⟨r,ln,hrl⟩:∃(r:Int) (ln:Nat),WP T x i=(r,(ln:Int)):=⟨(WP T x i).1,(WP T x i).2.toNat,by ext<;>simp;omega⟩;have HC:=H1.out wr i hB hlt;rw[hrl]at HC n1 n2;have HC1:Hid (Calls Tryz.prog 36 #[.pointer (some ⟨b,0,none⟩),.string x,.int .i64 i] wr fun e w''=>e=.returned (.agg #[.int .i64 r,.int .i64 i,.int .i64 (ln:Int)])/\Below wr.heap.size wr w''):=HC;have HR1:Hid (R=(ls++[(r,(i:Int),(ln:Int))])++RG T x u (i+ln)):=by show _=_;rw[HR.out,JT hlt hrl];simp
   clear HC HR hrl;simp only at n1 n2;go_wp2_with fail;refine HC1.out.mono ?_;rintro e w1 ⟨rfl,hW1⟩;have hO1:=hO.below hW1;have hB1:=hB.trans (hW1.mono hB.size);have hlt1:∀k,u6.ownBlock=some k->k<w1.heap.size:=fun k hk=>(hO1.lt k hk).2
   clear hO hB hW1 HC1;obtain⟨W3,hW3⟩:=nam ((w1.alloc (.cells #[.int .i64 r,.int .i64 i,.int .i64 (ln:Int)] 37)).alloc (.cells #[.int .i64 r,.int .i64 i,.int .i64 (ln:Int)] 37));have hs1:(w1.alloc (.cells #[.int .i64 r,.int .i64 i,.int .i64 (ln:Int)] 37)).heap.size=w1.heap.size+1:=by simp
   have x3:Below w1.heap.size w1 W3:=by rw[hW3];exact(Yh w1 _).trans ((Yh _ _).mono (by simp))
   have hO3:=hO1.below x3;have hB3:=hB1.trans (x3.mono hB1.size);have hnews:∀j v,(MW (r,(i:Int),(ln:Int)))[j]?=some v->W3.cell? ⟨w1.heap.size+1,j,none⟩=some v:=fun j v hv=>by
    rw[hW3,<-hs1];exact((TZ.boxed _ [.int .i64 r,.int .i64 i,.int .i64 (ln:Int)] _) j v hv).1
   have hc2:W3.cell? ⟨w1.heap.size,2,none⟩=some (.int .i64 (ln:Int)):=by
    have:=((TZ.boxed w1 [.int .i64 r,.int .i64 i,.int .i64 (ln:Int)] 37).below (Yh _ (.cells #[.int .i64 r,.int .i64 i,.int .i64 (ln:Int)] 37))) 2 _ rfl;rw[hW3];exact this.1
   have HK:Hid (∀w5,W3.grownBy w5 u6.ownBlock->w5.cell? ⟨w1.heap.size,2,none⟩=some (.int .i64 (ln:Int))):=fun w5 hg=>by
    rw[World.cell?_of_block (w:=W3) (a:=⟨w1.heap.size,2,none⟩) (hg.block w1.heap.size (World.block_lt_of_cell? W3 _ hc2) (fun e=>by have:=hlt1 _ e.symm;omega))];exact hc2
   have HW3:=hyd hW3;have hbw:=hB3.size;have hge3:=hO3.ge;clear hW3 hs1 x3 hO1 hB1 hc2 hlt1;go_wp2_with (first|(at_builtin;rw[<-HW3.out];refine Tw (by rfl) _ _ (by rfl) w.heap.size u6 ls (by rfl) hO3 (by omega) (w1.heap.size+1) (r,(i:Int),(ln:Int)) (by rfl) hnews hbw ?_;intro g cap w5 hO5 hgrow;have k2:=HK.out w5 hgrow));go_roundw
   case rel=>exact⟨u,i+ln,ls++[(r,(i:Int),(ln:Int))],by go_num,by omega,by omega,by simp;omega,by simpa using hO5,hB3.grown hgrow hbw hge3,HR1⟩
   case measure=>simp[intOf];omega
  ·have hge:¬(i:Int)<(x.size:Int):=by omega
   have HR1:Hid (R=ls):=by show _=_;rw[HR.out,VO (by omega)];simp
   clear HR;go_wp2_with fail;go_ret2;refine⟨u6,?_,?_,hB⟩
   ·rw[HE.out];rfl
   ·rw[<-HRR.out,HR1.out];exact hO
theorem Le (b:Nat) (T:Tb) (A:T8) (x:ByteArray) (w:World) (hS:SG T) (hA:Xa b T A w) (hI:Vj T A w) (hx:x.size<=140737488355328):
  Calls Tryz.prog 8 #[.pointer (some ⟨b,0,none⟩),.string x] w (Qt T x w):=by
 have H:=hyd (GZ b T A x w hS hA hI hx);clear hA hI hS;go_enter Tryz.func8,Tryz.ntmps8;go_wp2_with fail;refine H.out.mono ?_;rintro e w1 ⟨v,rfl,h1,h2⟩;go_wp2_with fail;go_ret2;exact⟨v,rfl,h1,h2⟩
theorem Og (T:Tb) (x:ByteArray):∀(u v i:Nat),x.size<=u+i->x.size<=v+i->RG T x u i=RG T x v i
 |0,v,i,h,_=>by rw[VO (by omega),VO (by omega)]
 |u+1,0,i,_,h=>by rw[VO (by omega),VO (by omega)]
 |u+1,v+1,i,hu,hv=>by
  by_cases hi:i<x.size
  ·have hb:=Tt T x i hi;rw[RG,RG,if_pos hi,if_pos hi,Og T x u v _ (by omega) (by omega)]
  ·rw[VO (by omega),VO (by omega)]
theorem QJ:∀(l:List (Int × Int × Int)) (k:Nat) (t:Int × Int × Int),l[k]?=some t->∀j v,(MW t)[j]?=some v->(Xc l)[k*3+j]?=some v
 |[],k,t,h,_,_,_=>by simp at h
 |a::l,0,t,h,j,v,hv=>by
  cases (show some a=some t from h);have hj:=(List.getElem?_eq_some_iff.1 hv).1;rw[show Xc (a::l)=MW a++Xc l from by simp[Xc],Nat.zero_mul,Nat.zero_add,List.getElem?_append_left hj];exact hv
 |a::l,k+1,t,h,j,v,hv=>by
  have h':l[k]?=some t:=by simpa using h
  rw[show Xc (a::l)=MW a++Xc l from by simp[Xc],List.getElem?_append_right (by simp[MW];omega)];have e:(k+1)*3+j-(MW a).length=k*3+j:=by simp[MW];omega
  rw[e];exact QJ l k t h' j v hv
def Fw (ad:Option Addr) (l:List (Int × Int × Int)) (w:World):Prop:=
 ∀k t,l[k]?=some t->∃g o,ad=some ⟨g,o,none⟩/\w.cell? ⟨g,o+k*3,none⟩=some (.int .i64 t.1)/\w.cell? ⟨g,o+k*3+1,none⟩=some (.int .i64 t.2.1)/\w.cell? ⟨g,o+k*3+2,none⟩=some (.int .i64 t.2.2)
theorem Ud.klo {l:List (Int × Int × Int)} (h:Ud base v l w):∃ad cap,v=.slice ad l.length cap/\l.length<=cap/\(ad=none\/∃g,ad=some ⟨g,0,none⟩)/\Fw ad l w:=by
 rcases h.2 with ⟨rfl,h0⟩|⟨g,cap,cur,rfl,h1,h2,h3,h4,h5,h6⟩
 ·have:l=[]:=List.eq_nil_of_length_eq_zero h0;subst this;exact⟨none,0,rfl,by simp,Or.inl rfl,fun k t hk=>by simp at hk⟩
 ·refine⟨some ⟨g,0,none⟩,cap,rfl,h3,Or.inr ⟨g,rfl⟩,fun k t hk=>⟨g,0,rfl,?_⟩⟩;have c:∀j v,(MW t)[j]?=some v->w.cell? ⟨g,0+k*3+j,none⟩=some v:=fun j v hv=>by
   have h7:=QJ l k t hk j v hv;rw[Nat.zero_add,cell_of_row w g (k*3+j) cur _ (0,0) h2,<-h7,<-h6];have:k*3+j<l.length*3:=by
    have:=(List.getElem?_eq_some_iff.1 h7).1;rw[Kv]at this;exact this
   simp[this]
  exact⟨by have:=c 0 _ rfl;simpa using this,c 1 _ rfl,c 2 _ rfl⟩
theorem Fw.below {l:List (Int × Int × Int)} (h:Fw ad l w) (hW:Below w.heap.size w w'):Fw ad l w':=fun k t hk=>by
 obtain⟨g,o,e,c0,c1,c2⟩:=h k t hk;have hb:=hW.block g (World.block_lt_of_cell? w _ c0);refine⟨g,o,e,?_,?_,?_⟩
 ·rw[World.cell?_of_block (w:=w) (a:=⟨g,o+k*3,none⟩) hb];exact c0
 ·rw[World.cell?_of_block (w:=w) (a:=⟨g,o+k*3+1,none⟩) hb];exact c1
 ·rw[World.cell?_of_block (w:=w) (a:=⟨g,o+k*3+2,none⟩) hb];exact c2
end Go.Proofs.YtoaaklhpmhjhkabGreat
