import Derived.Test.YtoaaklhpmhjhkaaGreatC05
set_option maxRecDepth 100000
set_option maxHeartbeats 4000000
set_option linter.all false
namespace Go.Proofs.YtoaaklhpmhjhkaaGreat
open Go.RowKit
def blank:Array Value:=madeCells #[.bool false] 256
theorem y1W (k:Nat) (h:k<256):blank[k]?=some (.bool false):=by
 simp[blank,madeCells,h,Nat.mod_one]
theorem y0E:∃i,Tryz.prog.info? 4=some i/\i.zero=some (.bool false)/\i.size=1/\i.bytes=1:=by
 have h1:(Tryz.prog.info? 4).isSome=true:=by kernel_rfl
 obtain⟨i,hi⟩:=Option.isSome_iff_exists.1 h1;refine⟨i,hi,?_,?_,?_⟩
 ·have:((Tryz.prog.info? 4).bind (·.zero))=some (.bool false):=by kernel_rfl
  rw[hi]at this;exact this
 ·have:((Tryz.prog.info? 4).map (·.size))=some 1:=by kernel_rfl
  rw[hi]at this;simpa using this
 ·have:((Tryz.prog.info? 4).map (·.bytes))=some 1:=by kernel_rfl
  rw[hi]at this;simpa using this
theorem q6Y (w:World):(Instr.makeSlice 78 (.int .i64 256) (.int .i64 256)).run Tryz.prog w=.ok (.slice (some ⟨w.heap.size,0,none⟩) 256 256) (w.alloc (.cells blank 4)):=by
 obtain⟨i,hi,hz,hn,hb⟩:=y0E;have h:=run_make (P:=Tryz.prog) w 78 4 i (.bool false) Tryz.underlying78 hi hz .i64 .i64 256 256 (by decide) (by decide) (by rw[hb];decide) (by decide);rw[hn]at h;exact h
theorem BRow.blank (w:World) (t:TypeId):BRow w.heap.size (fun _=>false) (w.alloc (.cells blank t)):=fun k hk=>by
 refine⟨?_,?_⟩
 ·rw[World.cell?_alloc_new];exact y1W k hk
 ·go_simp
theorem q1q (inb:Nat->Bool) (a:Int) (y:Nat) (_:y<256):inb y=(inb y || (decide (a<=(y:Int))&&decide ((y:Int)<a))):=by
 rw[Bool.eq_iff_iff];simp;omega
theorem q1I (inb:Nat->Bool) (a:Int) (t:Nat) (h:a<=t) (y:Nat) (_:y<256):(if y=t then true else (inb y || (decide (a<=(y:Int))&&decide ((y:Int)<t))))=(inb y || (decide (a<=(y:Int))&&decide ((y:Int)<t+1))):=by
 by_cases e:y=t
 ·subst e;rw[if_pos rfl];cases inb y<;>simp<;>omega
 ·rw[if_neg e];cases inb y
  ·rw[Bool.false_or,Bool.false_or,Bool.eq_iff_iff];simp;omega
  ·rfl
theorem q2b (inb:Nat->Bool) (a b t:Int) (_h0:a<=t) (h1:t=a\/t<=b+1) (hn:¬t<=b) (y:Nat) (_:y<256):(inb y || (decide (a<=(y:Int))&&decide ((y:Int)<t)))=(inb y || (decide (a<=(y:Int))&&decide ((y:Int)<=b))):=by
 cases inb y
 ·rw[Bool.false_or,Bool.false_or,Bool.eq_iff_iff];simp;omega
 ·rfl
theorem q9X (s:ByteArray) (k:Nat) (j:Nat) (fa:Int) (inn:Nat->Bool) (w:World) (hs:s.size<=40) (h:Rf.set (s.data.toList.drop (k+1)) k=some (j,fa,inn)):
  Calls Tryz.prog 160 #[.string s,.int .i64 k] w fun e w'=>e=.returned (.tuple #[.slice (some ⟨w.heap.size,0,none⟩) 256 256,.int .i64 j,.int .i64 fa])/\BRow w.heap.size inn w'/\Below w.heap.size w w':=by
 rcases hd:s.data.toList.drop (k+1)with _|⟨c,r⟩
 ·rw[hd]at h;cases h
 obtain⟨hk,hc,hr⟩:=q0m hd;rw[hd]at h;have hm:=q6Y w;by_cases e94:c=94
 ·have hb:((s[k+1].toNat:Int)==94)=true:=by rw[hc,e94];rfl
  obtain⟨j0,inn0,h0,hj,hi⟩:∃j0 inn0,Rf.items (r.length+1) (s.data.toList.drop (k+2)) (k+2) (-1) (fun _=>false)=some (j0,fa,inn0)/\j=j0+1/\inn=fun x=>inn0 x != true:=by
   simp only[Rf.set,e94,if_true]at h;rw[hr];cases hx:Rf.items (r.length+1) r (k+2) (-1) (fun _=>false)with
   |none=>rw[hx]at h;cases h
   |some x=>
    rw[hx]at h;simp only[Option.map_some,Option.some.injEq,Prod.mk.injEq]at h;exact⟨x.1,x.2.2,by rw[<-h.2.1],h.1.symm,h.2.2.symm⟩
  subst hj;subst hi;clear hc hr hd e94 h;go_enter Tryz.func160,Tryz.ntmps160;go_wp2_with fail;clear hm
  go_loopw [1,8] (fun i fl w'=>∃(f k':Nat) (fb:Int) (inb:Nat->Bool),i=.int .i64 k'/\fl=.int .i64 fb/\BRow w.heap.size inb w'/\Below w.heap.size w w'/\Hid (Rf.items f (s.data.toList.drop k') k' fb inb=some (j0,fa,inn0))) (fun i _ _=>s.size-(intOf i).toNat)
  case atStart=>exact⟨_,k+2,-1,fun _=>false,by go_num,rfl,BRow.blank w _,(Below.refl _ _).alloc (Nat.le_refl _) _,h0⟩
  case round=>
   obtain⟨f,k',fb,inb,rfl,rfl,hB,hW,HS⟩:=hrel;rcases f with _|f
   ·exact absurd HS.out (by simp[Rf.items])
   rcases hd:s.data.toList.drop k' with _|⟨c,r⟩
   ·have:=HS.out;rw[hd]at this;simp[Rf.items]at this
   obtain⟨hk',hc,hr⟩:=q0m hd;have hI:=HS.out;rw[hd]at hI;by_cases e93:c=93
   ·have hb:((s[k'].toNat:Int)==93)=true:=by rw[hc,e93];rfl
    have hR:k'=j0/\fb=fa/\inb=inn0:=by
     simp only[Rf.items,e93,if_true,Option.some.injEq,Prod.mk.injEq]at hI;exact hI
    obtain⟨rfl,rfl,rfl⟩:=hR;clear hc hr hd hI HS h0 e93;go_wp2_with fail
    go_loopw [14] (fun i w'=>∃k2:Nat,k2<=256/\i=.int .i64 k2/\BRow w.heap.size (fun x=>if x<k2 then !inb x else inb x) w'/\Below w.heap.size w w') (fun i _=>256-(intOf i).toNat)
    case atStart=>exact⟨0,by omega,rfl,hB.congr (by simp),hW⟩
    case round=>
     obtain⟨k2,hk2,rfl,hB2,hW2⟩:=hrel;by_cases hlt:k2<256
     ·obtain⟨hcc,hff⟩:=hB2 k2 hlt;simp only[Nat.lt_irrefl,if_false]at hcc;have hB3:=hB2.set k2 hlt (!inb k2);go_wp2_with fail;go_roundw
      case rel=>
       refine⟨k2+1,by omega,by go_num,hB3.congr (fun y _=>?_),hW2.trans (q0E _ _ _ _)⟩;by_cases e1:y=k2
       ·subst e1;simp
       ·by_cases e2:y<k2
        ·simp[e1,e2,Nat.lt_succ_of_lt e2]
        ·simp[e1,e2,show ¬y<k2+1 by omega]
      case measure=>simp[intOf];omega
     ·go_wp2_with fail;go_ret3;exact⟨by first|rfl|(simp;done)|go_num,hB2.congr (fun y hy=>by simp[show y<k2 by omega]),hW2⟩
   ·have hb:((s[k'].toNat:Int)==93)=false:=by rw[hc];exact q0J e93
    rcases ho:Rf.one (c::r)with _|⟨a,n⟩
    ·simp only[Rf.items,if_neg e93,ho]at hI;cases hI
    have ho':Rf.one (s.data.toList.drop k')=some (a,n):=by rw[hd];exact ho
    obtain⟨ha0,ha1,hn1,hn4⟩:=Rf.one_bd ho;rcases hd2:(c::r).drop n with _|⟨d,l'⟩
    ·simp only[Rf.items,if_neg e93,ho,hd2]at hI;cases hI
    have hd2':s.data.toList.drop (k'+n)=d::l':=by rw[<-List.drop_drop,hd];exact hd2
    obtain⟨hkn,hcn,hrn⟩:=q0m hd2';by_cases e45:d=45
    ·have hb45:((s[k'+n].toNat:Int)==45)=true:=by rw[hcn,e45];rfl
     rcases ho2:Rf.one l' with _|⟨b,n'⟩
     ·simp only[Rf.items,if_neg e93,ho,hd2,if_pos e45,ho2]at hI;cases hI
     have ho2':Rf.one (s.data.toList.drop (k'+n+1))=some (b,n'):=by rw[hrn];exact ho2
     obtain⟨hb0,hb1,hn1',hn4'⟩:=Rf.one_bd ho2;have hItems:Hid (Rf.items f (s.data.toList.drop (k'+n+1+n')) (k'+n+1+n') (if b<a/\fb<0 then (k':Int) else fb) (fun y=>inb y || (decide (a<=(y:Int))&&decide ((y:Int)<=b)))=some (j0,fa,inn0)):=by
      show _=_;simp only[Rf.items,if_neg e93,ho,hd2,if_pos e45,ho2]at hI;rw[<-List.drop_drop,hrn];exact hI
     clear hc hr hd hI HS h0 e93 hcn hrn hd2 hd2' e45;by_cases hf:b<a/\fb<0
     ·rw[if_pos hf]at hItems;go_wp2_with fail;refine(q1T s k' _ a n _ hs rfl ho').mono ?_;rintro e w1 ⟨rfl,q,rfl⟩;go_wp2_with fail;refine(q1T s (k'+n+1) _ b n' _ hs (by omega) ho2').mono ?_;rintro e w1 ⟨rfl,q2,rfl⟩;clear ho ho' ho2 ho2';go_wp2_with fail
      go_loopw [13] (fun x w'=>∃t:Int,x=.int .i64 t/\a<=t/\(t=a\/t<=b+1)/\BRow w.heap.size (fun y=>inb y || (decide (a<=(y:Int))&&decide ((y:Int)<t))) w'/\Below w.heap.size w w') (fun x _=>(257-intOf x).toNat)
      case atStart=>exact⟨a,rfl,Int.le_refl _,Or.inl rfl,BRow.congr (by first|exact hB|exact hB.drewN _|exact(hB.drewN _).drewN _) (q1q inb a),by first|exact hW|exact hW.trans (q0p _ _ _)|exact(hW.trans (q0p _ _ _)).trans (q0p _ _ _)⟩
      case round=>
       obtain⟨t,rfl,ht0,ht1,hB2,hW2⟩:=hrel;by_cases hle:t<=b
       ·first
        |(exfalso;omega)
        |(
          obtain⟨tn,rfl⟩:=Int.eq_ofNat_of_zero_le (show 0<=t by omega);obtain⟨hcc,hff⟩:=hB2 tn (by omega);have hB3:=hB2.set tn (by omega) true;have htn:(tn:Int)<256:=by omega
          go_wp2_with fail;go_roundw
          case rel=>exact⟨(tn:Int)+1,rfl,by omega,by omega,hB3.congr (q1I inb a tn ht0),hW2.trans (q0E _ _ _ _)⟩
          case measure=>simp[intOf];omega)
       ·go_wp2_with fail;go_roundw
        case rel=>exact⟨f,k'+n+1+n',(k':Int),_,by go_num,rfl,hB2.congr (q2b inb a b t ht0 ht1 hle),hW2,hItems⟩
        case measure=>simp[intOf];omega
     ·rw[if_neg hf]at hItems;have hg:b<a->¬fb<0:=fun h1 h2=>hf ⟨h1,h2⟩
      clear hf;by_cases hba:b<a
      all_goals
       go_wp2_with fail;refine(q1T s k' _ a n _ hs rfl ho').mono ?_;rintro e w1 ⟨rfl,q,rfl⟩;go_wp2_with fail;refine(q1T s (k'+n+1) _ b n' _ hs (by omega) ho2').mono ?_;rintro e w1 ⟨rfl,q2,rfl⟩;go_wp2_with fail
       go_loopw [13] (fun x w'=>∃t:Int,x=.int .i64 t/\a<=t/\(t=a\/t<=b+1)/\BRow w.heap.size (fun y=>inb y || (decide (a<=(y:Int))&&decide ((y:Int)<t))) w'/\Below w.heap.size w w') (fun x _=>(257-intOf x).toNat)
       case atStart=>exact⟨a,rfl,Int.le_refl _,Or.inl rfl,BRow.congr (by first|exact hB|exact hB.drewN _|exact(hB.drewN _).drewN _) (q1q inb a),by first|exact hW|exact hW.trans (q0p _ _ _)|exact(hW.trans (q0p _ _ _)).trans (q0p _ _ _)⟩
       case round=>
        obtain⟨t,rfl,ht0,ht1,hB2,hW2⟩:=hrel;by_cases hle:t<=b
        ·first
         |(exfalso;omega)
         |(
           obtain⟨tn,rfl⟩:=Int.eq_ofNat_of_zero_le (show 0<=t by omega);obtain⟨hcc,hff⟩:=hB2 tn (by omega);have hB3:=hB2.set tn (by omega) true;have htn:(tn:Int)<256:=by omega
           go_wp2_with fail;go_roundw
           case rel=>exact⟨(tn:Int)+1,rfl,by omega,by omega,hB3.congr (q1I inb a tn ht0),hW2.trans (q0E _ _ _ _)⟩
           case measure=>simp[intOf];omega)
        ·go_wp2_with fail;go_roundw
         case rel=>exact⟨f,k'+n+1+n',fb,_,by go_num,rfl,hB2.congr (q2b inb a b t ht0 ht1 hle),hW2,hItems⟩
         case measure=>simp[intOf];omega
    ·have hb45:((s[k'+n].toNat:Int)==45)=false:=by rw[hcn];exact q0J e45
     have hItems:Hid (Rf.items f (s.data.toList.drop (k'+n)) (k'+n) fb (fun y=>inb y || (decide (a<=(y:Int))&&decide ((y:Int)<=a)))=some (j0,fa,inn0)):=by
      show _=_;simp only[Rf.items,if_neg e93,ho,hd2,if_neg e45]at hI;rw[hd2'];exact hI
     clear hc hr hd hI HS h0 e93 hcn hrn hd2 hd2' e45;go_wp2_with fail;refine(q1T s k' _ a n _ hs rfl ho').mono ?_;rintro e w1 ⟨rfl,q,rfl⟩;go_wp2_with fail
     go_loopw [13] (fun x w'=>∃t:Int,x=.int .i64 t/\a<=t/\(t=a\/t<=a+1)/\BRow w.heap.size (fun y=>inb y || (decide (a<=(y:Int))&&decide ((y:Int)<t))) w'/\Below w.heap.size w w') (fun x _=>(257-intOf x).toNat)
     case atStart=>exact⟨a,rfl,Int.le_refl _,Or.inl rfl,BRow.congr (by first|exact hB|exact hB.drewN _|exact(hB.drewN _).drewN _) (q1q inb a),by first|exact hW|exact hW.trans (q0p _ _ _)|exact(hW.trans (q0p _ _ _)).trans (q0p _ _ _)⟩
     case round=>
      obtain⟨t,rfl,ht0,ht1,hB2,hW2⟩:=hrel;by_cases hle:t<=a
      ·first
       |(exfalso;omega)
       |(
         obtain⟨tn,rfl⟩:=Int.eq_ofNat_of_zero_le (show 0<=t by omega);obtain⟨hcc,hff⟩:=hB2 tn (by omega);have hB3:=hB2.set tn (by omega) true;have htn:(tn:Int)<256:=by omega
         go_wp2_with fail;go_roundw
         case rel=>exact⟨(tn:Int)+1,rfl,by omega,by omega,hB3.congr (q1I inb a tn ht0),hW2.trans (q0E _ _ _ _)⟩
         case measure=>simp[intOf];omega)
      ·go_wp2_with fail;go_roundw
       case rel=>exact⟨f,k'+n,fb,_,by go_num,rfl,hB2.congr (q2b inb a a t ht0 ht1 hle),hW2,hItems⟩
       case measure=>simp[intOf];omega
 ·have hb:((s[k+1].toNat:Int)==94)=false:=by rw[hc];exact q0J e94
  obtain⟨j0,inn0,h0,hj,hi⟩:∃j0 inn0,Rf.items (r.length+2) (s.data.toList.drop (k+1)) (k+1) (-1) (fun _=>false)=some (j0,fa,inn0)/\j=j0+1/\inn=fun x=>inn0 x != false:=by
   simp only[Rf.set,e94,if_false]at h;rw[hd];cases hx:Rf.items (r.length+2) (c::r) (k+1) (-1) (fun _=>false)with
   |none=>rw[hx]at h;cases h
   |some x=>
    rw[hx]at h;simp only[Option.map_some,Option.some.injEq,Prod.mk.injEq]at h;exact⟨x.1,x.2.2,by rw[<-h.2.1],h.1.symm,h.2.2.symm⟩
  subst hj;subst hi;clear hc hr hd e94 h;go_enter Tryz.func160,Tryz.ntmps160;go_wp2_with fail;clear hm
  go_loopw [1,8] (fun i fl w'=>∃(f k':Nat) (fb:Int) (inb:Nat->Bool),i=.int .i64 k'/\fl=.int .i64 fb/\BRow w.heap.size inb w'/\Below w.heap.size w w'/\Hid (Rf.items f (s.data.toList.drop k') k' fb inb=some (j0,fa,inn0))) (fun i _ _=>s.size-(intOf i).toNat)
  case atStart=>exact⟨_,k+1,-1,fun _=>false,by go_num,rfl,BRow.blank w _,(Below.refl _ _).alloc (Nat.le_refl _) _,h0⟩
  case round=>
   obtain⟨f,k',fb,inb,rfl,rfl,hB,hW,HS⟩:=hrel;rcases f with _|f
   ·exact absurd HS.out (by simp[Rf.items])
   rcases hd:s.data.toList.drop k' with _|⟨c,r⟩
   ·have:=HS.out;rw[hd]at this;simp[Rf.items]at this
   obtain⟨hk',hc,hr⟩:=q0m hd;have hI:=HS.out;rw[hd]at hI;by_cases e93:c=93
   ·have hb:((s[k'].toNat:Int)==93)=true:=by rw[hc,e93];rfl
    have hR:k'=j0/\fb=fa/\inb=inn0:=by
     simp only[Rf.items,e93,if_true,Option.some.injEq,Prod.mk.injEq]at hI;exact hI
    obtain⟨rfl,rfl,rfl⟩:=hR;clear hc hr hd hI HS h0 e93;go_wp2_with fail
    go_loopw [14] (fun i w'=>∃k2:Nat,k2<=256/\i=.int .i64 k2/\BRow w.heap.size (fun x=>if x<k2 then inb x else inb x) w'/\Below w.heap.size w w') (fun i _=>256-(intOf i).toNat)
    case atStart=>exact⟨0,by omega,rfl,hB.congr (by simp),hW⟩
    case round=>
     obtain⟨k2,hk2,rfl,hB2,hW2⟩:=hrel;by_cases hlt:k2<256
     ·obtain⟨hcc,hff⟩:=hB2 k2 hlt;simp only[Nat.lt_irrefl,if_false]at hcc;have hB3:=hB2.set k2 hlt (inb k2);go_wp2_with fail;go_roundw
      case rel=>
       refine⟨k2+1,by omega,by go_num,hB3.congr (fun y _=>?_),hW2.trans (q0E _ _ _ _)⟩;by_cases e1:y=k2
       ·subst e1;simp
       ·by_cases e2:y<k2
        ·simp[e1,e2,Nat.lt_succ_of_lt e2]
        ·simp[e1,e2,show ¬y<k2+1 by omega]
      case measure=>simp[intOf];omega
     ·go_wp2_with fail;go_ret3;exact⟨by first|rfl|(simp;done)|go_num,hB2.congr (fun y hy=>by simp[show y<k2 by omega]),hW2⟩
   ·have hb:((s[k'].toNat:Int)==93)=false:=by rw[hc];exact q0J e93
    rcases ho:Rf.one (c::r)with _|⟨a,n⟩
    ·simp only[Rf.items,if_neg e93,ho]at hI;cases hI
    have ho':Rf.one (s.data.toList.drop k')=some (a,n):=by rw[hd];exact ho
    obtain⟨ha0,ha1,hn1,hn4⟩:=Rf.one_bd ho;rcases hd2:(c::r).drop n with _|⟨d,l'⟩
    ·simp only[Rf.items,if_neg e93,ho,hd2]at hI;cases hI
    have hd2':s.data.toList.drop (k'+n)=d::l':=by rw[<-List.drop_drop,hd];exact hd2
    obtain⟨hkn,hcn,hrn⟩:=q0m hd2';by_cases e45:d=45
    ·have hb45:((s[k'+n].toNat:Int)==45)=true:=by rw[hcn,e45];rfl
     rcases ho2:Rf.one l' with _|⟨b,n'⟩
     ·simp only[Rf.items,if_neg e93,ho,hd2,if_pos e45,ho2]at hI;cases hI
     have ho2':Rf.one (s.data.toList.drop (k'+n+1))=some (b,n'):=by rw[hrn];exact ho2
     obtain⟨hb0,hb1,hn1',hn4'⟩:=Rf.one_bd ho2;have hItems:Hid (Rf.items f (s.data.toList.drop (k'+n+1+n')) (k'+n+1+n') (if b<a/\fb<0 then (k':Int) else fb) (fun y=>inb y || (decide (a<=(y:Int))&&decide ((y:Int)<=b)))=some (j0,fa,inn0)):=by
      show _=_;simp only[Rf.items,if_neg e93,ho,hd2,if_pos e45,ho2]at hI;rw[<-List.drop_drop,hrn];exact hI
     clear hc hr hd hI HS h0 e93 hcn hrn hd2 hd2' e45;by_cases hf:b<a/\fb<0
     ·rw[if_pos hf]at hItems;go_wp2_with fail;refine(q1T s k' _ a n _ hs rfl ho').mono ?_;rintro e w1 ⟨rfl,q,rfl⟩;go_wp2_with fail;refine(q1T s (k'+n+1) _ b n' _ hs (by omega) ho2').mono ?_;rintro e w1 ⟨rfl,q2,rfl⟩;clear ho ho' ho2 ho2';go_wp2_with fail
      go_loopw [13] (fun x w'=>∃t:Int,x=.int .i64 t/\a<=t/\(t=a\/t<=b+1)/\BRow w.heap.size (fun y=>inb y || (decide (a<=(y:Int))&&decide ((y:Int)<t))) w'/\Below w.heap.size w w') (fun x _=>(257-intOf x).toNat)
      case atStart=>exact⟨a,rfl,Int.le_refl _,Or.inl rfl,BRow.congr (by first|exact hB|exact hB.drewN _|exact(hB.drewN _).drewN _) (q1q inb a),by first|exact hW|exact hW.trans (q0p _ _ _)|exact(hW.trans (q0p _ _ _)).trans (q0p _ _ _)⟩
      case round=>
       obtain⟨t,rfl,ht0,ht1,hB2,hW2⟩:=hrel;by_cases hle:t<=b
       ·first
        |(exfalso;omega)
        |(
          obtain⟨tn,rfl⟩:=Int.eq_ofNat_of_zero_le (show 0<=t by omega);obtain⟨hcc,hff⟩:=hB2 tn (by omega);have hB3:=hB2.set tn (by omega) true;have htn:(tn:Int)<256:=by omega
          go_wp2_with fail;go_roundw
          case rel=>exact⟨(tn:Int)+1,rfl,by omega,by omega,hB3.congr (q1I inb a tn ht0),hW2.trans (q0E _ _ _ _)⟩
          case measure=>simp[intOf];omega)
       ·go_wp2_with fail;go_roundw
        case rel=>exact⟨f,k'+n+1+n',(k':Int),_,by go_num,rfl,hB2.congr (q2b inb a b t ht0 ht1 hle),hW2,hItems⟩
        case measure=>simp[intOf];omega
     ·rw[if_neg hf]at hItems;have hg:b<a->¬fb<0:=fun h1 h2=>hf ⟨h1,h2⟩
      clear hf;by_cases hba:b<a
      all_goals
       go_wp2_with fail;refine(q1T s k' _ a n _ hs rfl ho').mono ?_;rintro e w1 ⟨rfl,q,rfl⟩;go_wp2_with fail;refine(q1T s (k'+n+1) _ b n' _ hs (by omega) ho2').mono ?_;rintro e w1 ⟨rfl,q2,rfl⟩;go_wp2_with fail
       go_loopw [13] (fun x w'=>∃t:Int,x=.int .i64 t/\a<=t/\(t=a\/t<=b+1)/\BRow w.heap.size (fun y=>inb y || (decide (a<=(y:Int))&&decide ((y:Int)<t))) w'/\Below w.heap.size w w') (fun x _=>(257-intOf x).toNat)
       case atStart=>exact⟨a,rfl,Int.le_refl _,Or.inl rfl,BRow.congr (by first|exact hB|exact hB.drewN _|exact(hB.drewN _).drewN _) (q1q inb a),by first|exact hW|exact hW.trans (q0p _ _ _)|exact(hW.trans (q0p _ _ _)).trans (q0p _ _ _)⟩
       case round=>
        obtain⟨t,rfl,ht0,ht1,hB2,hW2⟩:=hrel;by_cases hle:t<=b
        ·first
         |(exfalso;omega)
         |(
           obtain⟨tn,rfl⟩:=Int.eq_ofNat_of_zero_le (show 0<=t by omega);obtain⟨hcc,hff⟩:=hB2 tn (by omega);have hB3:=hB2.set tn (by omega) true;have htn:(tn:Int)<256:=by omega
           go_wp2_with fail;go_roundw
           case rel=>exact⟨(tn:Int)+1,rfl,by omega,by omega,hB3.congr (q1I inb a tn ht0),hW2.trans (q0E _ _ _ _)⟩
           case measure=>simp[intOf];omega)
        ·go_wp2_with fail;go_roundw
         case rel=>exact⟨f,k'+n+1+n',fb,_,by go_num,rfl,hB2.congr (q2b inb a b t ht0 ht1 hle),hW2,hItems⟩
         case measure=>simp[intOf];omega
    ·have hb45:((s[k'+n].toNat:Int)==45)=false:=by rw[hcn];exact q0J e45
     have hItems:Hid (Rf.items f (s.data.toList.drop (k'+n)) (k'+n) fb (fun y=>inb y || (decide (a<=(y:Int))&&decide ((y:Int)<=a)))=some (j0,fa,inn0)):=by
      show _=_;simp only[Rf.items,if_neg e93,ho,hd2,if_neg e45]at hI;rw[hd2'];exact hI
     clear hc hr hd hI HS h0 e93 hcn hrn hd2 hd2' e45;go_wp2_with fail;refine(q1T s k' _ a n _ hs rfl ho').mono ?_;rintro e w1 ⟨rfl,q,rfl⟩;go_wp2_with fail
     go_loopw [13] (fun x w'=>∃t:Int,x=.int .i64 t/\a<=t/\(t=a\/t<=a+1)/\BRow w.heap.size (fun y=>inb y || (decide (a<=(y:Int))&&decide ((y:Int)<t))) w'/\Below w.heap.size w w') (fun x _=>(257-intOf x).toNat)
     case atStart=>exact⟨a,rfl,Int.le_refl _,Or.inl rfl,BRow.congr (by first|exact hB|exact hB.drewN _|exact(hB.drewN _).drewN _) (q1q inb a),by first|exact hW|exact hW.trans (q0p _ _ _)|exact(hW.trans (q0p _ _ _)).trans (q0p _ _ _)⟩
     case round=>
      obtain⟨t,rfl,ht0,ht1,hB2,hW2⟩:=hrel;by_cases hle:t<=a
      ·first
       |(exfalso;omega)
       |(
         obtain⟨tn,rfl⟩:=Int.eq_ofNat_of_zero_le (show 0<=t by omega);obtain⟨hcc,hff⟩:=hB2 tn (by omega);have hB3:=hB2.set tn (by omega) true;have htn:(tn:Int)<256:=by omega
         go_wp2_with fail;go_roundw
         case rel=>exact⟨(tn:Int)+1,rfl,by omega,by omega,hB3.congr (q1I inb a tn ht0),hW2.trans (q0E _ _ _ _)⟩
         case measure=>simp[intOf];omega)
      ·go_wp2_with fail;go_roundw
       case rel=>exact⟨f,k'+n,fb,_,by go_num,rfl,hB2.congr (q2b inb a a t ht0 ht1 hle),hW2,hItems⟩
       case measure=>simp[intOf];omega
theorem q6R (s:ByteArray) (k:Nat) (i:Int) (j:Nat) (fa:Int) (inn:Nat->Bool) (w:World) (hs:s.size<=40) (hi:i=k) (h:Rf.set (s.data.toList.drop (k+1)) k=some (j,fa,inn)):
  Calls Tryz.prog 160 #[.string s,.int .i64 i] w fun e w'=>e=.returned (.tuple #[.slice (some ⟨w.heap.size,0,none⟩) 256 256,.int .i64 j,.int .i64 fa])/\BRow w.heap.size inn w'/\Below w.heap.size w w':=by
 subst hi;exact q9X s k j fa inn w hs h
theorem q6K (s:ByteArray) (v:Int) (f0:Nat) (w:World) (hs:s.size<=40) (h:Rf.valueFrom s.data.toList f0 0=some v):
  Calls Tryz.prog 110 #[.string s] w fun e w'=>e=.returned (.int .i64 v)/\Below w.heap.size w w':=by
 go_enter Tryz.func110,Tryz.ntmps110;go_wp2_with fail
 go_loopw [3] (fun i w'=>∃(f k:Nat),i=.int .i64 k/\Below w.heap.size w w'/\Hid (Rf.valueFrom s.data.toList f k=some v)) (fun i _=>s.size-(intOf i).toNat)
 case atStart=>exact⟨f0,0,rfl,Below.refl _ _,h⟩
 case round=>
  clear h;obtain⟨f,k,rfl,hW,HS⟩:=hrel;rcases f with _|f
  ·exact absurd HS.out (by simp[Rf.valueFrom])
  have hI:=HS.out;clear HS;rcases hd:s.data.toList.drop k with _|⟨c,r⟩
  ·simp only[Rf.valueFrom,hd,Option.some.injEq]at hI;have hk:s.size<=k:=by simpa using hd
   clear hd;go_wp2_with fail;go_ret;exact⟨q0l hI,hW⟩
  obtain⟨hk,hc,hr⟩:=q0m hd;simp only[Rf.valueFrom,hd]at hI;by_cases e92:c=92
  ·have hb:((s[k].toNat:Int)==92)=true:=by rw[hc,e92];rfl
   rw[if_pos e92]at hI;rcases ho:Rf.one (c::r)with _|⟨a,n⟩
   ·rw[ho]at hI;cases hI
   have ho':Rf.one (s.data.toList.drop k)=some (a,n):=by rw[hd];exact ho
   obtain⟨ha0,ha1,hn1,hn4⟩:=Rf.one_bd ho;rw[ho]at hI;have HI:=hyd hI;clear hI hd hc hr e92 ho;go_wp2_with fail;refine(q1T s k _ a n _ hs rfl ho').mono ?_;rintro e w1 ⟨rfl,q,rfl⟩;go_wp2_with fail;go_roundw
   case rel=>exact⟨f,k+n,by go_num,hW.trans (q0p _ _ _),HI⟩
   case measure=>simp[intOf];omega
  have hb92:((s[k].toNat:Int)==92)=false:=by rw[hc];exact q0J e92
  rw[if_neg e92]at hI;by_cases e91:c=91
  ·have hb:((s[k].toNat:Int)==91)=true:=by rw[hc,e91];rfl
   rw[if_pos e91]at hI;rcases ho:Rf.set r k with _|⟨j,fa,inn⟩
   ·rw[ho]at hI;cases hI
   have ho':Rf.set (s.data.toList.drop (k+1)) k=some (j,fa,inn):=by rw[hr];exact ho
   have hj:=Rf.set_ge ho;rw[ho]at hI;simp only at hI;by_cases hfa:0<=fa
   ·rw[if_pos hfa]at hI;have HI:=hyd hI;clear hI hd hc hr e92 e91 ho;go_wp2_with fail;refine(q6R s k _ j fa inn _ hs rfl ho').mono ?_;rintro e w1 ⟨rfl,hB,hW1⟩;go_wp2_with fail;go_ret;exact⟨q0l (Option.some.inj HI.out),hW.trans (hW1.mono hW.size)⟩
   ·rw[if_neg hfa]at hI;have HI:=hyd hI;clear hI hd hc hr e92 e91 ho;go_wp2_with fail;refine(q6R s k _ j fa inn _ hs rfl ho').mono ?_;rintro e w1 ⟨rfl,hB,hW1⟩;go_wp2_with fail;go_roundw
    case rel=>exact⟨f,j,rfl,hW.trans (hW1.mono hW.size),HI⟩
    case measure=>simp[intOf];omega
  have hb91:((s[k].toNat:Int)==91)=false:=by rw[hc];exact q0J e91
  rw[if_neg e91]at hI;by_cases e123:c=123
  ·have hb:((s[k].toNat:Int)==123)=true:=by rw[hc,e123];rfl
   rw[if_pos e123]at hI;rcases r with _|⟨x,_|⟨y,r'⟩⟩
   ·cases hI
   ·cases hI
   obtain⟨hk1,hc1,hr1⟩:=q0m hr;obtain⟨hk2,hc2,hr2⟩:=q0m hr1;have hk2':k+2<s.size:=hk2;have hc2':s[k+2]=y:=hc2;have i1:(0:Int)<=k+1/\(k:Int)+1<(s.size:Int):=by omega
   have i2:(0:Int)<=k+2/\(k:Int)+2<(s.size:Int):=by omega
   simp only at hI;by_cases e44:y=44
   ·have hb44:((s[k+2].toNat:Int)==44)=true:=by rw[hc2',e44];rfl
    rw[if_pos e44]at hI;rcases r' with _|⟨z,r''⟩
    ·cases hI
    obtain⟨hk3,hc3,hr3⟩:=q0m hr2;have hk3':k+3<s.size:=hk3;have hc3':s[k+3]=z:=hc3;have i3:(0:Int)<=k+3/\(k:Int)+3<(s.size:Int):=by omega
    simp only at hI;by_cases hzx:z.toNat<x.toNat
    ·rw[if_pos hzx]at hI;have HI:Hid (some (k:Int)=some v):=hI;rw[<-hc1,<-hc3']at hzx;have hzx':(s[k+3].toNat:Int)<(s[k+1].toNat:Int):=by omega
     clear hI hd hc hr e92 e91 e123 hc1 hr1 hc2 hr2 hc3 hr3 hc2' hc3' hk2 hk3 e44 hzx;go_wp2_with fail
     go_quiet (fail)
     go_wp2_with fail;go_ret;exact⟨q0l (Option.some.inj HI.out),hW.trans (q0p _ _ _)⟩
    ·rw[if_neg hzx]at hI;have HI:Hid (Rf.valueFrom s.data.toList f (k+1)=some v):=hI;rw[<-hc1,<-hc3']at hzx;have hzx':¬(s[k+3].toNat:Int)<(s[k+1].toNat:Int):=by omega
     clear hI hd hc hr e92 e91 e123 hc1 hr1 hc2 hr2 hc3 hr3 hc2' hc3' hk2 hk3 e44 hzx;go_wp2_with fail
     go_quiet (fail)
     go_wp2_with fail;go_roundw
     case rel=>exact⟨f,k+1,by go_num,hW.trans (q0p _ _ _),HI⟩
     case measure=>simp[intOf];omega
   ·have hb44:((s[k+2].toNat:Int)==44)=false:=by rw[hc2'];exact q0J e44
    rw[if_neg e44]at hI;have HI:=hyd hI;clear hI hd hc hr e92 e91 e123 hc1 hr1 hc2 hr2 hc2' hk2 e44;go_wp2_with fail
    go_quiet (fail)
    go_wp2_with fail;go_roundw
    case rel=>exact⟨f,k+1,by go_num,hW.trans (q0p _ _ _),HI⟩
    case measure=>simp[intOf];omega
  ·have hb:((s[k].toNat:Int)==123)=false:=by rw[hc];exact q0J e123
   rw[if_neg e123]at hI;have HI:=hyd hI;clear hI hd hc hr e92 e91 e123;go_wp2_with fail
   go_quiet (fail)
   go_wp2_with fail;go_roundw
   case rel=>exact⟨f,k+1,by go_num,hW.trans (q0p _ _ _),HI⟩
   case measure=>simp[intOf];omega
theorem y0N (s:ByteArray) (v:Int) (f0:Nat) (w:World) (hs:s.size<=40) (h:Rf.emptyFrom s.data.toList f0 0=some v):
  Calls Tryz.prog 111 #[.string s] w fun e w'=>e=.returned (.int .i64 v)/\Below w.heap.size w w':=by
 go_enter Tryz.func111,Tryz.ntmps111;go_wp2_with fail
 go_loopw [3] (fun i w'=>∃(f k:Nat),i=.int .i64 k/\Below w.heap.size w w'/\Hid (Rf.emptyFrom s.data.toList f k=some v)) (fun i _=>s.size-(intOf i).toNat)
 case atStart=>exact⟨f0,0,rfl,Below.refl _ _,h⟩
 case round=>
  clear h;obtain⟨f,k,rfl,hW,HS⟩:=hrel;rcases f with _|f
  ·exact absurd HS.out (by simp[Rf.emptyFrom])
  have hI:=HS.out;clear HS;rcases hd:s.data.toList.drop k with _|⟨c,r⟩
  ·simp only[Rf.emptyFrom,hd,Option.some.injEq]at hI;have hk:s.size<=k:=by simpa using hd
   clear hd;go_wp2_with fail;go_ret;exact⟨q0l hI,hW⟩
  obtain⟨hk,hc,hr⟩:=q0m hd;simp only[Rf.emptyFrom,hd]at hI;by_cases e92:c=92
  ·have hb:((s[k].toNat:Int)==92)=true:=by rw[hc,e92];rfl
   rw[if_pos e92]at hI;rcases ho:Rf.one (c::r)with _|⟨a,n⟩
   ·rw[ho]at hI;cases hI
   have ho':Rf.one (s.data.toList.drop k)=some (a,n):=by rw[hd];exact ho
   obtain⟨ha0,ha1,hn1,hn4⟩:=Rf.one_bd ho;rw[ho]at hI;have HI:=hyd hI;clear hI hd hc hr e92 ho;go_wp2_with fail;refine(q1T s k _ a n _ hs rfl ho').mono ?_;rintro e w1 ⟨rfl,q,rfl⟩;go_wp2_with fail;go_roundw
   case rel=>exact⟨f,k+n,by go_num,hW.trans (q0p _ _ _),HI⟩
   case measure=>simp[intOf];omega
  have hb92:((s[k].toNat:Int)==92)=false:=by rw[hc];exact q0J e92
  rw[if_neg e92]at hI;by_cases e91:c=91
  ·have hb:((s[k].toNat:Int)==91)=true:=by rw[hc,e91];rfl
   rw[if_pos e91]at hI;rcases ho:Rf.set r k with _|⟨j,fa,inn⟩
   ·rw[ho]at hI;cases hI
   have ho':Rf.set (s.data.toList.drop (k+1)) k=some (j,fa,inn):=by rw[hr];exact ho
   have hj:=Rf.set_ge ho;rw[ho]at hI;have HI:=hyd hI;clear hI hd hc hr e92 e91 ho;go_wp2_with fail;refine(q6R s k _ j fa inn _ hs rfl ho').mono ?_;rintro e w1 ⟨rfl,hB,hW1⟩;have hW2:=hW.trans (hW1.mono hW.size);clear ho';go_wp2_with fail
   go_loop [7,8] (fun n x=>∃k2:Nat,k2<=256/\x=.int .i64 k2/\n=.int .i64 (Rf.cntTo inn k2)) (fun _ x=>256-(intOf x).toNat)
   case atStart=>exact⟨0,by omega,rfl,rfl⟩
   case round=>
    obtain⟨k2,hk2,rfl,rfl⟩:=hrel;have hle:=Rf.cntTo_le inn k2;by_cases hlt:k2<256
    ·obtain⟨hcc,hff⟩:=hB k2 hlt;cases hin:inn k2
     ·rw[hin]at hcc;have HN:Hid (Rf.cntTo inn (k2+1)=Rf.cntTo inn k2):=by show _=_;simp[Rf.cntTo,hin]
      clear hin;go_wp2_with fail
      go_round
      case rel=>exact⟨k2+1,by omega,by go_num,by rw[HN.out]⟩
      case measure=>simp[intOf];omega
     ·rw[hin]at hcc;have HN:Hid (Rf.cntTo inn (k2+1)=Rf.cntTo inn k2+1):=by show _=_;simp[Rf.cntTo,hin]
      clear hin;go_wp2_with fail
      go_round
      case rel=>exact⟨k2+1,by omega,by go_num,by rw[HN.out];go_num⟩
      case measure=>simp[intOf];omega
    ·have hk256:k2=256:=by omega
     subst hk256;by_cases h0:Rf.cntTo inn 256=0
     ·have h0':((Rf.cntTo inn 256:Int)==0)=true:=by simp[h0]
      have HI2:=HI.out;rw[if_pos h0]at HI2;have HI3:Hid (some (k:Int)=some v):=HI2;clear HI2 h0;go_wp2_with fail;go_ret;exact⟨q0l (Option.some.inj HI3.out),hW2⟩
     ·have h0':((Rf.cntTo inn 256:Int)==0)=false:=by simp[h0]
      have HI2:=HI.out;rw[if_neg h0]at HI2;have HI3:Hid (Rf.emptyFrom s.data.toList f j=some v):=HI2;clear HI2 h0;go_wp2_with fail;go_roundw
      case rel=>exact⟨f,j,rfl,hW2,HI3⟩
      case measure=>simp[intOf];omega
  have hb91:((s[k].toNat:Int)==91)=false:=by rw[hc];exact q0J e91
  rw[if_neg e91]at hI;have HI:=hyd hI;clear hI hd hc hr e92 e91;go_wp2_with fail;go_roundw
  case rel=>exact⟨f,k+1,by go_num,hW,HI⟩
  case measure=>simp[intOf];omega
theorem q3S (s:ByteArray) (k:Nat) (i:Int) (n:Nat) (w:World) (hs:s.size<=40) (hi:i=k) (h:Rf.suffixed s.data.toList k=some n):
  Calls Tryz.prog 163 #[.string s,.int .i64 i] w fun e w'=>e=.returned (.int .i64 n)/\w'=w:=by
 subst hi;rcases hd:s.data.toList.drop k with _|⟨c,r⟩
 ·simp[Rf.suffixed,hd]at h
 obtain⟨hk,hc,hr⟩:=q0m hd;simp only[Rf.suffixed,hd]at h;by_cases e:c=123
 ·have hb:((s[k].toNat:Int)==123)=true:=by rw[hc,e];rfl
  rw[if_pos e]at h;clear hd hc hr e;go_enter Tryz.func163,Tryz.ntmps163;go_wp2_with fail
  go_loop [1] (fun i=>∃(f k':Nat),i=.int .i64 k'/\Hid (Rf.closeFrom s.data.toList f k'=some n)) (fun i=>s.size-(intOf i).toNat)
  case atStart=>exact⟨_,k,rfl,h⟩
  case round=>
   clear h;obtain⟨f,k',rfl,HS⟩:=hrel;rcases f with _|f
   ·exact absurd HS.out (by simp[Rf.closeFrom])
   have hI:=HS.out;clear HS;rcases hd:s.data.toList.drop k' with _|⟨c,r⟩
   ·simp[Rf.closeFrom,hd]at hI
   obtain⟨hk',hc,hr⟩:=q0m hd;simp only[Rf.closeFrom,hd]at hI;by_cases e:c=125
   ·have hb:((s[k'].toNat:Int)==125)=true:=by rw[hc,e];rfl
    rw[if_pos e]at hI;have HI:=hyd hI;clear hI hd hc hr e;go_wp2_with fail;go_ret;exact⟨q0l (by have:=Option.some.inj HI.out;omega),rfl⟩
   ·have hb:((s[k'].toNat:Int)==125)=false:=by rw[hc];exact q0J e
    rw[if_neg e]at hI;have HI:=hyd hI;clear hI hd hc hr e;go_wp2_with fail
    go_round
    case rel=>exact⟨f,k'+1,by go_num,HI⟩
    case measure=>simp[intOf];omega
 ·have hb:((s[k].toNat:Int)==123)=false:=by rw[hc];exact q0J e
  rw[if_neg e]at h;have HI:=hyd h;clear hd hc hr e h;go_enter Tryz.func163,Tryz.ntmps163;go_wp2_with fail;go_ret;exact⟨q0l (by have:=Option.some.inj HI.out;omega),rfl⟩
theorem q9a (s:ByteArray) (n:Nat) (w:World) (hs:s.size<=40) (h:Rf.atom s.data.toList=some n):
  Calls Tryz.prog 161 #[.string s] w fun e w'=>e=.returned (.int .i64 n)/\Below w.heap.size w w':=by
 rcases hd:s.data.toList.drop 0 with _|⟨c,r⟩
 ·rw[List.drop_zero]at hd;rw[hd]at h;cases h
 obtain⟨hk,hc,hr⟩:=q0m hd;have hl:s.data.toList=c::r:=by rw[List.drop_zero]at hd;exact hd
 by_cases e92:c=92
 ·have hb:((s[0].toNat:Int)==92)=true:=by rw[hc,e92];rfl
  have ⟨a,ho⟩:∃a,Rf.one (s.data.toList.drop 0)=some (a,n):=by
   rw[hl]at h ⊢;simp only[Rf.atom,if_pos e92,List.drop_zero]at h ⊢;rcases ho:Rf.one (c::r)with _|⟨a,n'⟩
   ·rw[ho]at h;cases h
   ·rw[ho]at h;simp at h;subst h;exact⟨a,rfl⟩
  clear hd hc hr hl e92 h;go_enter Tryz.func161,Tryz.ntmps161;go_wp2_with fail;refine(q1T s 0 _ a n _ hs rfl ho).mono ?_;rintro e w1 ⟨rfl,q,rfl⟩;go_wp2_with fail;go_ret;exact⟨q0l (by omega),q0p _ _ _⟩
 have hb92:((s[0].toNat:Int)==92)=false:=by rw[hc];exact q0J e92
 by_cases e91:c=91
 ·have hb:((s[0].toNat:Int)==91)=true:=by rw[hc,e91];rfl
  have ⟨fa,inn,ho⟩:∃fa inn,Rf.set (s.data.toList.drop (0+1)) 0=some (n,fa,inn):=by
   rw[hr];rw[hl]at h;simp only[Rf.atom,if_neg e92,if_pos e91]at h;rcases ho:Rf.set r 0 with _|⟨n',fa,inn⟩
   ·rw[ho]at h;cases h
   ·rw[ho]at h;simp at h;subst h;exact⟨fa,inn,rfl⟩
  clear hd hc hr hl e92 h e91;go_enter Tryz.func161,Tryz.ntmps161;go_wp2_with fail;refine(q6R s 0 _ n fa inn _ hs rfl ho).mono ?_;rintro e w1 ⟨rfl,hB,hW⟩;go_wp2_with fail;go_ret;exact⟨rfl,hW⟩
 have hb91:((s[0].toNat:Int)==91)=false:=by rw[hc];exact q0J e91
 by_cases e40:c=40
 ·have hb:((s[0].toNat:Int)==40)=true:=by rw[hc,e40];rfl
  have hg:Rf.groupFrom s.data.toList (r.length+2) 0 0=some n:=by
   rw[hl]at h ⊢;simp only[Rf.atom,if_neg e92,if_neg e91,if_pos e40]at h;exact h
  clear hd hc hr hl e92 h e91 e40;go_enter Tryz.func161,Tryz.ntmps161;go_wp2_with fail
  go_loopw [8,9] (fun o i w'=>∃(f k:Nat) (op:Int),i=.int .i64 k/\o=.int .i64 op/\-(k:Int)<=op/\op<=k/\Below w.heap.size w w'/\Hid (Rf.groupFrom s.data.toList f k op=some n)) (fun _ i _=>s.size-(intOf i).toNat)
  case atStart=>exact⟨_,0,0,rfl,rfl,by omega,by omega,Below.refl _ _,hg⟩
  case round=>
   clear hg;obtain⟨f,k,op,rfl,rfl,ho0,ho1,hW,HS⟩:=hrel;rcases f with _|f
   ·exact absurd HS.out (by simp[Rf.groupFrom])
   have hI:=HS.out;clear HS;rcases hd:s.data.toList.drop k with _|⟨c,r⟩
   ·simp only[Rf.groupFrom,hd,Option.some.injEq]at hI;have hk:s.size<=k:=by simpa using hd
    have HI:=hyd hI;clear hd hI;go_wp2_with fail;go_ret;exact⟨q0l (by have:=HI.out;omega),hW⟩
   obtain⟨hk,hc,hr⟩:=q0m hd;simp only[Rf.groupFrom,hd]at hI;by_cases e92:c=92
   ·have hb:((s[k].toNat:Int)==92)=true:=by rw[hc,e92];rfl
    rw[if_pos e92]at hI;rcases ho:Rf.one (c::r)with _|⟨a,n'⟩
    ·rw[ho]at hI;cases hI
    have ho':Rf.one (s.data.toList.drop k)=some (a,n'):=by rw[hd];exact ho
    obtain⟨ha0,ha1,hn1,hn4⟩:=Rf.one_bd ho;rw[ho]at hI;have HI:=hyd hI;clear hI hd hc hr e92 ho;go_wp2_with fail;refine(q1T s k _ a n' _ hs rfl ho').mono ?_;rintro e w1 ⟨rfl,q,rfl⟩;go_wp2_with fail;go_roundw
    case rel=>exact⟨f,k+n',op,by go_num,rfl,by omega,by omega,hW.trans (q0p _ _ _),HI⟩
    case measure=>simp[intOf];omega
   have hb92:((s[k].toNat:Int)==92)=false:=by rw[hc];exact q0J e92
   rw[if_neg e92]at hI;by_cases e91:c=91
   ·have hb:((s[k].toNat:Int)==91)=true:=by rw[hc,e91];rfl
    rw[if_pos e91]at hI;rcases ho:Rf.set r k with _|⟨j,fa,inn⟩
    ·rw[ho]at hI;cases hI
    have ho':Rf.set (s.data.toList.drop (k+1)) k=some (j,fa,inn):=by rw[hr];exact ho
    have hj:=Rf.set_ge ho;rw[ho]at hI;have HI:=hyd hI;clear hI hd hc hr e92 e91 ho;go_wp2_with fail;refine(q6R s k _ j fa inn _ hs rfl ho').mono ?_;rintro e w1 ⟨rfl,hB,hW1⟩;go_wp2_with fail;go_roundw
    case rel=>exact⟨f,j,op,rfl,rfl,by omega,by omega,hW.trans (hW1.mono hW.size),HI⟩
    case measure=>simp[intOf];omega
   have hb91:((s[k].toNat:Int)==91)=false:=by rw[hc];exact q0J e91
   rw[if_neg e91]at hI;by_cases e40:c=40
   ·have hb:((s[k].toNat:Int)==40)=true:=by rw[hc,e40];rfl
    rw[if_pos e40]at hI;have HI:=hyd hI;clear hI hd hc hr e92 e91 e40;go_wp2_with fail;go_roundw
    case rel=>exact⟨f,k+1,op+1,by go_num,rfl,by omega,by omega,hW,HI⟩
    case measure=>simp[intOf];omega
   have hb40:((s[k].toNat:Int)==40)=false:=by rw[hc];exact q0J e40
   rw[if_neg e40]at hI;by_cases e41:c=41
   ·have hb:((s[k].toNat:Int)==41)=true:=by rw[hc,e41];rfl
    rw[if_pos e41]at hI;by_cases h1:op-1=0
    ·rw[if_pos h1]at hI;have HI:=hyd hI;have h1':((op-1)==0)=true:=by simp;omega
     clear hI hd hc hr e92 e91 e40 e41 h1;go_wp2_with fail;go_ret;exact⟨q0l (by have:=Option.some.inj HI.out;omega),hW⟩
    ·rw[if_neg h1]at hI;have HI:=hyd hI;have h1':((op-1)==0)=false:=by simp;omega
     clear hI hd hc hr e92 e91 e40 e41 h1;go_wp2_with fail;go_roundw
     case rel=>exact⟨f,k+1,op-1,by go_num,rfl,by omega,by omega,hW,HI⟩
     case measure=>simp[intOf];omega
   have hb41:((s[k].toNat:Int)==41)=false:=by rw[hc];exact q0J e41
   rw[if_neg e41]at hI;have HI:=hyd hI;clear hI hd hc hr e92 e91 e40 e41;go_wp2_with fail;go_roundw
   case rel=>exact⟨f,k+1,op,by go_num,rfl,by omega,by omega,hW,HI⟩
   case measure=>simp[intOf];omega
 have hb40:((s[0].toNat:Int)==40)=false:=by rw[hc];exact q0J e40
 have hn:n=1:=by
  rw[hl]at h;simp only[Rf.atom,if_neg e92,if_neg e91,if_neg e40,Option.some.injEq]at h;exact h.symm
 subst hn;clear hd hc hr hl e92 h e91 e40;go_enter Tryz.func161,Tryz.ntmps161;go_wp2_with fail;go_ret;exact⟨rfl,Below.refl _ _⟩
theorem q4y (s:ByteArray) (n:Nat) (w:World) (hs:s.size<=40) (h:Rf.piece s.data.toList=some n):
  Calls Tryz.prog 112 #[.string s] w fun e w'=>e=.returned (.int .i64 n)/\Below w.heap.size w w':=by
 rcases ha:Rf.atom s.data.toList with _|n0
 ·simp[Rf.piece,ha]at h
 simp only[Rf.piece,ha]at h;go_enter Tryz.func112,Tryz.ntmps112;go_wp2_with fail;refine(q9a s n0 _ hs ha).mono ?_;rintro e w1 ⟨rfl,hW⟩;clear ha;go_wp2_with fail
 go_loop [3] (fun i=>∃(f k:Nat),i=.int .i64 k/\Hid (Rf.pieceFrom s.data.toList f k=some n)) (fun i=>s.size-(intOf i).toNat)
 case atStart=>exact⟨_,n0,rfl,h⟩
 case round=>
  clear h;obtain⟨f,k,rfl,HS⟩:=hrel;rcases f with _|f
  ·exact absurd HS.out (by simp[Rf.pieceFrom])
  have hI:=HS.out;clear HS;rcases hd:s.data.toList.drop k with _|⟨c,r⟩
  ·simp only[Rf.pieceFrom,hd,Option.some.injEq]at hI;have hk:s.size<=k:=by simpa using hd
   have HI:=hyd hI;clear hd hI;go_wp2_with fail;go_ret;exact⟨q0l (by have:=HI.out;omega),hW⟩
  obtain⟨hk,hc,hr⟩:=q0m hd;simp only[Rf.pieceFrom,hd]at hI;rw[<-hc]at hI;cases hh:Rf.has Rf.suffixes s[k].toNat
  ·rw[hh]at hI;have HI:=hyd hI;have Hh:=hyd hh;clear hI hd hc hr hh;go_wp2_with fail;refine(q6t _ _ _ (by decide)).mono ?_;rintro e w' ⟨rfl,rfl⟩;rw[show Rf.has (ByteArray.data { data:=#[42,43,63,123] }).toList ↑s[k].toNat=false from Hh.out];go_wp2_with fail;go_ret;exact⟨q0l (by have:=Option.some.inj HI.out;omega),hW⟩
  ·rw[hh]at hI;rcases hsf:Rf.suffixed s.data.toList k with _|n'
   ·rw[hsf]at hI;simp at hI
   rw[hsf]at hI;have hgt:=Rf.suffixed_gt hsf;have HI:=hyd hI;have Hh:=hyd hh;clear hI hd hc hr hh;go_wp2_with fail;refine(q6t _ _ _ (by decide)).mono ?_;rintro e w' ⟨rfl,rfl⟩;rw[show Rf.has (ByteArray.data { data:=#[42,43,63,123] }).toList ↑s[k].toNat=true from Hh.out];go_wp2_with fail;refine(q3S s k _ n' _ hs rfl hsf).mono ?_;rintro e w' ⟨rfl,rfl⟩;go_wp2_with fail
   go_round
   case rel=>exact⟨f,n',rfl,HI⟩
   case measure=>simp[intOf];omega
theorem q2J (s:ByteArray) (a b:Nat):(s.extract a b).data.toList=(s.data.toList.take b).drop a:=by
 simp[ByteArray.data_extract,List.extract_eq_take_drop,List.drop_take]
theorem y2o (s:ByteArray) (b:Nat):(s.extract 0 b).data.toList=s.data.toList.take b:=by
 rw[q2J];rfl
theorem q3u (s:ByteArray) (a:Nat):(s.extract a s.size).data.toList=s.data.toList.drop a:=by
 rw[q2J,List.take_of_length_le (by simp)]
theorem q1v (s:ByteArray) (a b:Nat) (h:s.size<=40):(s.extract a b).size<=40:=by
 simp[ByteArray.size_extract];omega
theorem q2u (s:ByteArray) (n:Nat) (w:World) (hs:s.size<=40) (h:Rf.split s.data.toList=some n):
  Calls Tryz.prog 164 #[.string s] w fun e w'=>e=.returned (.tuple #[.string (s.extract 0 n),.string (s.extract n s.size)])/\Below w.heap.size w w':=by
 rcases ha:Rf.atom s.data.toList with _|n0
 ·simp[Rf.split,ha]at h
 simp only[Rf.split,ha]at h;have h0:n0<=s.size:=by have:=(Rf.atom_le ha).2;simpa using this
 go_enter Tryz.func164,Tryz.ntmps164;go_wp2_with fail;refine(q9a s n0 _ hs ha).mono ?_;rintro e w1 ⟨rfl,hW⟩;clear ha;go_wp2_with fail
 go_loop [4,5] (fun i j=>∃(f k c:Nat),i=.int .i64 k/\j=.int .i64 c/\c<=s.size/\Hid (Rf.splitFrom s.data.toList f k c=some n)) (fun i _=>s.size-(intOf i).toNat)
 case atStart=>exact⟨_,n0,n0,rfl,rfl,h0,h⟩
 case round=>
  clear h;obtain⟨f,k,c0,rfl,rfl,hc0,HS⟩:=hrel;rcases f with _|f
  ·exact absurd HS.out (by simp[Rf.splitFrom])
  have hI:=HS.out;clear HS;rcases hd:s.data.toList.drop k with _|⟨c,r⟩
  ·simp only[Rf.splitFrom,hd,Option.some.injEq]at hI;have hk:s.size<=k:=by simpa using hd
   subst hI;have i1:(0:Int)<=c0/\(c0:Int)<=(s.size:Int):=by omega
   clear hd;go_wp2_with fail
   go_quiet (fail)
   go_wp2_with fail;go_ret2;exact⟨rfl,hW.trans (q0p _ _ _)⟩
  obtain⟨hk,hc,hr⟩:=q0m hd;simp only[Rf.splitFrom,hd]at hI;rcases hsf:Rf.suffixed s.data.toList k with _|n'
  ·rw[hsf]at hI;simp at hI
  rw[hsf]at hI;have hgt:=Rf.suffixed_gt hsf;have HI:=hyd hI;clear hI hd hc hr;go_wp2_with fail;refine(q3S s k _ n' _ hs rfl hsf).mono ?_;rintro e w' ⟨rfl,rfl⟩;go_wp2_with fail
  go_round
  case rel=>exact⟨f,n',k,rfl,rfl,by omega,HI⟩
  case measure=>simp[intOf];omega
theorem q9H (s:ByteArray) (m:Int) (w:World) (hs:s.size<=40) (h:Rf.most s.data.toList=some m):
  Calls Tryz.prog 165 #[.string s] w fun e w'=>∃l:Int,e=.returned (.tuple #[.int .i64 l,.int .i64 m])/\Below w.heap.size w w':=by
 rcases hd:s.data.toList.drop 0 with _|⟨c,_|⟨x,_|⟨y,r⟩⟩⟩
 ·rw[List.drop_zero]at hd;rw[hd]at h;simp[Rf.most]at h
 ·rw[List.drop_zero]at hd;rw[hd]at h;simp[Rf.most]at h
 ·rw[List.drop_zero]at hd;rw[hd]at h;simp[Rf.most]at h
 obtain⟨hk,hc,hr⟩:=q0m hd;obtain⟨hk1,hc1,hr1⟩:=q0m hr;obtain⟨hk2,hc2,hr2⟩:=q0m hr1;rw[List.drop_zero]at hd;rw[hd]at h;simp only[Rf.most]at h;have hk1':=hk1;have hk2':=hk2;have hc1':=hc1;have hc2':=hc2;have i1:(1:Int)<(s.size:Int):=by omega
 have i2:(2:Int)<(s.size:Int):=by omega
 rw[<-hc1']at h;cases hdx:Rf.digit s[1].toNat
 ·rw[hdx]at h;cases h
 rw[hdx,if_pos rfl]at h;have hx:48<=(s[1].toNat:Int)/\(s[1].toNat:Int)<=57:=by simpa[Rf.digit]using hdx
 obtain⟨hx0,hx1⟩:=hx;by_cases e44:y=44
 ·have hb:((s[2].toNat:Int)==44)=true:=by rw[hc2',e44];rfl
  rw[if_pos e44]at h;rcases r with _|⟨z,r'⟩
  ·cases h
  obtain⟨hk3,hc3,hr3⟩:=q0m hr2;have hk3':=hk3;have hc3':=hc3;have i3:(3:Int)<(s.size:Int):=by omega
  simp only[<-hc3']at h;cases hdz:Rf.digit s[3].toNat
  ·rw[hdz]at h;cases h
  rw[hdz,if_pos rfl]at h;have hz:48<=(s[3].toNat:Int)/\(s[3].toNat:Int)<=57:=by simpa[Rf.digit]using hdz
  obtain⟨hz0,hz1⟩:=hz;have HI:=Option.some.inj h;subst HI;clear hd hc hr hc1 hr1 hc2 hr2 hc1' hc2' h hdx e44 hc3 hr3 hc3' hdz;go_enter Tryz.func165,Tryz.ntmps165;go_wp2_with fail
  go_quiet (fail)
  go_wp2_with fail;go_ret2;exact⟨_,rfl,q0p _ _ _⟩
 ·have hb:((s[2].toNat:Int)==44)=false:=by rw[hc2'];exact q0J e44
  rw[if_neg e44]at h;have HI:=Option.some.inj h;subst HI;clear hd hc hr hc1 hr1 hc2 hr2 hc1' hc2' h hdx e44;go_enter Tryz.func165,Tryz.ntmps165;go_wp2_with fail;go_ret2;exact⟨_,rfl,Below.refl _ _⟩
end Go.Proofs.YtoaaklhpmhjhkaaGreat
