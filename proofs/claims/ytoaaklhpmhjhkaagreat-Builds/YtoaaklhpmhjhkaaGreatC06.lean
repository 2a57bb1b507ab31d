import Derived.Test.YtoaaklhpmhjhkaaGreatC05
set_option maxRecDepth 100000
set_option maxHeartbeats 4000000
set_option linter.all false
namespace Go.Proofs.YtoaaklhpmhjhkaaGreat
open Go.RowKit
def blank:Array Value:=madeCells #[.bool false] 256
theorem y1W (k:Nat) (h:k<256):blank[k]?=some (.bool false):=by
 simp[blank,madeCells,h,Nat.mod_one]
theorem y0E:∃i,Tryz.prog.info? 4=some i/\i.zero=some (.bool false)/\i.size=1/\i.bytes=1:=by
 have b:(Tryz.prog.info? 4).isSome=true:=by kernel_rfl
 obtain⟨i,a⟩:=Option.isSome_iff_exists.1 b;refine⟨i,a,?_,?_,?_⟩
 ·have:((Tryz.prog.info? 4).bind (·.zero))=some (.bool false):=by kernel_rfl
  rw[a]at this;exact this
 ·have:((Tryz.prog.info? 4).map (·.size))=some 1:=by kernel_rfl
  rw[a]at this;simpa using this
 have:((Tryz.prog.info? 4).map (·.bytes))=some 1:=by kernel_rfl
 rw[a]at this;simpa using this
theorem q6Y (w:World):(Instr.makeSlice 78 (.int .i64 256) (.int .i64 256)).run Tryz.prog w=.ok (.slice (some ⟨w.heap.size,0,none⟩) 256 256) (w.alloc (.cells blank 4)):=by
 obtain⟨i,b,d,c,a⟩:=y0E;have h:=run_make (P:=Tryz.prog) w 78 4 i (.bool false) Tryz.underlying78 b d .i64 .i64 256 256 (by decide) (by decide) (by rw[a];decide) (by decide);rw[c]at h;exact h
theorem BRow.blank (w:World) (t:TypeId):BRow w.heap.size (λ_=>false) (w.alloc (.cells blank t)):=λk a=>by
 refine⟨?_,?_⟩
 ·rw[World.cell?_alloc_new];exact y1W k a
 ·go_simp
theorem q1q (inb:Nat->Bool) (a:Int) (y:Nat) (_:y<256):inb y=(inb y || (decide (a<=(y:Int))&&decide ((y:Int)<a))):=by
 rw[Bool.eq_iff_iff];simp;omega
theorem q1I (inb:Nat->Bool) (a:Int) (t:Nat) (h:a<=t) (y:Nat) (_:y<256):(if y=t then true else (inb y || (decide (a<=(y:Int))&&decide ((y:Int)<t))))=(inb y || (decide (a<=(y:Int))&&decide ((y:Int)<t+1))):=by
 by_cases e:y=t
 ·subst e;rw[if_pos rfl];cases inb y<;>simp<;>omega
 rw[if_neg e];cases inb y
 ·rw[Bool.false_or,Bool.false_or,Bool.eq_iff_iff];simp;omega
 rfl
theorem q2b (inb:Nat->Bool) (a b t:Int) (_h0:a<=t) (h1:t=a\/t<=b+1) (hn:¬t<=b) (y:Nat) (_:y<256):(inb y || (decide (a<=(y:Int))&&decide ((y:Int)<t)))=(inb y || (decide (a<=(y:Int))&&decide ((y:Int)<=b))):=by
 cases inb y
 ·rw[Bool.false_or,Bool.false_or,Bool.eq_iff_iff];simp;omega
 rfl
theorem q9X (s:ByteArray) (k:Nat) (j:Nat) (fa:Int) (inn:Nat->Bool) (w:World) (hs:s.size<=40) (h:Rf.set (s.data.toList.drop (k+1)) k=some (j,fa,inn)):
  Calls Tryz.prog 160 #[.string s,.int .i64 k] w λe w'=>e=.returned (.tuple #[.slice (some ⟨w.heap.size,0,none⟩) 256 256,.int .i64 j,.int .i64 fa])/\BRow w.heap.size inn w'/\Below w.heap.size w w':=by
 rcases hd:s.data.toList.drop (k+1)with _|⟨c,r⟩
 ·rw[hd]at h;cases h
 obtain⟨hk,O,U⟩:=q0m hd;rw[hd]at h;have hm:=q6Y w;by_cases R:c=94
 ·have Z:((s[k+1].toNat:Int)==94)=true:=by rw[O,R];rfl
  obtain⟨Q,u,W,hj,hi⟩:∃Q u,Rf.items (r.length+1) (s.data.toList.drop (k+2)) (k+2) (-1) (λ_=>false)=some (Q,fa,u)/\j=Q+1/\inn=λx=>u x != true:=by
   simp only[Rf.set,R,if_true]at h;rw[U];cases hx:Rf.items (r.length+1) r (k+2) (-1) (λ_=>false)with
   |none=>rw[hx]at h;cases h
   |some x=>
    rw[hx]at h;simp only[Option.map_some,Option.some.injEq,Prod.mk.injEq]at h;exact⟨x.1,x.2.2,by rw[<-h.2.1],h.1.symm,h.2.2.symm⟩
  subst hj;subst hi;clear O U hd R h;go_enter Tryz.func160,Tryz.ntmps160;go_wp2_with fail;clear hm
  go_loopw [1,8] (λi fl w'=>∃(f m:Nat) (fb:Int) (inb:Nat->Bool),i=.int .i64 m/\fl=.int .i64 fb/\BRow w.heap.size inb w'/\Below w.heap.size w w'/\Hid (Rf.items f (s.data.toList.drop m) m fb inb=some (Q,fa,u))) (λi _ _=>s.size-(intOf i).toNat)
  ·exact⟨_,k+2,-1,λ_=>false,by go_num,rfl,BRow.blank w _,(Below.refl _ _).alloc (Nat.le_refl _) _,W⟩
  obtain⟨f,m,fb,inb,rfl,rfl,I,J,HS⟩:=hrel;rcases f with _|f
  ·exact absurd HS.out (by simp[Rf.items])
  rcases hd:s.data.toList.drop m with _|⟨c,r⟩
  ·have:=HS.out;rw[hd]at this;simp[Rf.items]at this
  obtain⟨ai,O,U⟩:=q0m hd;have A:=HS.out;rw[hd]at A;by_cases o:c=93
  ·have Z:((s[m].toNat:Int)==93)=true:=by rw[O,o];rfl
   have hR:m=Q/\fb=fa/\inb=u:=by
    simp only[Rf.items,o,if_true,Option.some.injEq,Prod.mk.injEq]at A;exact A
   obtain⟨rfl,rfl,rfl⟩:=hR;clear O U hd A HS W o;go_wp2_with fail
   go_loopw [14] (λi w'=>∃E:Nat,E<=256/\i=.int .i64 E/\BRow w.heap.size (λx=>if x<E then !inb x else inb x) w'/\Below w.heap.size w w') (λi _=>256-(intOf i).toNat)
   ·exact⟨0,by omega,rfl,I.congr (by simp),J⟩
   obtain⟨E,aj,rfl,l,p⟩:=hrel;by_cases T:E<256
   ·obtain⟨K,P⟩:=l E T;simp only[Nat.lt_irrefl,if_false]at K;have C:=l.set E T (!inb E);go_wp2_with fail;go_roundw
    ·refine⟨E+1,by omega,by go_num,C.congr (λy _=>?_),p.trans (q0E _ _ _ _)⟩;by_cases Y:y=E
     ·subst Y;simp
     by_cases e2:y<E
     ·simp[Y,e2,Nat.lt_succ_of_lt e2]
     simp[Y,e2,show ¬y<E+1 by omega]
    simp[intOf];omega
   go_wp2_with fail;go_ret3;exact⟨by first|rfl|(simp;done)|go_num,l.congr (λy hy=>by simp[show y<E by omega]),p⟩
  have Z:((s[m].toNat:Int)==93)=false:=by rw[O];exact q0J o
  rcases ho:Rf.one (c::r)with _|⟨a,n⟩
  ·simp only[Rf.items,if_neg o,ho]at A;cases A
  have M:Rf.one (s.data.toList.drop m)=some (a,n):=by rw[hd];exact ho
  obtain⟨ac,ae,al,am⟩:=Rf.one_bd ho;rcases hd2:(c::r).drop n with _|⟨d,l'⟩
  ·simp only[Rf.items,if_neg o,ho,hd2]at A;cases A
  have D:s.data.toList.drop (m+n)=d::l':=by rw[<-List.drop_drop,hd];exact hd2
  obtain⟨ak,L,N⟩:=q0m D;by_cases B:d=45
  ·have S:((s[m+n].toNat:Int)==45)=true:=by rw[L,B];rfl
   rcases ho2:Rf.one l' with _|⟨b,n'⟩
   ·simp only[Rf.items,if_neg o,ho,hd2,if_pos B,ho2]at A;cases A
   have G:Rf.one (s.data.toList.drop (m+n+1))=some (b,n'):=by rw[N];exact ho2
   obtain⟨af,ag,aa,ab⟩:=Rf.one_bd ho2;have g:Hid (Rf.items f (s.data.toList.drop (m+n+1+n')) (m+n+1+n') (if b<a/\fb<0 then (m:Int) else fb) (λy=>inb y || (decide (a<=(y:Int))&&decide ((y:Int)<=b)))=some (Q,fa,u)):=by
    show _=_;simp only[Rf.items,if_neg o,ho,hd2,if_pos B,ho2]at A;rw[<-List.drop_drop,N];exact A
   clear O U hd A HS W o L N hd2 D B;by_cases X:b<a/\fb<0
   ·rw[if_pos X]at g;go_wp2_with fail;refine(q1T s m _ a n _ hs rfl M).mono ?_;rintro e w1 ⟨rfl,q,rfl⟩;go_wp2_with fail;refine(q1T s (m+n+1) _ b n' _ hs (by omega) G).mono ?_;rintro e w1 ⟨rfl,q2,rfl⟩;clear ho M ho2 G;go_wp2_with fail
    go_loopw [13] (λx w'=>∃t:Int,x=.int .i64 t/\a<=t/\(t=a\/t<=b+1)/\BRow w.heap.size (λy=>inb y || (decide (a<=(y:Int))&&decide ((y:Int)<t))) w'/\Below w.heap.size w w') (λx _=>(257-intOf x).toNat)
    ·exact⟨a,rfl,Int.le_refl _,Or.inl rfl,BRow.congr (by first|exact I|exact I.drewN _|exact(I.drewN _).drewN _) (q1q inb a),by first|exact J|exact J.trans (q0p _ _ _)|exact(J.trans (q0p _ _ _)).trans (q0p _ _ _)⟩
    obtain⟨t,rfl,v,H,l,p⟩:=hrel;by_cases F:t<=b
    ·first
     |(exfalso;omega)
     |(
       obtain⟨z,rfl⟩:=Int.eq_ofNat_of_zero_le (show 0<=t by omega);obtain⟨K,P⟩:=l z (by omega);have C:=l.set z (by omega) true;have V:(z:Int)<256:=by omega
       go_wp2_with fail;go_roundw
       ·exact⟨(z:Int)+1,rfl,by omega,by omega,C.congr (q1I inb a z v),p.trans (q0E _ _ _ _)⟩
       simp[intOf];omega)
    go_wp2_with fail;go_roundw
    ·exact⟨f,m+n+1+n',(m:Int),_,by go_num,rfl,l.congr (q2b inb a b t v H F),p,g⟩
    simp[intOf];omega
   rw[if_neg X]at g;have hg:b<a->¬fb<0:=λh1 h2=>X ⟨h1,h2⟩
   clear X;by_cases ah:b<a
   all_goals
    go_wp2_with fail;refine(q1T s m _ a n _ hs rfl M).mono ?_;rintro e w1 ⟨rfl,q,rfl⟩;go_wp2_with fail;refine(q1T s (m+n+1) _ b n' _ hs (by omega) G).mono ?_;rintro e w1 ⟨rfl,q2,rfl⟩;go_wp2_with fail
    go_loopw [13] (λx w'=>∃t:Int,x=.int .i64 t/\a<=t/\(t=a\/t<=b+1)/\BRow w.heap.size (λy=>inb y || (decide (a<=(y:Int))&&decide ((y:Int)<t))) w'/\Below w.heap.size w w') (λx _=>(257-intOf x).toNat)
    ·exact⟨a,rfl,Int.le_refl _,Or.inl rfl,BRow.congr (by first|exact I|exact I.drewN _|exact(I.drewN _).drewN _) (q1q inb a),by first|exact J|exact J.trans (q0p _ _ _)|exact(J.trans (q0p _ _ _)).trans (q0p _ _ _)⟩
    obtain⟨t,rfl,v,H,l,p⟩:=hrel;by_cases F:t<=b
    ·first
     |(exfalso;omega)
     |(
       obtain⟨z,rfl⟩:=Int.eq_ofNat_of_zero_le (show 0<=t by omega);obtain⟨K,P⟩:=l z (by omega);have C:=l.set z (by omega) true;have V:(z:Int)<256:=by omega
       go_wp2_with fail;go_roundw
       ·exact⟨(z:Int)+1,rfl,by omega,by omega,C.congr (q1I inb a z v),p.trans (q0E _ _ _ _)⟩
       simp[intOf];omega)
    go_wp2_with fail;go_roundw
    ·exact⟨f,m+n+1+n',fb,_,by go_num,rfl,l.congr (q2b inb a b t v H F),p,g⟩
    simp[intOf];omega
  have S:((s[m+n].toNat:Int)==45)=false:=by rw[L];exact q0J B
  have g:Hid (Rf.items f (s.data.toList.drop (m+n)) (m+n) fb (λy=>inb y || (decide (a<=(y:Int))&&decide ((y:Int)<=a)))=some (Q,fa,u)):=by
   show _=_;simp only[Rf.items,if_neg o,ho,hd2,if_neg B]at A;rw[D];exact A
  clear O U hd A HS W o L N hd2 D B;go_wp2_with fail;refine(q1T s m _ a n _ hs rfl M).mono ?_;rintro e w1 ⟨rfl,q,rfl⟩;go_wp2_with fail
  go_loopw [13] (λx w'=>∃t:Int,x=.int .i64 t/\a<=t/\(t=a\/t<=a+1)/\BRow w.heap.size (λy=>inb y || (decide (a<=(y:Int))&&decide ((y:Int)<t))) w'/\Below w.heap.size w w') (λx _=>(257-intOf x).toNat)
  ·exact⟨a,rfl,Int.le_refl _,Or.inl rfl,BRow.congr (by first|exact I|exact I.drewN _|exact(I.drewN _).drewN _) (q1q inb a),by first|exact J|exact J.trans (q0p _ _ _)|exact(J.trans (q0p _ _ _)).trans (q0p _ _ _)⟩
  obtain⟨t,rfl,v,H,l,p⟩:=hrel;by_cases F:t<=a
  ·first
   |(exfalso;omega)
   |(
     obtain⟨z,rfl⟩:=Int.eq_ofNat_of_zero_le (show 0<=t by omega);obtain⟨K,P⟩:=l z (by omega);have C:=l.set z (by omega) true;have V:(z:Int)<256:=by omega
     go_wp2_with fail;go_roundw
     ·exact⟨(z:Int)+1,rfl,by omega,by omega,C.congr (q1I inb a z v),p.trans (q0E _ _ _ _)⟩
     simp[intOf];omega)
  go_wp2_with fail;go_roundw
  ·exact⟨f,m+n,fb,_,by go_num,rfl,l.congr (q2b inb a a t v H F),p,g⟩
  simp[intOf];omega
 have Z:((s[k+1].toNat:Int)==94)=false:=by rw[O];exact q0J R
 obtain⟨Q,u,W,hj,hi⟩:∃Q u,Rf.items (r.length+2) (s.data.toList.drop (k+1)) (k+1) (-1) (λ_=>false)=some (Q,fa,u)/\j=Q+1/\inn=λx=>u x != false:=by
  simp only[Rf.set,R,if_false]at h;rw[hd];cases hx:Rf.items (r.length+2) (c::r) (k+1) (-1) (λ_=>false)with
  |none=>rw[hx]at h;cases h
  |some x=>
   rw[hx]at h;simp only[Option.map_some,Option.some.injEq,Prod.mk.injEq]at h;exact⟨x.1,x.2.2,by rw[<-h.2.1],h.1.symm,h.2.2.symm⟩
 subst hj;subst hi;clear O U hd R h;go_enter Tryz.func160,Tryz.ntmps160;go_wp2_with fail;clear hm
 go_loopw [1,8] (λi fl w'=>∃(f m:Nat) (fb:Int) (inb:Nat->Bool),i=.int .i64 m/\fl=.int .i64 fb/\BRow w.heap.size inb w'/\Below w.heap.size w w'/\Hid (Rf.items f (s.data.toList.drop m) m fb inb=some (Q,fa,u))) (λi _ _=>s.size-(intOf i).toNat)
 ·exact⟨_,k+1,-1,λ_=>false,by go_num,rfl,BRow.blank w _,(Below.refl _ _).alloc (Nat.le_refl _) _,W⟩
 obtain⟨f,m,fb,inb,rfl,rfl,I,J,HS⟩:=hrel;rcases f with _|f
 ·exact absurd HS.out (by simp[Rf.items])
 rcases hd:s.data.toList.drop m with _|⟨c,r⟩
 ·have:=HS.out;rw[hd]at this;simp[Rf.items]at this
 obtain⟨ai,O,U⟩:=q0m hd;have A:=HS.out;rw[hd]at A;by_cases o:c=93
 ·have Z:((s[m].toNat:Int)==93)=true:=by rw[O,o];rfl
  have hR:m=Q/\fb=fa/\inb=u:=by
   simp only[Rf.items,o,if_true,Option.some.injEq,Prod.mk.injEq]at A;exact A
  obtain⟨rfl,rfl,rfl⟩:=hR;clear O U hd A HS W o;go_wp2_with fail
  go_loopw [14] (λi w'=>∃E:Nat,E<=256/\i=.int .i64 E/\BRow w.heap.size (λx=>if x<E then inb x else inb x) w'/\Below w.heap.size w w') (λi _=>256-(intOf i).toNat)
  ·exact⟨0,by omega,rfl,I.congr (by simp),J⟩
  obtain⟨E,aj,rfl,l,p⟩:=hrel;by_cases T:E<256
  ·obtain⟨K,P⟩:=l E T;simp only[Nat.lt_irrefl,if_false]at K;have C:=l.set E T (inb E);go_wp2_with fail;go_roundw
   ·refine⟨E+1,by omega,by go_num,C.congr (λy _=>?_),p.trans (q0E _ _ _ _)⟩;by_cases Y:y=E
    ·subst Y;simp
    by_cases e2:y<E
    ·simp[Y,e2,Nat.lt_succ_of_lt e2]
    simp[Y,e2,show ¬y<E+1 by omega]
   simp[intOf];omega
  go_wp2_with fail;go_ret3;exact⟨by first|rfl|(simp;done)|go_num,l.congr (λy hy=>by simp[show y<E by omega]),p⟩
 have Z:((s[m].toNat:Int)==93)=false:=by rw[O];exact q0J o
 rcases ho:Rf.one (c::r)with _|⟨a,n⟩
 ·simp only[Rf.items,if_neg o,ho]at A;cases A
 have M:Rf.one (s.data.toList.drop m)=some (a,n):=by rw[hd];exact ho
 obtain⟨ac,ae,al,am⟩:=Rf.one_bd ho;rcases hd2:(c::r).drop n with _|⟨d,l'⟩
 ·simp only[Rf.items,if_neg o,ho,hd2]at A;cases A
 have D:s.data.toList.drop (m+n)=d::l':=by rw[<-List.drop_drop,hd];exact hd2
 obtain⟨ak,L,N⟩:=q0m D;by_cases B:d=45
 ·have S:((s[m+n].toNat:Int)==45)=true:=by rw[L,B];rfl
  rcases ho2:Rf.one l' with _|⟨b,n'⟩
  ·simp only[Rf.items,if_neg o,ho,hd2,if_pos B,ho2]at A;cases A
  have G:Rf.one (s.data.toList.drop (m+n+1))=some (b,n'):=by rw[N];exact ho2
  obtain⟨af,ag,aa,ab⟩:=Rf.one_bd ho2;have g:Hid (Rf.items f (s.data.toList.drop (m+n+1+n')) (m+n+1+n') (if b<a/\fb<0 then (m:Int) else fb) (λy=>inb y || (decide (a<=(y:Int))&&decide ((y:Int)<=b)))=some (Q,fa,u)):=by
   show _=_;simp only[Rf.items,if_neg o,ho,hd2,if_pos B,ho2]at A;rw[<-List.drop_drop,N];exact A
  clear O U hd A HS W o L N hd2 D B;by_cases X:b<a/\fb<0
  ·rw[if_pos X]at g;go_wp2_with fail;refine(q1T s m _ a n _ hs rfl M).mono ?_;rintro e w1 ⟨rfl,q,rfl⟩;go_wp2_with fail;refine(q1T s (m+n+1) _ b n' _ hs (by omega) G).mono ?_;rintro e w1 ⟨rfl,q2,rfl⟩;clear ho M ho2 G;go_wp2_with fail
   go_loopw [13] (λx w'=>∃t:Int,x=.int .i64 t/\a<=t/\(t=a\/t<=b+1)/\BRow w.heap.size (λy=>inb y || (decide (a<=(y:Int))&&decide ((y:Int)<t))) w'/\Below w.heap.size w w') (λx _=>(257-intOf x).toNat)
   ·exact⟨a,rfl,Int.le_refl _,Or.inl rfl,BRow.congr (by first|exact I|exact I.drewN _|exact(I.drewN _).drewN _) (q1q inb a),by first|exact J|exact J.trans (q0p _ _ _)|exact(J.trans (q0p _ _ _)).trans (q0p _ _ _)⟩
   obtain⟨t,rfl,v,H,l,p⟩:=hrel;by_cases F:t<=b
   ·first
    |(exfalso;omega)
    |(
      obtain⟨z,rfl⟩:=Int.eq_ofNat_of_zero_le (show 0<=t by omega);obtain⟨K,P⟩:=l z (by omega);have C:=l.set z (by omega) true;have V:(z:Int)<256:=by omega
      go_wp2_with fail;go_roundw
      ·exact⟨(z:Int)+1,rfl,by omega,by omega,C.congr (q1I inb a z v),p.trans (q0E _ _ _ _)⟩
      simp[intOf];omega)
   go_wp2_with fail;go_roundw
   ·exact⟨f,m+n+1+n',(m:Int),_,by go_num,rfl,l.congr (q2b inb a b t v H F),p,g⟩
   simp[intOf];omega
  rw[if_neg X]at g;have hg:b<a->¬fb<0:=λh1 h2=>X ⟨h1,h2⟩
  clear X;by_cases ah:b<a
  all_goals
   go_wp2_with fail;refine(q1T s m _ a n _ hs rfl M).mono ?_;rintro e w1 ⟨rfl,q,rfl⟩;go_wp2_with fail;refine(q1T s (m+n+1) _ b n' _ hs (by omega) G).mono ?_;rintro e w1 ⟨rfl,q2,rfl⟩;go_wp2_with fail
   go_loopw [13] (λx w'=>∃t:Int,x=.int .i64 t/\a<=t/\(t=a\/t<=b+1)/\BRow w.heap.size (λy=>inb y || (decide (a<=(y:Int))&&decide ((y:Int)<t))) w'/\Below w.heap.size w w') (λx _=>(257-intOf x).toNat)
   ·exact⟨a,rfl,Int.le_refl _,Or.inl rfl,BRow.congr (by first|exact I|exact I.drewN _|exact(I.drewN _).drewN _) (q1q inb a),by first|exact J|exact J.trans (q0p _ _ _)|exact(J.trans (q0p _ _ _)).trans (q0p _ _ _)⟩
   obtain⟨t,rfl,v,H,l,p⟩:=hrel;by_cases F:t<=b
   ·first
    |(exfalso;omega)
    |(
      obtain⟨z,rfl⟩:=Int.eq_ofNat_of_zero_le (show 0<=t by omega);obtain⟨K,P⟩:=l z (by omega);have C:=l.set z (by omega) true;have V:(z:Int)<256:=by omega
      go_wp2_with fail;go_roundw
      ·exact⟨(z:Int)+1,rfl,by omega,by omega,C.congr (q1I inb a z v),p.trans (q0E _ _ _ _)⟩
      simp[intOf];omega)
   go_wp2_with fail;go_roundw
   ·exact⟨f,m+n+1+n',fb,_,by go_num,rfl,l.congr (q2b inb a b t v H F),p,g⟩
   simp[intOf];omega
 have S:((s[m+n].toNat:Int)==45)=false:=by rw[L];exact q0J B
 have g:Hid (Rf.items f (s.data.toList.drop (m+n)) (m+n) fb (λy=>inb y || (decide (a<=(y:Int))&&decide ((y:Int)<=a)))=some (Q,fa,u)):=by
  show _=_;simp only[Rf.items,if_neg o,ho,hd2,if_neg B]at A;rw[D];exact A
 clear O U hd A HS W o L N hd2 D B;go_wp2_with fail;refine(q1T s m _ a n _ hs rfl M).mono ?_;rintro e w1 ⟨rfl,q,rfl⟩;go_wp2_with fail
 go_loopw [13] (λx w'=>∃t:Int,x=.int .i64 t/\a<=t/\(t=a\/t<=a+1)/\BRow w.heap.size (λy=>inb y || (decide (a<=(y:Int))&&decide ((y:Int)<t))) w'/\Below w.heap.size w w') (λx _=>(257-intOf x).toNat)
 ·exact⟨a,rfl,Int.le_refl _,Or.inl rfl,BRow.congr (by first|exact I|exact I.drewN _|exact(I.drewN _).drewN _) (q1q inb a),by first|exact J|exact J.trans (q0p _ _ _)|exact(J.trans (q0p _ _ _)).trans (q0p _ _ _)⟩
 obtain⟨t,rfl,v,H,l,p⟩:=hrel;by_cases F:t<=a
 ·first
  |(exfalso;omega)
  |(
    obtain⟨z,rfl⟩:=Int.eq_ofNat_of_zero_le (show 0<=t by omega);obtain⟨K,P⟩:=l z (by omega);have C:=l.set z (by omega) true;have V:(z:Int)<256:=by omega
    go_wp2_with fail;go_roundw
    ·exact⟨(z:Int)+1,rfl,by omega,by omega,C.congr (q1I inb a z v),p.trans (q0E _ _ _ _)⟩
    simp[intOf];omega)
 go_wp2_with fail;go_roundw
 ·exact⟨f,m+n,fb,_,by go_num,rfl,l.congr (q2b inb a a t v H F),p,g⟩
 simp[intOf];omega
theorem q6R (s:ByteArray) (k:Nat) (i:Int) (j:Nat) (fa:Int) (inn:Nat->Bool) (w:World) (hs:s.size<=40) (hi:i=k) (h:Rf.set (s.data.toList.drop (k+1)) k=some (j,fa,inn)):
  Calls Tryz.prog 160 #[.string s,.int .i64 i] w λe w'=>e=.returned (.tuple #[.slice (some ⟨w.heap.size,0,none⟩) 256 256,.int .i64 j,.int .i64 fa])/\BRow w.heap.size inn w'/\Below w.heap.size w w':=by
 subst hi;exact q9X s k j fa inn w hs h
theorem q6K (s:ByteArray) (v:Int) (f0:Nat) (w:World) (hs:s.size<=40) (h:Rf.valueFrom s.data.toList f0 0=some v):
  Calls Tryz.prog 110 #[.string s] w λe w'=>e=.returned (.int .i64 v)/\Below w.heap.size w w':=by
 go_enter Tryz.func110,Tryz.ntmps110;go_wp2_with fail
 go_loopw [3] (λi w'=>∃(f k:Nat),i=.int .i64 k/\Below w.heap.size w w'/\Hid (Rf.valueFrom s.data.toList f k=some v)) (λi _=>s.size-(intOf i).toNat)
 ·exact⟨f0,0,rfl,Below.refl _ _,h⟩
 clear h;obtain⟨f,k,rfl,C,HS⟩:=hrel;rcases f with _|f
 ·exact absurd HS.out (by simp[Rf.valueFrom])
 have b:=HS.out;clear HS;rcases hd:s.data.toList.drop k with _|⟨c,r⟩
 ·simp only[Rf.valueFrom,hd,Option.some.injEq]at b;have Y:s.size<=k:=by simpa using hd
  clear hd;go_wp2_with fail;go_ret;exact⟨q0l b,C⟩
 obtain⟨Y,u,G⟩:=q0m hd;simp only[Rf.valueFrom,hd]at b;by_cases g:c=92
 ·have Q:((s[k].toNat:Int)==92)=true:=by rw[u,g];rfl
  rw[if_pos g]at b;rcases ho:Rf.one (c::r)with _|⟨a,n⟩
  ·rw[ho]at b;cases b
  have F:Rf.one (s.data.toList.drop k)=some (a,n):=by rw[hd];exact ho
  obtain⟨W,X,aa,ab⟩:=Rf.one_bd ho;rw[ho]at b;have t:=hyd b;clear b hd u G g ho;go_wp2_with fail;refine(q1T s k _ a n _ hs rfl F).mono ?_;rintro e w1 ⟨rfl,q,rfl⟩;go_wp2_with fail;go_roundw
  ·exact⟨f,k+n,by go_num,C.trans (q0p _ _ _),t⟩
  simp[intOf];omega
 have S:((s[k].toNat:Int)==92)=false:=by rw[u];exact q0J g
 rw[if_neg g]at b;by_cases l:c=91
 ·have Q:((s[k].toNat:Int)==91)=true:=by rw[u,l];rfl
  rw[if_pos l]at b;rcases ho:Rf.set r k with _|⟨j,fa,inn⟩
  ·rw[ho]at b;cases b
  have F:Rf.set (s.data.toList.drop (k+1)) k=some (j,fa,inn):=by rw[G];exact ho
  have hj:=Rf.set_ge ho;rw[ho]at b;simp only at b;by_cases N:0<=fa
  ·rw[if_pos N]at b;have t:=hyd b;clear b hd u G g l ho;go_wp2_with fail;refine(q6R s k _ j fa inn _ hs rfl F).mono ?_;rintro e w1 ⟨rfl,V,J⟩;go_wp2_with fail;go_ret;exact⟨q0l (Option.some.inj t.out),C.trans (J.mono C.size)⟩
  rw[if_neg N]at b;have t:=hyd b;clear b hd u G g l ho;go_wp2_with fail;refine(q6R s k _ j fa inn _ hs rfl F).mono ?_;rintro e w1 ⟨rfl,V,J⟩;go_wp2_with fail;go_roundw
  ·exact⟨f,j,rfl,C.trans (J.mono C.size),t⟩
  simp[intOf];omega
 have R:((s[k].toNat:Int)==91)=false:=by rw[u];exact q0J l
 rw[if_neg l]at b;by_cases d:c=123
 ·have Q:((s[k].toNat:Int)==123)=true:=by rw[u,d];rfl
  rw[if_pos d]at b;rcases r with _|⟨x,_|⟨y,r'⟩⟩
  ·cases b
  ·cases b
  obtain⟨Z,B,H⟩:=q0m G;obtain⟨E,D,I⟩:=q0m H;have T:k+2<s.size:=E;have m:s[k+2]=y:=D;have i1:(0:Int)<=k+1/\(k:Int)+1<(s.size:Int):=by omega
  have i2:(0:Int)<=k+2/\(k:Int)+2<(s.size:Int):=by omega
  simp only at b;by_cases o:y=44
  ·have M:((s[k+2].toNat:Int)==44)=true:=by rw[m,o];rfl
   rw[if_pos o]at b;rcases r' with _|⟨z,ac⟩
   ·cases b
   obtain⟨L,K,O⟩:=q0m I;have U:k+3<s.size:=L;have p:s[k+3]=z:=K;have i3:(0:Int)<=k+3/\(k:Int)+3<(s.size:Int):=by omega
   simp only at b;by_cases A:z.toNat<x.toNat
   ·rw[if_pos A]at b;have t:Hid (some (k:Int)=some v):=b;rw[<-B,<-p]at A;have P:(s[k+3].toNat:Int)<(s[k+1].toNat:Int):=by omega
    clear b hd u G g l d B H D I K O m p E L o A;go_wp2_with fail
    go_quiet (fail)
    go_wp2_with fail;go_ret;exact⟨q0l (Option.some.inj t.out),C.trans (q0p _ _ _)⟩
   rw[if_neg A]at b;have t:Hid (Rf.valueFrom s.data.toList f (k+1)=some v):=b;rw[<-B,<-p]at A;have P:¬(s[k+3].toNat:Int)<(s[k+1].toNat:Int):=by omega
   clear b hd u G g l d B H D I K O m p E L o A;go_wp2_with fail
   go_quiet (fail)
   go_wp2_with fail;go_roundw
   ·exact⟨f,k+1,by go_num,C.trans (q0p _ _ _),t⟩
   simp[intOf];omega
  have M:((s[k+2].toNat:Int)==44)=false:=by rw[m];exact q0J o
  rw[if_neg o]at b;have t:=hyd b;clear b hd u G g l d B H D I m E o;go_wp2_with fail
  go_quiet (fail)
  go_wp2_with fail;go_roundw
  ·exact⟨f,k+1,by go_num,C.trans (q0p _ _ _),t⟩
  simp[intOf];omega
 have Q:((s[k].toNat:Int)==123)=false:=by rw[u];exact q0J d
 rw[if_neg d]at b;have t:=hyd b;clear b hd u G g l d;go_wp2_with fail
 go_quiet (fail)
 go_wp2_with fail;go_roundw
 ·exact⟨f,k+1,by go_num,C.trans (q0p _ _ _),t⟩
 simp[intOf];omega
theorem y0N (s:ByteArray) (v:Int) (f0:Nat) (w:World) (hs:s.size<=40) (h:Rf.emptyFrom s.data.toList f0 0=some v):
  Calls Tryz.prog 111 #[.string s] w λe w'=>e=.returned (.int .i64 v)/\Below w.heap.size w w':=by
 go_enter Tryz.func111,Tryz.ntmps111;go_wp2_with fail
 go_loopw [3] (λi w'=>∃(f k:Nat),i=.int .i64 k/\Below w.heap.size w w'/\Hid (Rf.emptyFrom s.data.toList f k=some v)) (λi _=>s.size-(intOf i).toNat)
 ·exact⟨f0,0,rfl,Below.refl _ _,h⟩
 clear h;obtain⟨f,k,rfl,A,HS⟩:=hrel;rcases f with _|f
 ·exact absurd HS.out (by simp[Rf.emptyFrom])
 have b:=HS.out;clear HS;rcases hd:s.data.toList.drop k with _|⟨c,r⟩
 ·simp only[Rf.emptyFrom,hd,Option.some.injEq]at b;have P:s.size<=k:=by simpa using hd
  clear hd;go_wp2_with fail;go_ret;exact⟨q0l b,A⟩
 obtain⟨P,t,D⟩:=q0m hd;simp only[Rf.emptyFrom,hd]at b;by_cases g:c=92
 ·have N:((s[k].toNat:Int)==92)=true:=by rw[t,g];rfl
  rw[if_pos g]at b;rcases ho:Rf.one (c::r)with _|⟨a,n⟩
  ·rw[ho]at b;cases b
  have o:Rf.one (s.data.toList.drop k)=some (a,n):=by rw[hd];exact ho
  obtain⟨L,M,S,T⟩:=Rf.one_bd ho;rw[ho]at b;have y:=hyd b;clear b hd t D g ho;go_wp2_with fail;refine(q1T s k _ a n _ hs rfl o).mono ?_;rintro e w1 ⟨rfl,q,rfl⟩;go_wp2_with fail;go_roundw
  ·exact⟨f,k+n,by go_num,A.trans (q0p _ _ _),y⟩
  simp[intOf];omega
 have J:((s[k].toNat:Int)==92)=false:=by rw[t];exact q0J g
 rw[if_neg g]at b;by_cases m:c=91
 ·have N:((s[k].toNat:Int)==91)=true:=by rw[t,m];rfl
  rw[if_pos m]at b;rcases ho:Rf.set r k with _|⟨j,fa,inn⟩
  ·rw[ho]at b;cases b
  have o:Rf.set (s.data.toList.drop (k+1)) k=some (j,fa,inn):=by rw[D];exact ho
  have U:=Rf.set_ge ho;rw[ho]at b;have y:=hyd b;clear b hd t D g m ho;go_wp2_with fail;refine(q6R s k _ j fa inn _ hs rfl o).mono ?_;rintro e w1 ⟨rfl,K,G⟩;have B:=A.trans (G.mono A.size);clear o;go_wp2_with fail
  go_loop [7,8] (λn x=>∃l:Nat,l<=256/\x=.int .i64 l/\n=.int .i64 (Rf.cntTo inn l)) (λ_ x=>256-(intOf x).toNat)
  ·exact⟨0,by omega,rfl,rfl⟩
  obtain⟨l,Q,rfl,rfl⟩:=hrel;have R:=Rf.cntTo_le inn l;by_cases H:l<256
  ·obtain⟨C,O⟩:=K l H;cases hin:inn l
   ·rw[hin]at C;have E:Hid (Rf.cntTo inn (l+1)=Rf.cntTo inn l):=by show _=_;simp[Rf.cntTo,hin]
    clear hin;go_wp2_with fail
    go_round
    ·exact⟨l+1,by omega,by go_num,by rw[E.out]⟩
    simp[intOf];omega
   rw[hin]at C;have E:Hid (Rf.cntTo inn (l+1)=Rf.cntTo inn l+1):=by show _=_;simp[Rf.cntTo,hin]
   clear hin;go_wp2_with fail
   go_round
   ·exact⟨l+1,by omega,by go_num,by rw[E.out];go_num⟩
   simp[intOf];omega
  have u:l=256:=by omega
  subst u;by_cases z:Rf.cntTo inn 256=0
  ·have F:((Rf.cntTo inn 256:Int)==0)=true:=by simp[z]
   have d:=y.out;rw[if_pos z]at d;have p:Hid (some (k:Int)=some v):=d;clear d z;go_wp2_with fail;go_ret;exact⟨q0l (Option.some.inj p.out),B⟩
  have F:((Rf.cntTo inn 256:Int)==0)=false:=by simp[z]
  have d:=y.out;rw[if_neg z]at d;have p:Hid (Rf.emptyFrom s.data.toList f j=some v):=d;clear d z;go_wp2_with fail;go_roundw
  ·exact⟨f,j,rfl,B,p⟩
  simp[intOf];omega
 have I:((s[k].toNat:Int)==91)=false:=by rw[t];exact q0J m
 rw[if_neg m]at b;have y:=hyd b;clear b hd t D g m;go_wp2_with fail;go_roundw
 ·exact⟨f,k+1,by go_num,A,y⟩
 simp[intOf];omega
theorem q3S (s:ByteArray) (k:Nat) (i:Int) (n:Nat) (w:World) (hs:s.size<=40) (hi:i=k) (h:Rf.suffixed s.data.toList k=some n):
  Calls Tryz.prog 163 #[.string s,.int .i64 i] w λe w'=>e=.returned (.int .i64 n)/\w'=w:=by
 subst hi;rcases hd:s.data.toList.drop k with _|⟨c,r⟩
 ·simp[Rf.suffixed,hd]at h
 obtain⟨o,a,j⟩:=q0m hd;simp only[Rf.suffixed,hd]at h;by_cases e:c=123
 ·have l:((s[k].toNat:Int)==123)=true:=by rw[a,e];rfl
  rw[if_pos e]at h;clear hd a j e;go_enter Tryz.func163,Tryz.ntmps163;go_wp2_with fail
  go_loop [1] (λi=>∃(f d:Nat),i=.int .i64 d/\Hid (Rf.closeFrom s.data.toList f d=some n)) (λi=>s.size-(intOf i).toNat)
  ·exact⟨_,k,rfl,h⟩
  clear h;obtain⟨f,d,rfl,HS⟩:=hrel;rcases f with _|f
  ·exact absurd HS.out (by simp[Rf.closeFrom])
  have b:=HS.out;clear HS;rcases hd:s.data.toList.drop d with _|⟨c,r⟩
  ·simp[Rf.closeFrom,hd]at b
  obtain⟨m,a,j⟩:=q0m hd;simp only[Rf.closeFrom,hd]at b;by_cases e:c=125
  ·have l:((s[d].toNat:Int)==125)=true:=by rw[a,e];rfl
   rw[if_pos e]at b;have g:=hyd b;clear b hd a j e;go_wp2_with fail;go_ret;exact⟨q0l (by have:=Option.some.inj g.out;omega),rfl⟩
  have l:((s[d].toNat:Int)==125)=false:=by rw[a];exact q0J e
  rw[if_neg e]at b;have g:=hyd b;clear b hd a j e;go_wp2_with fail
  go_round
  ·exact⟨f,d+1,by go_num,g⟩
  simp[intOf];omega
 have l:((s[k].toNat:Int)==123)=false:=by rw[a];exact q0J e
 rw[if_neg e]at h;have g:=hyd h;clear hd a j e h;go_enter Tryz.func163,Tryz.ntmps163;go_wp2_with fail;go_ret;exact⟨q0l (by have:=Option.some.inj g.out;omega),rfl⟩
theorem q9a (s:ByteArray) (n:Nat) (w:World) (hs:s.size<=40) (h:Rf.atom s.data.toList=some n):
  Calls Tryz.prog 161 #[.string s] w λe w'=>e=.returned (.int .i64 n)/\Below w.heap.size w w':=by
 rcases hd:s.data.toList.drop 0 with _|⟨c,r⟩
 ·rw[List.drop_zero]at hd;rw[hd]at h;cases h
 obtain⟨I,m,u⟩:=q0m hd;have x:s.data.toList=c::r:=by rw[List.drop_zero]at hd;exact hd
 by_cases b:c=92
 ·have z:((s[0].toNat:Int)==92)=true:=by rw[m,b];rfl
  have ⟨a,ho⟩:∃a,Rf.one (s.data.toList.drop 0)=some (a,n):=by
   rw[x]at h ⊢;simp only[Rf.atom,if_pos b,List.drop_zero]at h ⊢;rcases ho:Rf.one (c::r)with _|⟨a,n'⟩
   ·rw[ho]at h;cases h
   rw[ho]at h;simp at h;subst h;exact⟨a,rfl⟩
  clear hd m u x b h;go_enter Tryz.func161,Tryz.ntmps161;go_wp2_with fail;refine(q1T s 0 _ a n _ hs rfl ho).mono ?_;rintro e w1 ⟨rfl,q,rfl⟩;go_wp2_with fail;go_ret;exact⟨q0l (by omega),q0p _ _ _⟩
 have C:((s[0].toNat:Int)==92)=false:=by rw[m];exact q0J b
 by_cases d:c=91
 ·have z:((s[0].toNat:Int)==91)=true:=by rw[m,d];rfl
  have ⟨fa,inn,ho⟩:∃fa inn,Rf.set (s.data.toList.drop (0+1)) 0=some (n,fa,inn):=by
   rw[u];rw[x]at h;simp only[Rf.atom,if_neg b,if_pos d]at h;rcases ho:Rf.set r 0 with _|⟨n',fa,inn⟩
   ·rw[ho]at h;cases h
   rw[ho]at h;simp at h;subst h;exact⟨fa,inn,rfl⟩
  clear hd m u x b h d;go_enter Tryz.func161,Tryz.ntmps161;go_wp2_with fail;refine(q6R s 0 _ n fa inn _ hs rfl ho).mono ?_;rintro e w1 ⟨rfl,J,v⟩;go_wp2_with fail;go_ret;exact⟨rfl,v⟩
 have B:((s[0].toNat:Int)==91)=false:=by rw[m];exact q0J d
 by_cases l:c=40
 ·have z:((s[0].toNat:Int)==40)=true:=by rw[m,l];rfl
  have H:Rf.groupFrom s.data.toList (r.length+2) 0 0=some n:=by
   rw[x]at h ⊢;simp only[Rf.atom,if_neg b,if_neg d,if_pos l]at h;exact h
  clear hd m u x b h d l;go_enter Tryz.func161,Tryz.ntmps161;go_wp2_with fail
  go_loopw [8,9] (λo i w'=>∃(f k:Nat) (op:Int),i=.int .i64 k/\o=.int .i64 op/\-(k:Int)<=op/\op<=k/\Below w.heap.size w w'/\Hid (Rf.groupFrom s.data.toList f k op=some n)) (λ_ i _=>s.size-(intOf i).toNat)
  ·exact⟨_,0,0,rfl,rfl,by omega,by omega,Below.refl _ _,H⟩
  clear H;obtain⟨f,k,op,rfl,rfl,P,Q,v,HS⟩:=hrel;rcases f with _|f
  ·exact absurd HS.out (by simp[Rf.groupFrom])
  have g:=HS.out;clear HS;rcases hd:s.data.toList.drop k with _|⟨c,r⟩
  ·simp only[Rf.groupFrom,hd,Option.some.injEq]at g;have I:s.size<=k:=by simpa using hd
   have t:=hyd g;clear hd g;go_wp2_with fail;go_ret;exact⟨q0l (by have:=t.out;omega),v⟩
  obtain⟨I,m,u⟩:=q0m hd;simp only[Rf.groupFrom,hd]at g;by_cases b:c=92
  ·have z:((s[k].toNat:Int)==92)=true:=by rw[m,b];rfl
   rw[if_pos b]at g;rcases ho:Rf.one (c::r)with _|⟨a,n'⟩
   ·rw[ho]at g;cases g
   have y:Rf.one (s.data.toList.drop k)=some (a,n'):=by rw[hd];exact ho
   obtain⟨K,L,N,O⟩:=Rf.one_bd ho;rw[ho]at g;have t:=hyd g;clear g hd m u b ho;go_wp2_with fail;refine(q1T s k _ a n' _ hs rfl y).mono ?_;rintro e w1 ⟨rfl,q,rfl⟩;go_wp2_with fail;go_roundw
   ·exact⟨f,k+n',op,by go_num,rfl,by omega,by omega,v.trans (q0p _ _ _),t⟩
   simp[intOf];omega
  have C:((s[k].toNat:Int)==92)=false:=by rw[m];exact q0J b
  rw[if_neg b]at g;by_cases d:c=91
  ·have z:((s[k].toNat:Int)==91)=true:=by rw[m,d];rfl
   rw[if_pos d]at g;rcases ho:Rf.set r k with _|⟨j,fa,inn⟩
   ·rw[ho]at g;cases g
   have y:Rf.set (s.data.toList.drop (k+1)) k=some (j,fa,inn):=by rw[u];exact ho
   have R:=Rf.set_ge ho;rw[ho]at g;have t:=hyd g;clear g hd m u b d ho;go_wp2_with fail;refine(q6R s k _ j fa inn _ hs rfl y).mono ?_;rintro e w1 ⟨rfl,J,F⟩;go_wp2_with fail;go_roundw
   ·exact⟨f,j,op,rfl,rfl,by omega,by omega,v.trans (F.mono v.size),t⟩
   simp[intOf];omega
  have B:((s[k].toNat:Int)==91)=false:=by rw[m];exact q0J d
  rw[if_neg d]at g;by_cases l:c=40
  ·have z:((s[k].toNat:Int)==40)=true:=by rw[m,l];rfl
   rw[if_pos l]at g;have t:=hyd g;clear g hd m u b d l;go_wp2_with fail;go_roundw
   ·exact⟨f,k+1,op+1,by go_num,rfl,by omega,by omega,v,t⟩
   simp[intOf];omega
  have A:((s[k].toNat:Int)==40)=false:=by rw[m];exact q0J l
  rw[if_neg l]at g;by_cases p:c=41
  ·have z:((s[k].toNat:Int)==41)=true:=by rw[m,p];rfl
   rw[if_pos p]at g;by_cases D:op-1=0
   ·rw[if_pos D]at g;have t:=hyd g;have E:((op-1)==0)=true:=by simp;omega
    clear g hd m u b d l p D;go_wp2_with fail;go_ret;exact⟨q0l (by have:=Option.some.inj t.out;omega),v⟩
   rw[if_neg D]at g;have t:=hyd g;have E:((op-1)==0)=false:=by simp;omega
   clear g hd m u b d l p D;go_wp2_with fail;go_roundw
   ·exact⟨f,k+1,op-1,by go_num,rfl,by omega,by omega,v,t⟩
   simp[intOf];omega
  have G:((s[k].toNat:Int)==41)=false:=by rw[m];exact q0J p
  rw[if_neg p]at g;have t:=hyd g;clear g hd m u b d l p;go_wp2_with fail;go_roundw
  ·exact⟨f,k+1,op,by go_num,rfl,by omega,by omega,v,t⟩
  simp[intOf];omega
 have A:((s[0].toNat:Int)==40)=false:=by rw[m];exact q0J l
 have M:n=1:=by
  rw[x]at h;simp only[Rf.atom,if_neg b,if_neg d,if_neg l,Option.some.injEq]at h;exact h.symm
 subst M;clear hd m u x b h d l;go_enter Tryz.func161,Tryz.ntmps161;go_wp2_with fail;go_ret;exact⟨rfl,Below.refl _ _⟩
theorem q4y (s:ByteArray) (n:Nat) (w:World) (hs:s.size<=40) (h:Rf.piece s.data.toList=some n):
  Calls Tryz.prog 112 #[.string s] w λe w'=>e=.returned (.int .i64 n)/\Below w.heap.size w w':=by
 rcases ha:Rf.atom s.data.toList with _|n0
 ·simp[Rf.piece,ha]at h
 simp only[Rf.piece,ha]at h;go_enter Tryz.func112,Tryz.ntmps112;go_wp2_with fail;refine(q9a s n0 _ hs ha).mono ?_;rintro e w1 ⟨rfl,j⟩;clear ha;go_wp2_with fail
 go_loop [3] (λi=>∃(f k:Nat),i=.int .i64 k/\Hid (Rf.pieceFrom s.data.toList f k=some n)) (λi=>s.size-(intOf i).toNat)
 ·exact⟨_,n0,rfl,h⟩
 clear h;obtain⟨f,k,rfl,HS⟩:=hrel;rcases f with _|f
 ·exact absurd HS.out (by simp[Rf.pieceFrom])
 have a:=HS.out;clear HS;rcases hd:s.data.toList.drop k with _|⟨c,r⟩
 ·simp only[Rf.pieceFrom,hd,Option.some.injEq]at a;have o:s.size<=k:=by simpa using hd
  have b:=hyd a;clear hd a;go_wp2_with fail;go_ret;exact⟨q0l (by have:=b.out;omega),j⟩
 obtain⟨o,g,l⟩:=q0m hd;simp only[Rf.pieceFrom,hd]at a;rw[<-g]at a;cases hh:Rf.has Rf.suffixes s[k].toNat
 ·rw[hh]at a;have b:=hyd a;have d:=hyd hh;clear a hd g l hh;go_wp2_with fail;refine(q6t _ _ _ (by decide)).mono ?_;rintro e w' ⟨rfl,rfl⟩;rw[show Rf.has (ByteArray.data { data:=#[42,43,63,123] }).toList ↑s[k].toNat=false from d.out];go_wp2_with fail;go_ret;exact⟨q0l (by have:=Option.some.inj b.out;omega),j⟩
 rw[hh]at a;rcases hsf:Rf.suffixed s.data.toList k with _|n'
 ·rw[hsf]at a;simp at a
 rw[hsf]at a;have m:=Rf.suffixed_gt hsf;have b:=hyd a;have d:=hyd hh;clear a hd g l hh;go_wp2_with fail;refine(q6t _ _ _ (by decide)).mono ?_;rintro e w' ⟨rfl,rfl⟩;rw[show Rf.has (ByteArray.data { data:=#[42,43,63,123] }).toList ↑s[k].toNat=true from d.out];go_wp2_with fail;refine(q3S s k _ n' _ hs rfl hsf).mono ?_;rintro e w' ⟨rfl,rfl⟩;go_wp2_with fail
 go_round
 ·exact⟨f,n',rfl,b⟩
 simp[intOf];omega
theorem q2J (s:ByteArray) (a b:Nat):(s.extract a b).data.toList=(s.data.toList.take b).drop a:=by
 simp[ByteArray.data_extract,List.extract_eq_take_drop,List.drop_take]
theorem y2o (s:ByteArray) (b:Nat):(s.extract 0 b).data.toList=s.data.toList.take b:=by
 rw[q2J];rfl
theorem q3u (s:ByteArray) (a:Nat):(s.extract a s.size).data.toList=s.data.toList.drop a:=by
 rw[q2J,List.take_of_length_le (by simp)]
theorem q1v (s:ByteArray) (a b:Nat) (h:s.size<=40):(s.extract a b).size<=40:=by
 simp[ByteArray.size_extract];omega
theorem q2u (s:ByteArray) (n:Nat) (w:World) (hs:s.size<=40) (h:Rf.split s.data.toList=some n):
  Calls Tryz.prog 164 #[.string s] w λe w'=>e=.returned (.tuple #[.string (s.extract 0 n),.string (s.extract n s.size)])/\Below w.heap.size w w':=by
 rcases ha:Rf.atom s.data.toList with _|n0
 ·simp[Rf.split,ha]at h
 simp only[Rf.split,ha]at h;have d:n0<=s.size:=by have:=(Rf.atom_le ha).2;simpa using this
 go_enter Tryz.func164,Tryz.ntmps164;go_wp2_with fail;refine(q9a s n0 _ hs ha).mono ?_;rintro e w1 ⟨rfl,g⟩;clear ha;go_wp2_with fail
 go_loop [4,5] (λi j=>∃(f k c:Nat),i=.int .i64 k/\j=.int .i64 c/\c<=s.size/\Hid (Rf.splitFrom s.data.toList f k c=some n)) (λi _=>s.size-(intOf i).toNat)
 ·exact⟨_,n0,n0,rfl,rfl,d,h⟩
 clear h;obtain⟨f,k,c0,rfl,rfl,m,HS⟩:=hrel;rcases f with _|f
 ·exact absurd HS.out (by simp[Rf.splitFrom])
 have a:=HS.out;clear HS;rcases hd:s.data.toList.drop k with _|⟨c,r⟩
 ·simp only[Rf.splitFrom,hd,Option.some.injEq]at a;have p:s.size<=k:=by simpa using hd
  subst a;have t:(0:Int)<=c0/\(c0:Int)<=(s.size:Int):=by omega
  clear hd;go_wp2_with fail
  go_quiet (fail)
  go_wp2_with fail;go_ret2;exact⟨rfl,g.trans (q0p _ _ _)⟩
 obtain⟨p,l,q⟩:=q0m hd;simp only[Rf.splitFrom,hd]at a;rcases hsf:Rf.suffixed s.data.toList k with _|n'
 ·rw[hsf]at a;simp at a
 rw[hsf]at a;have o:=Rf.suffixed_gt hsf;have b:=hyd a;clear a hd l q;go_wp2_with fail;refine(q3S s k _ n' _ hs rfl hsf).mono ?_;rintro e w' ⟨rfl,rfl⟩;go_wp2_with fail
 go_round
 ·exact⟨f,n',k,rfl,rfl,by omega,b⟩
 simp[intOf];omega
theorem q9H (s:ByteArray) (m:Int) (w:World) (hs:s.size<=40) (h:Rf.most s.data.toList=some m):
  Calls Tryz.prog 165 #[.string s] w λe w'=>∃l:Int,e=.returned (.tuple #[.int .i64 l,.int .i64 m])/\Below w.heap.size w w':=by
 rcases hd:s.data.toList.drop 0 with _|⟨c,_|⟨x,_|⟨y,r⟩⟩⟩
 ·rw[List.drop_zero]at hd;rw[hd]at h;simp[Rf.most]at h
 ·rw[List.drop_zero]at hd;rw[hd]at h;simp[Rf.most]at h
 ·rw[List.drop_zero]at hd;rw[hd]at h;simp[Rf.most]at h
 obtain⟨L,A,u⟩:=q0m hd;obtain⟨p,g,j⟩:=q0m u;obtain⟨q,i,k⟩:=q0m j;rw[List.drop_zero]at hd;rw[hd]at h;simp only[Rf.most]at h;have B:=p;have C:=q;have d:=g;have a:=i;have M:(1:Int)<(s.size:Int):=by omega
 have N:(2:Int)<(s.size:Int):=by omega
 rw[<-d]at h;cases hdx:Rf.digit s[1].toNat
 ·rw[hdx]at h;cases h
 rw[hdx,if_pos rfl]at h;have F:48<=(s[1].toNat:Int)/\(s[1].toNat:Int)<=57:=by simpa[Rf.digit]using hdx
 obtain⟨G,H⟩:=F;by_cases b:y=44
 ·have E:((s[2].toNat:Int)==44)=true:=by rw[a,b];rfl
  rw[if_pos b]at h;rcases r with _|⟨z,P⟩
  ·cases h
  obtain⟨t,n,v⟩:=q0m k;have D:=t;have f:=n;have O:(3:Int)<(s.size:Int):=by omega
  simp only[<-f]at h;cases hdz:Rf.digit s[3].toNat
  ·rw[hdz]at h;cases h
  rw[hdz,if_pos rfl]at h;have I:48<=(s[3].toNat:Int)/\(s[3].toNat:Int)<=57:=by simpa[Rf.digit]using hdz
  obtain⟨J,K⟩:=I;have o:=Option.some.inj h;subst o;clear hd A u g j i k d a h hdx b n v f hdz;go_enter Tryz.func165,Tryz.ntmps165;go_wp2_with fail
  go_quiet (fail)
  go_wp2_with fail;go_ret2;exact⟨_,rfl,q0p _ _ _⟩
 have E:((s[2].toNat:Int)==44)=false:=by rw[a];exact q0J b
 rw[if_neg b]at h;have o:=Option.some.inj h;subst o;clear hd A u g j i k d a h hdx b;go_enter Tryz.func165,Tryz.ntmps165;go_wp2_with fail;go_ret2;exact⟨_,rfl,Below.refl _ _⟩
theorem y0M (s:ByteArray) (k n:Nat):(s.extract k (k+n)).data.toList=(s.data.toList.drop k).take n:=by
 rw[q2J,List.drop_take];congr 1;omega
def PlacesAt (f:Nat):Prop:=∀(s:ByteArray) (v:Int) (w:World),s.size<=40->Rf.cnt f true s.data.toList=some v ->
 Calls Tryz.prog 51 #[.string s] w λe w'=>e=.returned (.int .i64 v)/\Below w.heap.size w w'
def SizeAt (f:Nat):Prop:=∀(s:ByteArray) (v:Int) (w:World),s.size<=40->Rf.cnt f false s.data.toList=some v ->
 Calls Tryz.prog 113 #[.string s] w λe w'=>e=.returned (.int .i64 v)/\Below w.heap.size w w'
theorem q7U (f:Nat) (ih:∀g,g<f->SizeAt g):PlacesAt f:=by
 intro s v w hs h;have N:=Rf.cnt_small h (by simpa using hs);go_enter Tryz.func51,Tryz.ntmps51;go_wp2_with fail
 go_loopw [3,4] (λn i w'=>∃(g k:Nat) (a b:Int),g<=f/\i=.int .i64 k/\n=.int .i64 a/\0<=a/\k<=s.size/\a+b=v/\Below w.heap.size w w'/\Hid (Rf.cnt g true (s.data.toList.drop k)=some b)) (λ_ i _=>s.size-(intOf i).toNat)
 ·exact⟨f,0,0,v,Nat.le_refl _,rfl,rfl,by omega,by omega,by omega,Below.refl _ _,h⟩
 clear h;obtain⟨g,k,a,b,M,rfl,rfl,ha,H,l,p,HS⟩:=hrel;rcases g with _|g
 ·exact absurd HS.out (by simp[Rf.cnt])
 have j:=HS.out;clear HS;rcases hd:s.data.toList.drop k with _|⟨c,r⟩
 ·simp only[Rf.cnt,hd,Option.some.injEq]at j;have G:s.size<=k:=by simpa using hd
  have u:Hid (a=v):=by show _=_;omega
  clear hd j l;go_wp2_with fail;go_ret;exact⟨q0l u.out,p⟩
 obtain⟨G,q,C⟩:=q0m hd;simp only[Rf.cnt,hd]at j;by_cases d:c=124
 ·have m:((s[k].toNat:Int)==124)=true:=by rw[q,d];rfl
  rw[if_pos d,<-C]at j;have u:=hyd j;have t:=hyd l;clear j hd q C d l;go_wp2_with fail;go_roundw
  ·exact⟨g,k+1,a,b,by omega,by go_num,rfl,ha,by omega,t,p,u⟩
  simp[intOf];omega
 have m:((s[k].toNat:Int)==124)=false:=by rw[q];exact q0J d
 rw[if_neg d]at j;rcases hp:Rf.piece (c::r)with _|n
 ·rw[hp]at j;cases j
 obtain⟨I,J⟩:=Rf.piece_le hp;rw[hp]at j;simp only at j;rcases hx:Rf.cnt g false ((c::r).take n)with _|x
 ·rw[hx]at j;simp at j
 rcases hy:Rf.cnt g true ((c::r).drop n)with _|y
 ·rw[hx,hy]at j;simp at j
 rw[hx,hy]at j;simp only[Option.some.injEq]at j;have E:(c::r).length=s.size-k:=by rw[<-hd];simp
 have B:Rf.piece (s.extract k s.size).data.toList=some n:=by rw[q3u,hd];exact hp
 have D:Rf.cnt g false (s.extract k (k+n)).data.toList=some x:=by rw[y0M,hd];exact hx
 have K:=Rf.cnt_small hx (by rw[List.length_take];omega);have L:=Rf.cnt_small hy (by rw[List.length_drop];omega);have F:Hid (Rf.cnt g true (s.data.toList.drop (k+n))=some y):=by show _=_;rw[<-List.drop_drop,hd];exact hy
 have t:Hid (a+x+y=v):=by show _=_;omega
 have⟨ax,hkn⟩:a+x<=9094947017729282/\k+n<=s.size:=by omega
 clear j hd q C d l hp hx hy;go_wp2_with fail;refine(q4y _ n _ (q1v s _ _ hs) B).mono ?_;rintro e w1 ⟨rfl,z⟩;go_wp2_with fail;refine(ih g (by omega) _ x _ (q1v s _ _ hs) D).mono ?_;rintro e w2 ⟨rfl,A⟩;go_wp2_with fail;go_roundw
 ·have o:=p.trans (z.mono p.size);exact⟨g,k+n,a+x,y,by omega,by go_num,rfl,by omega,hkn,t.out,o.trans (A.mono o.size),F⟩
 simp[intOf];omega
theorem q9W (f:Nat) (ih:∀g,g<f->SizeAt g) (ih':∀g,g<f->PlacesAt g):SizeAt f:=by
 intro s v w hs h;have P:=Rf.cnt_small h (by simpa using hs);rcases f with _|f
 ·simp[Rf.cnt]at h
 have L:=ih f (by omega);have E:=ih' f (by omega);clear ih ih';simp only[Rf.cnt]at h;rcases hsp:Rf.split s.data.toList with _|a
 ·rw[hsp]at h;cases h
 have q:=Rf.split_le hsp;rw[hsp]at h;simp only at h;have M:a<=s.size:=by simpa using q
 rcases hd:s.data.toList.drop a with _|⟨u,K⟩
 ·rw[hd]at h;have B:a=s.size:=by
    have:s.size<=a:=by simpa using hd
    omega
  subst B;rcases hl:s.data.toList.drop 0 with _|⟨c,r⟩
  ·rw[List.drop_zero]at hl;rw[hl]at h;simp at h
  obtain⟨N,p,x⟩:=q0m hl;rw[List.drop_zero]at hl;by_cases d:c=40
  ·have G:((s[0].toNat:Int)==40)=true:=by rw[p,d];rfl
   rw[hl]at h;simp only[if_pos d]at h;have H:r.length=s.size-1:=by rw[<-x];simp
   by_cases y:r.length=0
   ·rw[if_pos y]at h;cases h
   rw[if_neg y]at h;have t:Rf.cnt f true (s.extract 1 (s.size-1)).data.toList=some v:=by
    rw[q2J,List.drop_take,x,show s.size-1-1=r.length-1 by omega];exact h
   have Q:1<=s.size-1:=by omega
   clear hl p x h d hd q y H;go_enter Tryz.func113,Tryz.ntmps113;go_wp2_with fail;refine(q2u s _ _ hs hsp).mono ?_;rintro e w1 ⟨rfl,k⟩;go_wp2_with fail;refine(E _ v _ (q1v s _ _ hs) t).mono ?_;rintro e w2 ⟨rfl,j⟩;go_wp2_with fail;go_ret;exact⟨rfl,k.trans (j.mono k.size)⟩
  have G:((s[0].toNat:Int)==40)=false:=by rw[p];exact q0J d
  rw[hl]at h;simp only[if_neg d,Option.some.injEq]at h;subst h;clear hl p x d hd q;go_enter Tryz.func113,Tryz.ntmps113;go_wp2_with fail;refine(q2u s _ _ hs hsp).mono ?_;rintro e w1 ⟨rfl,k⟩;go_wp2_with fail;go_ret;exact⟨rfl,k⟩
 obtain⟨N,p,x⟩:=q0m hd;rw[hd]at h;simp only at h;rcases hx:Rf.cnt f false (s.data.toList.take a)with _|n
 ·rw[hx]at h;cases h
 rw[hx]at h;simp only at h;have C:Rf.cnt f false (s.extract 0 a).data.toList=some n:=by rw[y2o];exact hx
 have i:(s.extract a s.size).data.toList=u::K:=by rw[q3u,hd]
 have J:0<(s.extract a s.size).size:=by
  have:(s.extract a s.size).data.toList.length=K.length+1:=by rw[i];rfl
  simp at this;simp;omega
 have o:(s.extract a s.size)[0]=u:=by
  have:=q6v (s.extract a s.size) 0 J;rw[this,i];rfl
 have I:(s.extract a s.size).size<=40:=q1v s _ _ hs;have z:=hyd (q2u s a w hs hsp);generalize s.extract a s.size=ub at *;have O:ub.toList.isEmpty=false:=by rw[ByteArray.toList_eq,i];rfl
 by_cases b:u=123
 ·rw[if_pos b]at h;have G:((ub[0].toNat:Int)==123)=true:=by rw[o,b];rfl
  rcases t:Rf.most (u::K)with _|m
  ·rw[t]at h;cases h
  rw[t]at h;simp only[Option.map_some,Option.some.injEq]at h;obtain⟨R,S,m2⟩:=Rf.most_bd t;rw[<-i]at t;have D:=hyd h;have T:0<=n*m/\n*m<=9094947017729282:=by rw[h];exact P
  clear h o i hx hd p x b;go_enter Tryz.func113,Tryz.ntmps113;go_wp2_with fail;refine z.out.mono ?_;rintro e w1 ⟨rfl,k⟩;go_wp2_with fail;refine(L _ n _ (q1v s _ _ hs) C).mono ?_;rintro e w2 ⟨rfl,j⟩;go_wp2_with fail;refine(q9H ub m _ I t).mono ?_;rintro e U ⟨l,rfl,F⟩;go_wp2_with fail;go_ret;have A:=k.trans (j.mono k.size);exact⟨q0l D.out,A.trans (F.mono A.size)⟩
 rw[if_neg b]at h;have G:((ub[0].toNat:Int)==123)=false:=by rw[o];exact q0J b
 have D:=hyd (Option.some.inj h);clear h o i hx hd p x b;go_enter Tryz.func113,Tryz.ntmps113;go_wp2_with fail;refine z.out.mono ?_;rintro e w1 ⟨rfl,k⟩;go_wp2_with fail;refine(L _ n _ (q1v s _ _ hs) C).mono ?_;rintro e w2 ⟨rfl,j⟩;go_wp2_with fail;go_ret;exact⟨q0l D.out,k.trans (j.mono k.size)⟩
theorem q6D:∀f:Nat,PlacesAt f/\SizeAt f:=by
 intro f
 induction f using Nat.strongRecOn with
 |ind f ih=>exact⟨q7U f (λg a=>(ih g a).2),q9W f (λg a=>(ih g a).2) (λg a=>(ih g a).1)⟩
end Go.Proofs.YtoaaklhpmhjhkaaGreat
