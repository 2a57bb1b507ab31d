import Derived.WalkKit
import Derived.Below
import Derived.Deep.RegionHeld3
import Derived.Deep.MidRow
import Derived.Deep.AppendLies
set_option linter.all false
namespace Go.Proofs.YtoaaklhpmhjhkaaGreat
open Go Go.RowKit
theorem hyd {p:Prop} (h:p):Hid p:=h
theorem hyd2 {p0 p1:Prop} (h0:p0) (h1:p1):Hid (p0/\p1):=⟨h0,h1⟩
theorem hyd3 {p0 p1 p2:Prop} (h0:p0) (h1:p1) (h2:p2):Hid (p0/\p1/\p2):=⟨h0,h1,h2⟩
theorem hyd4 {p0 p1 p2 p3:Prop} (h0:p0) (h1:p1) (h2:p2) (h3:p3):Hid (p0/\p1/\p2/\p3):=⟨h0,h1,h2,h3⟩
theorem hyd5 {p0 p1 p2 p3 p4:Prop} (h0:p0) (h1:p1) (h2:p2) (h3:p3) (h4:p4):Hid (p0/\p1/\p2/\p3/\p4):=⟨h0,h1,h2,h3,h4⟩
theorem hyd6 {p0 p1 p2 p3 p4 p5:Prop} (h0:p0) (h1:p1) (h2:p2) (h3:p3) (h4:p4) (h5:p5):Hid (p0/\p1/\p2/\p3/\p4/\p5):=⟨h0,h1,h2,h3,h4,h5⟩
theorem nam {a:Type} (x:a):∃ y,y = x:=⟨x,rfl⟩
theorem gld (T:TypeId) {P:Program} {X:Array Oper} {Q:Exit->Act->World->Prop} {d t p f g} {o:Operand} {r:List Oper} {a:Act} {w:World} (h:wpList P X Q (⟨d,Op.load T o,t,p,f,g⟩::r) a w):wpList P X Q (⟨d,Op.load T o,t,p,f,g⟩::r) a w:=h
theorem gst (T:TypeId) {P:Program} {X:Array Oper} {Q:Exit->Act->World->Prop} {d t p f g} {o u:Operand} {r:List Oper} {a:Act} {w:World} (h:wpList P X Q (⟨d,Op.store T o u,t,p,f,g⟩::r) a w):wpList P X Q (⟨d,Op.store T o u,t,p,f,g⟩::r) a w:=h
theorem psm:(∀ (a:Act) d v,a.put (some d) v = ⟨a.tmps.setIfInBounds d v,a.defers⟩)/\(∀ (a:Act) v,a.put none v = a)/\(∀ (l:List Value) i a,l.toArray.setIfInBounds i a = (l.set i a).toArray)/\(∀ (x:Value) xs a,(x::xs).set 0 a = a::xs)/\(∀ (x:Value) xs i a,(x::xs).set (i + 1) a = x::xs.set i a):=⟨fun _ _ _=>rfl,fun _ _=>rfl,fun _ _ _=>List.setIfInBounds_toArray ..,fun _ _ _=>rfl,fun _ _ _ _=>rfl⟩
theorem gel {α:Type}:(∀ (l:List α) (i:Nat),l.toArray[i]? = l[i]?)/\(∀ (a:α) l (i:Nat),(a::l)[i + 1]? = l[i]?)/\(∀ (a:α) l,(a::l)[0]? = some a):=⟨fun _ _=>List.getElem?_toArray ..,fun _ _ _=>List.getElem?_cons_succ,fun _ _=>List.getElem?_cons_zero⟩
abbrev Bl (w w':World):Prop:=Below w.heap.size w w'
abbrev hz (w:World):Nat:=w.heap.size
abbrev I6:=Value.int .i64
theorem tk {P:Program} {ops:Array Oper} {Q:Exit->Act->World->Prop} {md:Region.Mode} {S:World->Prop} {i:Nat} {oi:Oper} {v:Value} {fuel:Nat} {listed:Array Bool} {a:Act} {w:World} (h:ops[i]? = some oi) (hs:(Region.noSelect ops && Region.free md ops listed i && (Region.ready md ops listed).contains i) = true) (hQ:∀ c a w,Q (.panic c) (Act.put a oi.dst v) w->Q (.panic c) a w) (hy:YieldsIf P ops S oi v a) (hS:S w) (r:wpAnyH P md ops Q S fuel (listed.setIfInBounds i true) (a.put oi.dst v) w):wpAnyH P md ops Q S (fuel + 1) listed a w:=by
 simp only [Bool.and_eq_true] at hs; exact wpAnyH_take h hs.1.1 hs.1.2 hs.2 hQ hy hS r
abbrev sL (g:Nat):Nat->Nat->Value:=.slice (some ⟨g,0,none⟩)
abbrev sN:Value:=.slice none 0 0
abbrev pT (g:Nat):Value:=.pointer (some ⟨g,0,none⟩)
theorem _root_.Go.RowKit.Hid.o {p:Prop} (h:Hid p):p:=h
theorem Qo {p:Prop} (h:p:=by omega):p:=h
theorem Qs {p:Prop} (h:p:=by simp):p:=h
theorem Qd {p:Prop} (h:p:=by decide):p:=h
theorem Qg {p:Prop} (h:p:=by go_num):p:=h
theorem Qr {p:Prop} (h:p:=by rfl):p:=h
theorem Qk {p:Prop} (h:p:=by kernel_rfl):p:=h
theorem Qp {p:Prop} (h:p:=by simp; omega):p:=h
abbrev a_ (b o:Nat):Addr:=⟨b,o,none⟩
abbrev N_:=Nat->Bool
theorem g_.{u} {c:Prop} [h:Decidable c] {α:Sort u} {t e:α} (k:¬c:=by omega):ite c t e = e:=if_neg k
theorem p_.{u} {c:Prop} [h:Decidable c] {α:Sort u} {t e:α} (k:c:=by omega):ite c t e = t:=if_pos k
theorem tQ {P:Program} {ops:Array Oper} {Q:Exit->Act->World->Prop} {md:Region.Mode} {S:World->Prop} (i:Nat) {oi:Oper} {v:Value} {fuel:Nat} {listed:Array Bool} {a A:Act} {w:World} (r:wpAnyH P md ops Q S fuel (listed.setIfInBounds i true) A w) (h:ops[i]? = some oi:=by simp only [gel]; rfl) (hs:(Region.noSelect ops && Region.free md ops listed i && (Region.ready md ops listed).contains i) = true:=by kernel_rfl) (hQ:∀ c a w,Q (.panic c) (Act.put a oi.dst v) w->Q (.panic c) a w:=by exact fun _ _ _ h=>h) (hy:YieldsIf P ops S oi v a:=by first | exact Or.inl ⟨by rfl,by intro w' s; (try dsimp only at s); (try (have s1:=s.1; have s2:=s.2.1; have s3:=s.2.2)); (try (have s1:=s.1; have s2:=s.2)); (try (have s3:=s.2.2.1; have s4:=s.2.2.2)); go_simp; first | done | with_reducible rfl⟩ | exact Or.inr ⟨by rfl,rfl⟩) (hS:S w:=by assumption) (hA:a.put oi.dst v = A:=by (try simp only [psm]); rfl):wpAnyH P md ops Q S (fuel + 1) listed a w:=by
 simp only [Bool.and_eq_true] at hs; subst hA; exact wpAnyH_take h hs.1.1 hs.1.2 hs.2 hQ hy hS r
theorem tJ {P:Program} {ops:Array Oper} {Q:Exit->Act->World->Prop} {md:Region.Mode} (i:Nat) {oi:Oper} {v:Value} {fuel:Nat} {listed:Array Bool} {a A:Act} {w:World} (r:wpAny P md ops Q fuel (listed.setIfInBounds i true) A w) (h:ops[i]? = some oi:=by simp only [gel]; rfl) (hs:(Region.noSelect ops && Region.free md ops listed i && (Region.ready md ops listed).contains i) = true:=by kernel_rfl) (hQ:∀ c a w,Q (.panic c) (Act.put a oi.dst v) w->Q (.panic c) a w:=by exact fun _ _ _ h=>h) (hy:(Region.wanted oi (yielded ops a.tmps) = true/\∀ w,(execOp a.eval oi).run P w = .ok (.value v) w) ∨ (Region.wanted oi (yielded ops a.tmps) = false/\v = undef):=by first | exact Or.inl ⟨by rfl,by intro w'; go_simp; first | done | with_reducible rfl⟩ | exact Or.inr ⟨by rfl,rfl⟩) (hA:a.put oi.dst v = A:=by (try simp only [psm]); rfl):wpAny P md ops Q (fuel + 1) listed a w:=by
 simp only [Bool.and_eq_true] at hs; subst hA; exact wpAny_take h hs.1.1 hs.1.2 hs.2 hQ hy r
abbrev Za:=@wpList_store_mid
abbrev Zb:=@wpList_load_mid
abbrev Zc:=@List.toList_toArray
abbrev Zd:=@List.getElem?_eq_getElem
abbrev Ze:=@World.block_lt_of_cell?
abbrev Zf:=@List.getD_eq_getElem?_getD
abbrev Zg:=@Nat.le_refl
abbrev Zh:=@Option.some.inj
abbrev Zi:=@List.getElem?_eq_some_iff
abbrev Zj:=@all_oneCell_toArray
abbrev Zk:=@Below.refl
abbrev Zl:=@List.length_append
abbrev Zm:=@World.cell?_alloc_new
abbrev Zn:=@Nat.zero_add
abbrev Zo:=@World.rangeAt_setCells_same
abbrev Zp:=@Option.some.injEq
abbrev Zq:=@Below.heap_setCell
abbrev Zr:=@bodyPost_ret
abbrev Zs:=@List.append_assoc
abbrev Zt:=@List.cons_append
abbrev Zu:=@Result.andThen_ok
abbrev Zv:=@List.getElem?_append_left
abbrev Zw:=@List.drop_zero
abbrev Zx:=@Option.isSome_iff_exists
abbrev Zy:=@List.length_map
abbrev Zz:=@World.size_setCell
abbrev ZA:=@Int.eq_ofNat_of_zero_le
abbrev ZB:=@List.getElem?_eq_none
abbrev ZC:=@List.mem_singleton
abbrev ZD:=@Nat.lt_or_ge
abbrev ZE:=@Int.toNat_natCast
abbrev ZF:=@run_loadVar_mid
abbrev ZG:=@List.getElem?_append_right
abbrev ZH:=@Nat.lt_of_lt_of_le
abbrev ZI:=@List.mem_range
abbrev ZJ:=@Nat.le_trans
abbrev ZK:=@List.take_succ_cons
abbrev ZL:=@List.drop_succ_cons
abbrev ZM:=@Nat.le_of_lt
abbrev ZN:=@Nat.add_assoc
abbrev ZO:=@List.map_congr_left
abbrev ZP:=@Nat.add_comm
abbrev ZQ:=@Nat.mul_le_mul_right
abbrev ZR:=@List.mem_cons
abbrev ZS:=@Bool.and_eq_true
abbrev ZT:=@List.range_succ
abbrev ZU:=@List.mem_append
abbrev dp:=@Bool.or_eq_true
abbrev dq:=@beq_iff_eq
abbrev dr:=@List.foldl_cons
abbrev dt:=@List.map_cons
abbrev du:=@Nat.succ_mul
abbrev dv:=@List.append_nil
abbrev dw:=@Bool.or_false
abbrev dx:=@Bool.false_or
abbrev dy:=@Bool.false_and
abbrev dz:=@List.nil_append
abbrev dA:=@List.eq_nil_of_length_eq_zero
abbrev dB:=@if_true
abbrev dC:=@Bool.or_assoc
abbrev dD:=@List.all_cons
abbrev dE:=@Bool.and_false
abbrev dF:=@if_pos
abbrev dG:=@if_neg
abbrev dH:=@List.any_cons
abbrev dI:=@List.mem_of_getElem?
abbrev dJ:=@Nat.lt_trichotomy
abbrev dK:=@beq_self_eq_true
abbrev dL:=@Bool.true_and
abbrev dM:=@Nat.zero_le
abbrev dN:=@List.length_singleton
abbrev dO:=@List.getElem?_cons_zero
abbrev dP:=@Nat.mul_le_mul
abbrev dQ:=@Nat.add_mul
abbrev dR:=@Nat.mul_le_mul_left
abbrev dS:=@List.drop_eq_getElem_cons
abbrev dT:=@List.drop_eq_nil_of_le
abbrev dU:=@beq_eq_false_iff_ne
abbrev dV:=@UInt8.toNat_inj
abbrev dW:=@Prod.mk.injEq
abbrev dX:=@Option.map_some
abbrev dY:=@List.length_drop
abbrev dZ:=@List.length_cons
abbrev ec:=@Nat.pow_le_pow_left
abbrev ed:=@Nat.mul_comm
abbrev ej:=@Nat.pow_succ
abbrev el:=@Nat.pow_add
abbrev ep:=@Int.mul_nonneg
abbrev eu:=@Nat.mul_assoc
abbrev ey:=@Nat.eq_zero_or_pos
abbrev ez:=@List.getElem?_drop
abbrev eA:=@Bool.eq_iff_iff
abbrev eB:=@decide_eq_true_eq
abbrev eC:=@List.drop_drop
abbrev eD:=@List.take_append_drop
abbrev eE:=@List.length_take
abbrev eF:=@List.take_add
abbrev eG:=@List.getElem?_cons_succ
abbrev eH:=@List.drop_append_of_le_length
abbrev eI:=@List.drop_of_length_le
abbrev eJ:=@List.map_nil
abbrev eK:=@List.map_append
abbrev eL:=@List.drop_left
abbrev eM:=@List.not_mem_nil
abbrev eN:=@Bool.false_eq_true
abbrev eO:=@List.length_nil
abbrev eP:=@Nat.add_zero
abbrev eQ:=@List.drop_length
abbrev eR:=@List.take_left
abbrev eS:=@List.singleton_append
abbrev eT:=@Int.le_refl
abbrev eU:=@if_false
abbrev eV:=@List.mem_map
abbrev eW:=@List.flatten_cons
abbrev eX:=@Nat.div_eq_of_lt
abbrev eY:=@List.flatMap_cons
abbrev eZ:=@Go.World.cell?_of_block
abbrev fd:=@Go.World.frozen?_of_block
abbrev fe:=@Go.Addr.add_lit
abbrev ff:=@Nat.mul_one
abbrev fh:=@Go.World.cell?_setCells_out
abbrev fj:=@Go.World.cell?_setCells_in
abbrev fp:=@Go.World.frozen?_setCells
abbrev fq:=@Go.World.cell?_alloc_lt
abbrev ft:=@Go.Calls.mono
abbrev fw:=@Go.World.frozen?_setCell
abbrev fx:=@List.getElem?_set_self
abbrev fy:=@Go.World.cell?_setCell_same
abbrev fA:=@List.getElem?_set_ne
abbrev fB:=@Go.World.cell?_setCell_other
abbrev fC:=@Array.getElem?_eq_none
abbrev fD:=@Go.wpList_append_lies
abbrev fE:=@Go.Sem.run_bind
abbrev fF:=@Nat.lt_succ_self
abbrev fG:=@List.ext_getElem?
abbrev fH:=@Nat.le_succ
abbrev fI:=@Go.Value.slice.inj
abbrev fJ:=@Nat.zero_mul
abbrev fK:=@Go.wp_region_held_drew
abbrev fL:=@Go.wpAnyH_ready
abbrev fM:=@Go.AllReadyH.cons
abbrev fN:=@Go.AllReadyH.nil
abbrev fO:=@Go.wpAnyH_done
abbrev fP:=@List.extract_eq_take_drop
abbrev fQ:=@List.drop_take
abbrev fR:=@List.take_of_length_le
abbrev fS:=@Go.ByteArray.toList_eq
abbrev fT:=@List.getElem?_map
abbrev fU:=@Go.wpList_plain
abbrev fV:=@Go.Sem.run_pure
abbrev fW:=@List.take_add_one
abbrev fX:=@Option.getD_some
abbrev fY:=@List.any_eq_true
abbrev fZ:=@List.mem_of_mem_take
abbrev f7:=@List.take_zero
abbrev f8:=@Go.wpStill_nil
abbrev f9:=@Go.Sem.run_ite
abbrev gd:=@Go.run_underlying
abbrev gi:=@List.findIdx_le_length
abbrev gj:=@List.length_range
abbrev gm:=@List.flatMap_map
abbrev gn:=@List.flatMap_def
abbrev gp:=@List.take_length
abbrev gq:=@Go.World.cell?_setCell_far
abbrev gr:=@Go.World.there_setCells
abbrev gt:=@List.reverse_append
abbrev gu:=@List.concat_eq_append
abbrev gw:=@Nat.add_sub_cancel_left
abbrev gy:=@List.all_toArray
abbrev gz:=@List.take_append_of_le_length
abbrev gA:=@List.getElem_mem
abbrev gC:=@Nat.lt_of_le_of_lt
abbrev gD:=@Nat.add_sub_cancel
abbrev gE:=@List.cons.inj
abbrev gF:=@Nat.sub_add_cancel
abbrev gG:=@of_decide_eq_true
end Go.Proofs.YtoaaklhpmhjhkaaGreat
