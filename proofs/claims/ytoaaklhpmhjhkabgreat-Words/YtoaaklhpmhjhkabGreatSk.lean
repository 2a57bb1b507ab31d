import Derived.WalkKit
import Derived.Below
import Derived.Deep.RegionHeld3
import Derived.Deep.MidRow
import Derived.Deep.AppendLies
set_option linter.all false
namespace Go.Proofs.YtoaaklhpmhjhkabGreat
open Go Go.RowKit
theorem hyd {p:Prop} (h:p):Hid p:=h
theorem hyd2 {p0 p1:Prop} (h0:p0) (h1:p1):Hid (p0/\p1):=⟨h0,h1⟩
theorem hyd3 {p0 p1 p2:Prop} (h0:p0) (h1:p1) (h2:p2):Hid (p0/\p1/\p2):=⟨h0,h1,h2⟩
theorem hyd4 {p0 p1 p2 p3:Prop} (h0:p0) (h1:p1) (h2:p2) (h3:p3):Hid (p0/\p1/\p2/\p3):=⟨h0,h1,h2,h3⟩
theorem hyd5 {p0 p1 p2 p3 p4:Prop} (h0:p0) (h1:p1) (h2:p2) (h3:p3) (h4:p4):Hid (p0/\p1/\p2/\p3/\p4):=⟨h0,h1,h2,h3,h4⟩
theorem nam {a:Type} (x:a):∃ y,y = x:=⟨x,rfl⟩
theorem gld (T:TypeId) {P:Program} {X:Array Oper} {Q:Exit->Act->World->Prop} {d t p f g} {o:Operand} {r:List Oper} {a:Act} {w:World} (h:wpList P X Q (⟨d,Op.load T o,t,p,f,g⟩::r) a w):wpList P X Q (⟨d,Op.load T o,t,p,f,g⟩::r) a w:=h
theorem gst (T:TypeId) {P:Program} {X:Array Oper} {Q:Exit->Act->World->Prop} {d t p f g} {o u:Operand} {r:List Oper} {a:Act} {w:World} (h:wpList P X Q (⟨d,Op.store T o u,t,p,f,g⟩::r) a w):wpList P X Q (⟨d,Op.store T o u,t,p,f,g⟩::r) a w:=h
theorem psm:(∀ (a:Act) d v,a.put (some d) v = ⟨a.tmps.setIfInBounds d v,a.defers⟩)/\(∀ (a:Act) v,a.put none v = a)/\(∀ (l:List Value) i a,l.toArray.setIfInBounds i a = (l.set i a).toArray)/\(∀ (x:Value) xs a,(x::xs).set 0 a = a::xs)/\(∀ (x:Value) xs i a,(x::xs).set (i + 1) a = x::xs.set i a):=⟨fun _ _ _=>rfl,fun _ _=>rfl,fun _ _ _=>List.setIfInBounds_toArray ..,fun _ _ _=>rfl,fun _ _ _ _=>rfl⟩
theorem gel {α:Type}:(∀ (l:List α) (i:Nat),l.toArray[i]? = l[i]?)/\(∀ (a:α) l (i:Nat),(a::l)[i + 1]? = l[i]?)/\(∀ (a:α) l,(a::l)[0]? = some a):=⟨fun _ _=>List.getElem?_toArray ..,fun _ _ _=>List.getElem?_cons_succ,fun _ _=>List.getElem?_cons_zero⟩
abbrev hz (w:World):Nat:=w.heap.size
abbrev N_:=Nat->Bool
abbrev Zd:=@List.getElem?_eq_getElem
end Go.Proofs.YtoaaklhpmhjhkabGreat
