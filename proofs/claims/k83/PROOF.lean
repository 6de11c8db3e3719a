import PyProof.Rows.All
import Wide.All
import OpenK.AllK
import Wide.FinOn
import Lean
import PyProof.EqAt
import PyProof.EqKinds
import PyProof.TupleCall
import PyProof.P3Eq
import PyProof.NeKinds
import PyProof.NsDelKeeps
import PyProof.RulesAs
import PyProof.ExcAttrAll.ValueError
import PySem.Challenge.RW_looprank_k83_whole_up_to_and_from_on
set_option Elab.async false
set_option linter.all false
set_option maxRecDepth 100000
namespace L2
open PySem PySem.Spec PyProof.Rows
abbrev Key:=Sum Int Str
def aGn:Key->Value->Bool
 | .inl k,v=>Value.isInt k v
 | .inr x,v=>Value.isStrOf x v
def bL4(w:World):Key->Int
 | .inl k=>hashInt k
 | .inr x=>hashStr w x
theorem fP:∀ {k:Key} {v:Value},aGn k v=true->(∃ i t,k=Sum.inl i/\v=Value.int i t)\/(∃ x t,k=Sum.inr x/\v=Value.str x t)
 | .inl i,v,h=>by
  obtain ⟨t,e⟩:=Value.isInt_shape (k:=i) (v:=v) h
  exact .inl ⟨i,t,rfl,e⟩
 | .inr x,v,h=>by
  obtain ⟨t,e⟩:=Value.isStrOf_shape (x:=x) (v:=v) h
  exact .inr ⟨x,t,rfl,e⟩
theorem aU3(i:Int)(t:Tok):aGn (.inl i) (.int i t)=true:=by simp [aGn,Value.isInt]
theorem aU4(x:Str)(t:Tok):aGn (.inr x) (.str x t)=true:=by simp [aGn,Value.isStrOf]
theorem aVw(a b:Int):decide ((Sum.inl a:Key)=Sum.inl b)=(a==b):=by
 by_cases e:a=b
 ·subst e;simp
 ·have h:¬ (Sum.inl a:Key)=Sum.inl b:=fun q=>e (Sum.inl.inj q)
  rw [decide_eq_false h]
  exact (beq_eq_false_iff_ne.mpr e).symm
theorem aVx(a b:Str):decide ((Sum.inr a:Key)=Sum.inr b)=decide (a=b):=by
 by_cases e:a=b
 ·subst e;simp
 ·have h:¬ (Sum.inr a:Key)=Sum.inr b:=fun q=>e (Sum.inr.inj q)
  rw [decide_eq_false h,decide_eq_false e]
theorem aVy(a:Int)(b:Str):decide ((Sum.inl a:Key)=Sum.inr b)=false:=decide_eq_false (fun q=>nomatch q)
theorem aVz(a:Str)(b:Int):decide ((Sum.inr a:Key)=Sum.inl b)=false:=decide_eq_false (fun q=>nomatch q)
def eX(prog:Program)(w:World):PySem.KeyKind prog w Key where
 is:=aGn
 hash:=bL4 w
 inj:=fun v a b ha hb=>by
  rcases fP ha with ⟨i,t,rfl,rfl⟩ | ⟨x,t,rfl,rfl⟩
  ·rcases fP hb with ⟨j,u,rfl,e⟩ | ⟨y,u,rfl,e⟩
   ·injection e with e1 _;rw [e1]
   ·exact nomatch e
  ·rcases fP hb with ⟨j,u,rfl,e⟩ | ⟨y,u,rfl,e⟩
   ·exact nomatch e
   ·injection e with e1 _;rw [e1]
 byValue:=fun k v h=>by
  rcases fP h with ⟨i,t,rfl,rfl⟩ | ⟨x,t,rfl,rfl⟩ <;> rfl
 pyHash:=fun hv h=>by
  rcases fP hv with ⟨i,t,rfl,rfl⟩ | ⟨x,t,rfl,rfl⟩
  ·exact wpAny_pyHash_int h
  ·exact wpAny_pyHash_str h
 eqBool:=fun hu hv h=>by
  rcases fP hu with ⟨i,t,rfl,rfl⟩ | ⟨x,t,rfl,rfl⟩
  ·rcases fP hv with ⟨j,u,rfl,rfl⟩ | ⟨y,u,rfl,rfl⟩
   ·rw [aVw] at h;exact wpAny_eqBool_int h
   ·rw [aVy] at h;exact SeqAt.EqAt.int_str i t y u _ _ _ _ h
  ·rcases fP hv with ⟨j,u,rfl,rfl⟩ | ⟨y,u,rfl,rfl⟩
   ·rw [aVz] at h;exact SeqAt.EqAt.str_int x t j u _ _ _ _ h
   ·rw [aVx] at h;exact wpAny_eqBool_str h
 «strs» := fun k x t v h=>by
  rcases fP h with ⟨i,u,rfl,e⟩ | ⟨y,u,rfl,e⟩
  ·exact nomatch e
  ·injection e with e1 _
   subst e1
   cases v<;>rfl
theorem aO6(prog:Program)(w:World)(i:Int)(t:Tok):(eX prog w).is (.inl i) (.int i t)=true:=aU3 i t
theorem aO7(prog:Program)(w:World)(x:Str)(t:Tok):(eX prog w).is (.inr x) (.str x t)=true:=aU4 x t
end L2
namespace L2
open PySem PySem.Spec PyProof.Rows
inductive V where
 | non | bl (b:Bool) | int (i:Int) | str (x:Str) | byt (b:Array UInt8) | flt (b:UInt64) | ref (a:Addr) | ty (n:String)
 deriving DecidableEq
def RelV:V->Value->Prop
 | .non,u=>u=Value.none
 | .bl b,u=>u=Value.bool b
 | .int i,u=>∃ t,u=Value.int i t
 | .str x,u=>∃ t,u=Value.str x t
 | .byt b,u=>∃ t,u=Value.bytes b t
 | .flt b,u=>∃ t,u=Value.float b t
 | .ref a,u=>u=Value.ref a
 | .ty n,u=>u=Value.type n
abbrev Vals:List V->List Value->Prop:=Paired RelV
theorem Vals.length{xs:List V}{us:List Value}(r:Vals xs us):xs.length=us.length:=Paired.length r
theorem Vals.get:∀ {xs:List V} {us:List Value} {i:Nat} {x:V},Vals xs us->xs[i]?=some x->∃ u,us[i]?=some u/\RelV x u
 | _,_,_,_,.nil,e=>by simp at e
 | _,_,0,_,.cons r _,e=>by simp at e;subst e;exact ⟨_,rfl,r⟩
 | _,_,i+1,x,.cons _ t,e=>by
  obtain ⟨u,h1,h2⟩:=Vals.get (i:=i) (x:=x) t (by simpa using e)
  exact ⟨u,by simpa using h1,h2⟩
theorem Vals.set{x:V}{u:Value}(r:RelV x u):∀ {xs:List V} {us:List Value} (i:Nat),Vals xs us->Vals (xs.set i x) (us.set i u)
 | _,_,_,.nil => .nil
 | _,_,0,.cons _ t => .cons r t
 | _,_,i+1,.cons q t => .cons q (Vals.set r i t)
theorem Vals.append:∀ {xs ys:List V} {us ws:List Value},Vals xs us->Vals ys ws->Vals (xs++ys) (us++ws)
 | _,_,_,_,.nil,s=>s
 | _,_,_,_,.cons r t,s => .cons r (Vals.append t s)
theorem Vals.take:∀ {xs:List V} {us:List Value} (n:Nat),Vals xs us->Vals (xs.take n) (us.take n)
 | _,_,0,_ => .nil
 | _,_,_+1,.nil => .nil
 | _,_,n+1,.cons r t => .cons r (Vals.take n t)
theorem Vals.drop:∀ {xs:List V} {us:List Value} (n:Nat),Vals xs us->Vals (xs.drop n) (us.drop n)
 | _,_,0,r=>r
 | _,_,_+1,.nil => .nil
 | _,_,n+1,.cons _ t=>Vals.drop n t
def yC:Option V->Option Value->Prop
 | some v,some u=>RelV v u
 | none,none=>True
 | _,_=>False
def KV{κ:Type}:List (κ × V)->List (κ × Value)->Prop:=Paired fun (p:κ × V) (q:κ × Value)=>p.1=q.1/\RelV p.2 q.2
def kV:Key->V
 | .inl i => .int i
 | .inr x => .str x
inductive HO where
 | lst (xs:List V)
 | tup (xs:List V)
 | dK (kvs:List (Key × V)) | dT (kvs:List (List Key × V))
 | set (S:Int->Bool) (n:Nat)
 | ins (C dx:Addr) (fs:List (Str × V))
 | own (x:Addr)
 | xd (fs:List (Str × V))
 | met (f x:Addr)
 | rng (lo hi:Int)
 | frz (o:Obj) (u:HO)
 | tbl (ps:Array Value)
 | ext (φ:Heap->Prop)
abbrev Hp:=Addr->Option HO
def upd(H:Hp)(a:Addr)(o:HO):Hp:=fun b=>if b=a then some o else H b
theorem bT{H:Hp}{a:Addr}{o:HO}:upd H a o a=some o:=by unfold upd;rw [if_pos rfl]
theorem bM{H:Hp}{a b:Addr}{o:HO}(h:b≠a):upd H a o b=H b:=by unfold upd;rw [if_neg h]
theorem bHb{H:Hp}{a b:Addr}{o u:HO}(h:H a=some o)(h':H b=some u)(d:o≠u):a≠b:=by
 intro e;subst e;rw [h] at h';exact d (Option.some.inj h')
theorem aX{H:Hp}{a b:Addr}{o:HO}(h:H a=some o)(h':H b=none):a≠b:=by
 intro e;subst e;rw [h] at h';cases h'
section
variable(P:Program)(w:World)
def iI(H:Hp)(h:Heap)(a:Addr):HO->Prop
 | .lst xs=>xs.length<=sizeLine/\∃ (its:List Value) (n:Nat),Vals xs its/\h.get? a=some { cls := .type "list", data := .seq its.toArray n }
 | .tup xs=>xs.length<=sizeLine/\∃ its:List Value,Vals xs its/\IsTup h a its.toArray
 | .dK kvs=>kvs.length<=sizeLine/\(a==sysModules)=false/\∃ vs,KV kvs vs/\h.DictOf (eX P w) a vs
 | .dT kvs=>kvs.length<=sizeLine/\(a==sysModules)=false/\∃ xs:List (List Key × Addr × Value),
   Paired (fun (p:List Key × V) (q:List Key × Addr × Value)=>p.1=q.1/\H q.2.1=some (.tup (p.1.map kV))/\RelV p.2 q.2.2) kvs xs /\
   ∃ o es ep,h.get? a=some o/\o.ExactDict/\o.data = .dict es ep/\es.toList=xs.map (entryOfKey (tupleKind (eX P w)))/\(xs.map (·.1)).Nodup
 | .set S n=>h.SetOf (intKind P w) a S n
 | .ins C dx fs=>H dx=some (.own a)/\fs.length<=1000/\dx≠a/\h.get? a=some (PySem.W.instObj C dx) /\
   ∃ mA,h.Ns1 dx mA/\(∀ f,yC (fs.lookup f) (mA f))/\PySem.Within mA (fs.map (·.1))
 | .own _=>∃ o,h.get? a=some o
 | .xd fs=>∃ mA,h.Ns1 a mA/\∀ f,yC (fs.lookup f) (mA f)
 | .rng lo hi=>∃ t u v,h.get? a=some { cls := .type "range", data := .fields #[.int lo t,.int hi u,.int 1 v] }
 | .frz o u=>h.get? a=some o/\iI H h a u
 | .tbl ps=>h.get? a=some { cls := .none,data := .fields ps }
 | .met f x=>h.get? a=some (PySem.W.methodObj (.ref f) (.ref x))
 | .ext φ=>φ h/\(∃ o,h.get? a=some o)/\∀ h1 h2:Heap,φ h1->(∀ o,h1.get? a=some o->h2.get? a=some o)->φ h2
def HOk(H:Hp)(h:Heap):Prop:=∀ a o,H a=some o->iI P w H h a o
end
section
variable{P:Program}{w:World}{H H':Hp}{h h':Heap}{a:Addr}{o:HO}
theorem iI.lt(x:iI P w H h a o):a < h.objs.size:=by
 cases o with
 | lst xs=>obtain ⟨_,_,_,_,e⟩:=x;exact Heap.lt_size e
 | tup xs=>obtain ⟨_,_,_,p⟩:=x;exact p.lt
 | dK kvs=>obtain ⟨_,_,_,_,o,_,_,e,_⟩:=x;exact Heap.lt_size e
 | dT kvs=>obtain ⟨_,_,_,_,o,_,_,e,_⟩:=x;exact Heap.lt_size e
 | set S n=>obtain ⟨o,_,_,_,e,_⟩:=x;exact Heap.lt_size e
 | ins C dx fs=>obtain ⟨_,_,_,e,_⟩:=x;exact Heap.lt_size e
 | own y=>obtain ⟨_,e⟩:=x;exact Heap.lt_size e
 | xd fs=>obtain ⟨_,⟨_,_,_,e,_⟩,_⟩:=x;exact Heap.lt_size e
 | rng lo hi=>obtain ⟨_,_,_,e⟩:=x;exact Heap.lt_size e
 | frz ob u=>obtain ⟨e,_⟩:=x;exact Heap.lt_size e
 | tbl ps=>exact Heap.lt_size (show h.get? a=some _ from x)
 | met f y=>exact Heap.lt_size (show h.get? a=some _ from x)
 | ext φ=>obtain ⟨_,⟨_,e⟩,_⟩:=x;exact Heap.lt_size e
theorem Paired.mapP{α β:Type}{F G:α->β->Prop}:∀ {l₁:List α} {l₂:List β},Paired F l₁ l₂->(∀ a b,F a b->G a b)->Paired G l₁ l₂
 | _,_,.nil,_ => .nil
 | _,_,.cons r t,f => .cons (f _ _ r) (Paired.mapP t f)
theorem iI.stay(x:iI P w H h a o)(k:∀ b u,(b=a\/H b=some (.own a))->h.get? b=some u->h'.get? b=some u)
  (ho:∀ b,H b=some (.own a)->H' b=some (.own a)) (ht:∀ b xs,H b=some (.tup xs)->H' b=some (.tup xs)):iI P w H' h' a o:=by
 induction o with
 | lst xs=>obtain ⟨z,its,n,r,e⟩:=x;exact ⟨z,its,n,r,k _ _ (.inl rfl) e⟩
 | tup xs=>obtain ⟨z,its,r,ob,e,c⟩:=x;exact ⟨z,its,r,ob,k _ _ (.inl rfl) e,c⟩
 | dK kvs=>obtain ⟨z,y,vs,r,ob,es,ep,e,c⟩:=x;exact ⟨z,y,vs,r,ob,es,ep,k _ _ (.inl rfl) e,c⟩
 | dT kvs =>
  obtain ⟨z,y,xs,r,ob,es,ep,e,c⟩:=x
  exact ⟨z,y,xs,Paired.mapP r fun p q z=>⟨z.1,ht _ _ z.2.1,z.2.2⟩,ob,es,ep,k _ _ (.inl rfl) e,c⟩
 | set S n=>obtain ⟨ob,es,ep,t,e,c⟩:=x;exact ⟨ob,es,ep,t,k _ _ (.inl rfl) e,c⟩
 | ins C dx fs =>
  obtain ⟨d,z,ne,e,mA,⟨od,es,ep,e2,c⟩,r⟩:=x
  exact ⟨ho _ d,z,ne,k _ _ (.inl rfl) e,mA,⟨od,es,ep,k _ _ (.inr d) e2,c⟩,r⟩
 | own y=>obtain ⟨ob,e⟩:=x;exact ⟨ob,k _ _ (.inl rfl) e⟩
 | xd fs=>obtain ⟨mA,⟨od,es,ep,e,c⟩,r⟩:=x;exact ⟨mA,⟨od,es,ep,k _ _ (.inl rfl) e,c⟩,r⟩
 | rng lo hi=>obtain ⟨t,u,v,e⟩:=x;exact ⟨t,u,v,k _ _ (.inl rfl) e⟩
 | frz ob u ih=>obtain ⟨e,q⟩:=x;exact ⟨k _ _ (.inl rfl) e,ih q⟩
 | tbl ps =>
  have e:h.get? a=some { cls := .none,data := .fields ps }:=x
  show h'.get? a=some { cls := .none,data := .fields ps }
  exact k a _ (.inl rfl) e
 | met f y =>
  have e:h.get? a=some (PySem.W.methodObj (.ref f) (.ref y)):=x
  show h'.get? a=some (PySem.W.methodObj (.ref f) (.ref y))
  exact k a _ (.inl rfl) e
 | ext φ=>obtain ⟨p,⟨o,e⟩,st⟩:=x;exact ⟨st _ _ p fun o q=>k _ _ (.inl rfl) q,⟨o,k _ _ (.inl rfl) e⟩,st⟩
theorem HOk.lt(x:HOk P w H h)(e:H a=some o):a < h.objs.size:=(x a o e).lt
theorem HOk.fresh(x:HOk P w H h)(e:h.objs.size<=a):H a=none:=by
 cases q:H a with
 | none=>rfl
 | some u=>exact absurd (Nat.lt_of_lt_of_le (x.lt q) e) (Nat.lt_irrefl _)
theorem HOk.kept(x:HOk P w H h)(k:∀ b u,h.get? b=some u->h'.get? b=some u):HOk P w H h':=fun a o e =>
 (x a o e).stay (fun b u _ q=>k b u q) (fun _ q=>q) fun _ _ q=>q
theorem HOk.laid(x:HOk P w H h)(k:∀ b u,h.get? b=some u->h'.get? b=some u)(hp:h.objs.size<=a)(new:iI P w (upd H a o) h' a o):HOk P w (upd H a o) h':=fun b u e=>by
 have hn:=x.fresh hp
 by_cases hb:b=a
 ·subst hb;rw [bT] at e;cases e;exact new
 ·rw [bM hb] at e
  exact (x b u e).stay (fun c v _ q=>k c v q) (fun c q=>by rw [bM (aX q hn)];exact q) fun c xs q=>by rw [bM (aX q hn)];exact q
end
def Rd(H:Hp)(a:Addr)(u:HO):Prop:=H a=some u\/∃ o,H a=some (.frz o u)
theorem Rd.ok{P:Program}{w:World}{H:Hp}{h:Heap}{a:Addr}{u:HO}(r:Rd H a u)(x:HOk P w H h):iI P w H h a u:=by
 rcases r with r | ⟨o,r⟩
 ·exact x a u r
 ·obtain ⟨_,q⟩:=x a _ r
  exact q
def Mut:Option HO->Prop
 | some (.lst _)=>True
 | some (.dK _)=>True
 | some (.dT _)=>True
 | some (.set _ _)=>True
 | some (.ins _ _ _)=>True
 | some (.ext _)=>True
 | _=>False
section
variable{P:Program}{w:World}{H:Hp}{h h':Heap}{x e:Addr}{o':HO}
theorem HOk.write(ok:HOk P w H h)(mu:Mut (H x))(he:e=x\/H e=some (.own x))(k:∀ b u,b≠e->h.get? b=some u->h'.get? b=some u)(heo:∃ u,h'.get? e=some u)
  (new:iI P w (upd H x o') h' x o'):HOk P w (upd H x o') h':=fun b u q=>by
 have nown:∀ c y,H c=some (.own y)->c≠x:=fun c y r z=>by subst z;rw [r] at mu;exact mu
 have ntup:∀ c xs,H c=some (.tup xs)->c≠x:=fun c xs r z=>by subst z;rw [r] at mu;exact mu
 by_cases hb:b=x
 ·subst hb;rw [bT] at q;cases q;exact new
 ·rw [bM hb] at q
  by_cases hbe:b=e
  ·have q':H b=some (.own x):=by
    rcases he with z | z
    ·exact absurd (hbe.trans z) hb
    ·rw [hbe];exact z
   rw [q] at q';cases q'
   obtain ⟨v,hv⟩:=heo
   exact ⟨v,by rw [hbe];exact hv⟩
  ·refine (ok b u q).stay (fun c v hc r=>k c v ?_ r) (fun c r=>by rw [bM (nown c b r)];exact r) fun c xs r=>by rw [bM (ntup c xs r)];exact r
   rcases hc with rfl | hc
   ·exact hbe
   ·rintro rfl
    rcases he with z | z
    ·exact nown c b hc z
    ·rw [hc] at z;cases z;exact hb rfl
end
structure Un(fs ex:List Addr)(H H':Hp)(h h':Heap):Prop where
 keep:∀ b o,h.get? b=some o->H b=none->b ∉ fs->b ∉ ex->h'.get? b=some o
 slot:∀ b o,h.get? b=some o->H b=none->b∈fs->b ∉ ex->∃ sl,h'.get? b=some { o with slots:=sl }
 free:∀ b o,h.get? b=some o->H b=none->b ∉ ex->H' b=none
 there:∀ b o,h.get? b=some o->b ∉ ex->∃ o',h'.get? b=some o'
 tups:∀ b xs,H b=some (.tup xs)->H' b=some (.tup xs)
 frzs:∀ b o u,H b=some (.frz o u)->H' b=some (.frz o u)
 tbls:∀ b ps,H b=some (.tbl ps)->∃ more,H' b=some (.tbl (ps++more))
section
variable{fs fs' ex ex':List Addr}{H H1 H2:Hp}{h h1 h2 h':Heap}{a x e:Addr}{o:HO}
theorem Un.any(u:Un fs ex H H1 h h1){b:Addr}{ob:Obj}(q:h.get? b=some ob)(n:H b=none)(hx:b ∉ ex):∃ sl,h1.get? b=some { ob with slots:=sl }:=by
 by_cases hb:b∈fs
 ·exact u.slot b ob q n hb hx
 ·exact ⟨ob.slots,u.keep b ob q n hb hx⟩
theorem Un.trans(a:Un fs ex H H1 h h1)(b:Un fs ex H1 H2 h1 h2):Un fs ex H H2 h h2 where
 keep:=fun c ob q n hc hx=>b.keep c ob (a.keep c ob q n hc hx) (a.free c ob q n hx) hc hx
 slot:=fun c ob q n hc hx=>by
  obtain ⟨sl,e1⟩:=a.slot c ob q n hc hx
  obtain ⟨sl',e2⟩:=b.slot c _ e1 (a.free c ob q n hx) hc hx
  exact ⟨sl',e2⟩
 free:=fun c ob q n hx=>by
  obtain ⟨o',e1⟩:=a.there c ob q hx
  exact b.free c o' e1 (a.free c ob q n hx) hx
 there:=fun c ob q hx=>by
  obtain ⟨o',e1⟩:=a.there c ob q hx
  exact b.there c o' e1 hx
 tups:=fun c xs q=>b.tups c xs (a.tups c xs q)
 frzs:=fun c ob xs q=>b.frzs c ob xs (a.frzs c ob xs q)
 tbls:=fun c ps q=>by
  obtain ⟨m1,e1⟩:=a.tbls c ps q
  obtain ⟨m2,e2⟩:=b.tbls c _ e1
  exact ⟨m1++m2,by rw [e2,Array.append_assoc]⟩
theorem Un.kept(k:∀ b u,h.get? b=some u->h'.get? b=some u):Un fs ex H H h h' :=
 ⟨fun b ob q _ _ _=>k b ob q,fun b ob q _ _ _=>⟨ob.slots,k b ob q⟩,fun _ _ _ n _=>n,fun b ob q _=>⟨ob,k b ob q⟩,fun _ _ q=>q,fun _ _ _ q=>q,fun _ ps q=>⟨#[],by rw [q];simp⟩⟩
theorem Un.refl:Un fs ex H H h h:=Un.kept fun _ _ q=>q
theorem Un.laid(k:∀ b u,h.get? b=some u->h'.get? b=some u)(hp:h.objs.size<=a)(hn:H a=none):Un fs ex H (upd H a o) h h' where
 keep:=fun b u q _ _ _=>k b u q
 slot:=fun b u q _ _ _=>⟨u.slots,k b u q⟩
 free:=fun b u q n _=>by rw [bM (Nat.ne_of_lt (Nat.lt_of_lt_of_le (Heap.lt_size q) hp))];exact n
 there:=fun b u q _=>⟨u,k b u q⟩
 tups:=fun b xs q=>by rw [bM (aX q hn)];exact q
 frzs:=fun b u xs q=>by rw [bM (aX q hn)];exact q
 tbls:=fun b ps q=>⟨#[],by rw [bM (aX q hn),q];simp⟩
theorem Un.write(mu:Mut (H x))(he:e=x\/H e=some (.own x))(k:∀ b u,b≠e->h.get? b=some u->h'.get? b=some u)(heo:∃ u,h'.get? e=some u):Un fs ex H (upd H x o) h h':=by
 have hx:∀ b,H b=none->b≠x:=fun b n z=>by subst z;rw [n] at mu;exact mu
 have hb:∀ b,H b=none->b≠e:=fun b n z=>by
  subst z
  rcases he with r | r
  ·exact hx b n r
  ·rw [n] at r;cases r
 have hm:∀ b u,H b=some u->¬ Mut (some u)->b≠x:=fun b u q nm z=>by subst z;rw [q] at mu;exact nm mu
 refine ⟨fun b u q n _ _=>k b u (hb b n) q,fun b u q n _ _=>⟨u.slots,k b u (hb b n) q⟩,fun b u q n _=>by rw [bM (hx b n)];exact n,fun b u q _=>?_,
  fun b xs q=>by rw [bM (hm b _ q fun z=>z)];exact q,fun b u xs q=>by rw [bM (hm b _ q fun z=>z)];exact q,fun b ps q=>⟨#[],by rw [bM (hm b _ q fun z=>z),q];simp⟩⟩
 by_cases hbe:b=e
 ·subst hbe;exact heo
 ·exact ⟨u,k b u hbe q⟩
end
def trk(h:Heap)(H:Hp):List Addr:=(List.range h.objs.size).filter fun a=>(H a).isSome
def aMg(h:Heap)(H:Hp):Heap:=PySem.W.hideAll h (trk h H)
theorem aU5(h:Heap)(H:Hp):(aMg h H).objs.size=h.objs.size:=PySem.W.hideAll_size _ _
theorem aW0{h:Heap}{H:Hp}{b:Addr}{o:Obj}(e:h.get? b=some o)(n:H b=none):(aMg h H).get? b=some o :=
 PySem.W.hideAll_get _ e fun hm=>by
  have q:(H b).isSome=true:=(List.mem_filter.mp hm).2
  rw [n] at q;simp at q
theorem aZi{h:Heap}{H:Hp}{b:Addr}{o:Obj}(e:(aMg h H).get? b=some o):h.get? b=some o/\H b=none:=by
 have e':h.get? b=some o:=PySem.W.of_hideAll (trk h H) e
 refine ⟨e',?_⟩
 cases q:H b with
 | none=>rfl
 | some x =>
  have hm:b∈trk h H:=List.mem_filter.mpr ⟨List.mem_range.mpr (Heap.lt_size e'),by simp [q]⟩
  have z:(aMg h H).get? b=none:=PySem.W.hideAll_none (trk h H) hm
  rw [z] at e;cases e
def aZj(g h:Heap)(L:Addr):List (Addr × Obj):=(List.range h.objs.size).filterMap fun a=>if a=L\/(g.get? a).isSome=true then none else (h.get? a).map fun o=>(a,o)
def rest(g h:Heap)(L d:Addr):List (Addr × Obj):=(aZj g h L).filter fun p=>decide (p.1≠d)
end L2
namespace L2
open PySem PySem.Spec PyProof.Rows
structure Mod(K:PySem.W.Frag)(mg:Str->Option Value)(base:Heap):Prop where
 kin:K.In base
 glob:base.Ns mainGlobals mg
 blt:∃ mb,base.Ns builtinsNs mb/\∀ x:Str,x ≠ "__name__" -> mb x=bootBuiltins x
 nolimit:base.NoLimit
structure Cx where
 prog:Program
 w:World
 K:PySem.W.Frag
 mg:Str->Option Value
 base:Heap
 A:Around
 N:List Str
 s₀:Shared
 H₀:Hp
 env:Env
 outer:List Env
 stack:List Env
 ex:List Addr
 fn:Str->Bool
 calm:Bool
 pn:List (Addr × Obj)
 xe:Value->Shared->Prop
def frs(l:List Env):List Addr:=l.filterMap (·.frame)
abbrev Cx.fs(X:Cx):List Addr:=frs X.outer
def Vis(sc:Scope)(x:Str):Prop:=sc.names.lookup x=some .local\/sc.names.lookup x=some .cell\/sc.names.lookup x=some .free
def Loc(sc:Scope)(x:Str):Prop:=sc.names.lookup x=some .local\/sc.names.lookup x=some .cell
def Look(env:Env)(h:Heap)(m:Str->Option Value)(x:Str)(u:Value):Prop :=
 (env.kindOf x=some .local/\m x=some u)\/((env.kindOf x=some .cell\/env.kindOf x=some .free)/\∃ c,env.cells.lookup x=some c/\h.IsCell c (some u))
structure Cx.Ok(X:Cx):Prop where
 mod:Mod X.K X.mg X.base
 kind:X.env.scope.kind = .function
 glob:X.env.globals=mainGlobals
 blt:X.env.builtins=builtinsNs
 above:X.s₀.heap.objs.size<=X.env.locals
 inj:∀ x y c,X.env.cells.lookup x=some c->X.env.cells.lookup y=some c->x=y
 has:∀ x,(X.env.kindOf x=some .cell\/X.env.kindOf x=some .free)->∃ c,X.env.cells.lookup x=some c
 cab:∀ x c,X.fn x=true->X.env.cells.lookup x=some c->X.s₀.heap.objs.size<=c
 hd:X.calm=true->X.A.handled=none
 frames:X.A.frames=some X.stack
 stk:X.stack=X.outer\/(X.stack=X.env :: X.outer/\X.env.frame=some X.env.locals)
 exf:∀ b∈X.ex,b≠X.env.locals/\∀ x c,X.env.cells.lookup x=some c->c≠b
 bs:∀ b o,X.base.get? b=some o->X.s₀.heap.get? b=some o/\X.H₀ b=none
 bsz:X.base.objs.size<=X.s₀.heap.objs.size
 noex:∀ b o,X.base.get? b=some o->b ∉ X.ex
 exfs:∀ b∈X.ex,b ∉ X.fs
 funs:X.s₀.heap.FunFrames X.base X.outer
 frf:∀ b∈X.fs,X.H₀ b=none
structure Inv(X:Cx)(pins:List (Addr × Obj))(σ:List (Option V))(H:Hp)(s:Shared):Prop where
 ok:X.Ok
 os:s.os=X.s₀.os
 bare:AllBare s.gens
 base:Un X.fs X.ex X.H₀ H X.s₀.heap s.heap
 loc:∃ m,s.heap.Ns X.env.locals m/\∀ (i:Nat) (x:Str) (v:V),X.N[i]?=some x->σ[i]?=some (some v)->Vis X.env.scope x->∃ u,RelV v u/\Look X.env s.heap m x u
 cell:∀ x c,X.env.cells.lookup x=some c->∃ v,s.heap.IsCell c v
 free:H X.env.locals=none
 freeC:∀ x c,X.env.cells.lookup x=some c->H c=none
 pin:∀ p∈X.pn++pins,s.heap.get? p.1=some p.2/\H p.1=none/\p.1≠X.env.locals/\p.1 ∉ X.fs/\∀ v,p.2.data ≠ .cell v
 hok:HOk X.prog X.w H s.heap
 len:σ.length=X.N.length
section
variable{X:Cx}{pins:List (Addr × Obj)}{σ:List (Option V)}{H H':Hp}{s:Shared}{h':Heap}
theorem Cx.Ok.nofr(ok:X.Ok){b:Addr}{o:Obj}(e:X.base.get? b=some o):b ∉ X.fs:=fun hb=>by
 have:=(ok.funs.mem hb).1
 rw [e] at this;cases this
theorem Inv.bs(I:Inv X pins σ H s):∀ b o,X.base.get? b=some o->s.heap.get? b=some o/\H b=none:=fun b o e =>
 ⟨I.base.keep b o (I.ok.bs b o e).1 (I.ok.bs b o e).2 (I.ok.nofr e) (I.ok.noex b o e),I.base.free b o (I.ok.bs b o e).1 (I.ok.bs b o e).2 (I.ok.noex b o e)⟩
theorem Inv.bk(I:Inv X pins σ H s):∀ b o,X.base.get? b=some o->s.heap.get? b=some o:=fun b o e=>(I.bs b o e).1
theorem Inv.mod(I:Inv X pins σ H s):Mod X.K X.mg X.base:=I.ok.mod
theorem Inv.kIn(I:Inv X pins σ H s):X.K.In s.heap:=I.ok.mod.kin.keeps I.bk
theorem Inv.lt(I:Inv X pins σ H s):X.env.locals < s.heap.objs.size:=let ⟨_,hn,_⟩:=I.loc;hn.lt
theorem Inv.sz(I:Inv X pins σ H s):X.s₀.heap.objs.size<=s.heap.objs.size:=Nat.le_trans I.ok.above (Nat.le_of_lt I.lt)
theorem Inv.nofs(I:Inv X pins σ H s){a:Addr}(h:s.heap.objs.size<=a):a ∉ X.fs:=fun hb=>by
 obtain ⟨_,o,ho,_⟩:=I.ok.funs.mem hb
 exact absurd (Nat.lt_of_lt_of_le (Heap.lt_size ho) (Nat.le_trans I.sz h)) (Nat.lt_irrefl _)
theorem Inv.cne(I:Inv X pins σ H s):∀ x c,X.env.cells.lookup x=some c->c≠X.env.locals:=fun x c e z=>by
 obtain ⟨v,o,ho,hd⟩:=I.cell x c e
 obtain ⟨m,⟨o',es,ep,ho',hd',_⟩,_⟩:=I.loc
 rw [z,ho'] at ho;cases ho;rw [hd'] at hd;cases hd
theorem Inv.funs(I:Inv X pins σ H s):s.heap.FunFrames X.base X.outer:=by
 have all:∀ (l:List Env),(∀ b∈frs l,b∈X.fs)->X.s₀.heap.FunFrames X.base l->s.heap.FunFrames X.base l:=by
  intro l
  induction l with
  | nil=>intro _ _;trivial
  | cons env r ih =>
   intro hs hl
   obtain ⟨hk,⟨L,o,hf,hn,ho,hd⟩,hr⟩:=hl
   have hL:L∈X.fs:=hs L (by unfold frs;rw [List.filterMap_cons,hf];exact List.mem_cons_self)
   obtain ⟨sl,e⟩:=I.base.slot L o ho (I.ok.frf L hL) hL fun z=>I.ok.exfs L z hL
   exact ⟨hk,⟨L,_,hf,hn,e,hd⟩,ih (fun b hb=>hs b (by unfold frs;rw [List.filterMap_cons,hf];exact List.mem_cons_of_mem _ hb)) hr⟩
 exact all X.outer (fun _ hb=>hb) I.ok.funs
theorem Inv.stack(I:Inv X pins σ H s):s.heap.FunFrames X.base X.stack:=by
 rcases I.ok.stk with e | ⟨e,hf⟩
 ·rw [e];exact I.funs
 ·rw [e]
  obtain ⟨m,hn,_⟩:=I.loc
  refine .cons (by rw [I.ok.kind];decide) hf hn ?_ I.funs
  exact Heap.get?_none_of_le (Nat.le_trans I.ok.bsz I.ok.above)
theorem Inv.stkSub(I:Inv X pins σ H s):∀ b∈frs X.stack,b∈X.env.locals :: X.fs:=fun b hb=>by
 rcases I.ok.stk with e | ⟨e,hf⟩
 ·rw [e] at hb;exact List.mem_cons_of_mem _ hb
 ·rw [e] at hb
  unfold frs at hb
  rw [List.filterMap_cons,hf] at hb
  exact hb
theorem Inv.stkFree(I:Inv X pins σ H s):∀ b∈frs X.stack,H b=none:=fun b hb=>by
 rcases List.mem_cons.mp (I.stkSub b hb) with e | hb
 ·rw [e];exact I.free
 ·obtain ⟨_,o,ho,_⟩:=I.ok.funs.mem hb
  exact I.base.free b o ho (I.ok.frf b hb) fun z=>I.ok.exfs b z hb
theorem Inv.step{g':Array GenState}{t':Nat}{d':Drawn}{ch:List Addr}(I:Inv X pins σ H s)
  (hch:∀ b∈ch,(b∈X.ex\/X.s₀.heap.objs.size<=b)/\b≠X.env.locals/\(∀ x c,X.env.cells.lookup x=some c->c≠b)/\∀ p∈X.pn++pins,p.1≠b)
  (keep:∀ b o,b≠X.env.locals->b ∉ X.fs->b ∉ ch->s.heap.get? b=some o->H b=none->h'.get? b=some o)
  (slot:∀ b o,b≠X.env.locals->b∈X.fs->b ∉ ch->s.heap.get? b=some o->H b=none->∃ sl,h'.get? b=some { o with slots:=sl }) (free:∀ b o,b ∉ ch->s.heap.get? b=some o->H b=none->H' b=none)
  (there:∀ b o,b ∉ ch->s.heap.get? b=some o->∃ o',h'.get? b=some o')
  (tups:∀ b xs,H b=some (.tup xs)->H' b=some (.tup xs)) (frzs:∀ b o u,H b=some (.frz o u)->H' b=some (.frz o u)) (tbls:∀ b ps,H b=some (.tbl ps)->∃ more,H' b=some (.tbl (ps++more)))
  (ns:∀ m,s.heap.Ns X.env.locals m->h'.Ns X.env.locals m) (hok:HOk X.prog X.w H' h') (hg:AllBare g') :
  Inv X pins σ H' { s with heap:=h',gens:=g',drawn:=d',toks:=t' }:=by
 have neL:∀ b o,X.s₀.heap.get? b=some o->b≠X.env.locals:=fun b o e=>Nat.ne_of_lt (Nat.lt_of_lt_of_le (Heap.lt_size e) I.ok.above)
 have neC:∀ b o,X.s₀.heap.get? b=some o->b ∉ X.ex->b ∉ ch:=fun b o e hx hb=>by
  rcases (hch b hb).1 with z | z
  ·exact hx z
  ·exact absurd (Nat.lt_of_lt_of_le (Heap.lt_size e) z) (Nat.lt_irrefl _)
 have cellK:∀ x c,X.env.cells.lookup x=some c->∀ v,s.heap.IsCell c v->h'.IsCell c v:=fun x c e v ⟨o,ho,hd⟩=>by
  have nch:c ∉ ch:=fun z=>(hch c z).2.2.1 x c e rfl
  by_cases hc:c∈X.fs
  ·obtain ⟨sl,q⟩:=slot c o (I.cne x c e) hc nch ho (I.freeC x c e)
   exact ⟨_,q,hd⟩
  ·exact ⟨o,keep c o (I.cne x c e) hc nch ho (I.freeC x c e),hd⟩
 refine ⟨I.ok,I.os,hg,⟨fun b o e n hb hx=>?_,fun b o e n hb hx=>?_,fun b o e n hx=>?_,fun b o e hx=>?_,fun b xs e=>tups b xs (I.base.tups b xs e),fun b o xs e=>frzs b o xs (I.base.frzs b o xs e),fun b ps e=>?_⟩,?_,fun x c e=>?_,?_,fun x c e=>?_,fun p hp=>?_,hok,I.len⟩
 ·exact keep b o (neL b o e) hb (neC b o e hx) (I.base.keep b o e n hb hx) (I.base.free b o e n hx)
 ·obtain ⟨sl,e1⟩:=I.base.slot b o e n hb hx
  obtain ⟨sl',e2⟩:=slot b _ (neL b o e) hb (neC b o e hx) e1 (I.base.free b o e n hx)
  exact ⟨sl',e2⟩
 ·obtain ⟨o',e1⟩:=I.base.there b o e hx
  exact free b o' (neC b o e hx) e1 (I.base.free b o e n hx)
 ·obtain ⟨o',e1⟩:=I.base.there b o e hx
  exact there b o' (neC b o e hx) e1
 ·obtain ⟨m1,e1⟩:=I.base.tbls b ps e
  obtain ⟨m2,e2⟩:=tbls b _ e1
  exact ⟨m1++m2,by rw [e2,Array.append_assoc]⟩
 ·obtain ⟨m,hn,hl⟩:=I.loc
  refine ⟨m,ns m hn,fun i x v e1 e2 e3=>?_⟩
  obtain ⟨u,r,l⟩:=hl i x v e1 e2 e3
  refine ⟨u,r,?_⟩
  rcases l with l | ⟨k,c,e,z⟩
  ·exact .inl l
  ·exact .inr ⟨k,c,e,cellK x c e _ z⟩
 ·obtain ⟨v,z⟩:=I.cell x c e
  exact ⟨v,cellK x c e v z⟩
 ·obtain ⟨m,⟨o,_,_,ho,_⟩,_⟩:=I.loc
  exact free _ o (fun z=>(hch _ z).2.1 rfl) ho I.free
 ·obtain ⟨v,o,ho,hd⟩:=I.cell x c e
  exact free c o (fun z=>(hch c z).2.2.1 x c e rfl) ho (I.freeC x c e)
 ·obtain ⟨e,n,ne,nf,d⟩:=I.pin p hp
  have nch:p.1 ∉ ch:=fun z=>(hch p.1 z).2.2.2 p hp rfl
  exact ⟨keep p.1 p.2 ne nf nch e n,free p.1 p.2 nch e n,ne,nf,d⟩
theorem Inv.un{t':Nat}(I:Inv X pins σ H s)(u:Un X.fs [] H H' s.heap h')(hok:HOk X.prog X.w H' h'):Inv X pins σ H' { s with heap:=h',toks:=t' }:=by
 obtain ⟨m,⟨o,es,ep,ho,r⟩,_⟩:=id I.loc
 obtain ⟨sl,hL⟩:=u.any ho I.free (by simp)
 exact I.step (g':=s.gens) (d':=s.drawn) (ch:=[]) (fun _ z=>nomatch z) (fun b o _ hb _ e n=>u.keep b o e n hb (by simp)) (fun b o _ hb _ e n=>u.slot b o e n hb (by simp)) (fun b o _ e n=>u.free b o e n (by simp)) (fun b o _ e=>u.there b o e (by simp)) u.tups u.frzs u.tbls (fun m' hm=>by
  obtain ⟨o',es',ep',ho',r'⟩:=hm
  rw [ho] at ho';cases ho'
  exact ⟨_,es',ep',hL,r'⟩) hok I.bare
theorem Inv.call{g':Array GenState}{t':Nat}{d':Drawn}{ch:List Addr}(I:Inv X pins σ H s)(u:Un (frs X.stack) ch H H' s.heap h')(hok:HOk X.prog X.w H' h')(hg:AllBare g')
  (hch:∀ b∈ch,(b∈X.ex\/X.s₀.heap.objs.size<=b)/\b≠X.env.locals/\(∀ x c,X.env.cells.lookup x=some c->c≠b)/\∀ p∈X.pn++pins,p.1≠b) :
  Inv X pins σ H' { s with heap:=h',gens:=g',drawn:=d',toks:=t' }:=by
 obtain ⟨m,⟨o,es,ep,ho,r⟩,_⟩:=id I.loc
 obtain ⟨sl,hL⟩:=u.any ho I.free fun z=>(hch _ z).2.1 rfl
 exact I.step (ch:=ch) hch (fun b o hL hb hc e n=>u.keep b o e n (fun z=>(List.mem_cons.mp (I.stkSub b z)).elim hL hb) hc) (fun b o _ _ hc e n=>u.any e n hc) (fun b o hc e n=>u.free b o e n hc) (fun b o hc e=>u.there b o e hc) u.tups u.frzs u.tbls (fun m' hm=>by
  obtain ⟨o',es',ep',ho',r'⟩:=hm
  rw [ho] at ho';cases ho'
  exact ⟨_,es',ep',hL,r'⟩) hok hg
theorem Inv.turned{t':Nat}{it:Addr}(I:Inv X pins σ H s)(k:∀ b o,b≠it->s.heap.get? b=some o->h'.get? b=some o)(hn:H it=none)(hL:it≠X.env.locals)
  (h1:it∈X.ex\/X.s₀.heap.objs.size<=it) (h2:∀ x c,X.env.cells.lookup x=some c->c≠it) (h3:∀ p∈X.pn++pins,p.1≠it):Inv X pins σ H { s with heap:=h',toks:=t' }:=by
 have nit:∀ b u,H b=some u->b≠it:=fun b u e z=>by rw [z,hn] at e;cases e
 refine I.step (g':=s.gens) (d':=s.drawn) (ch:=[it]) (fun b hb=>?_) (fun b o _ _ hc e _=>k b o (fun z=>hc (by simp [z])) e) (fun b o _ _ hc e _=>⟨o.slots,k b o (fun z=>hc (by simp [z])) e⟩) (fun _ _ _ _ n=>n)
  (fun b o hc e=>⟨o,k b o (fun z=>hc (by simp [z])) e⟩) (fun _ _ e=>e) (fun _ _ _ e=>e) (fun b ps e=>⟨#[],by rw [e];simp⟩) (fun m hm=>?_) (fun b u e=>?_) I.bare
 ·have e:b=it:=by simpa using hb
  subst e
  exact ⟨h1,hL,h2,h3⟩
 ·obtain ⟨o,es,ep,ho,r⟩:=hm
  exact ⟨o,es,ep,k _ o (Ne.symm hL) ho,r⟩
 ·refine (I.hok b u e).stay (fun c v hc q=>k c v ?_ q) (fun _ q=>q) fun _ _ q=>q
  rcases hc with z | z
  ·rw [z];exact nit b u e
  ·exact nit c _ z
theorem Inv.tok(I:Inv X pins σ H s)(t:Nat):Inv X pins σ H { s with toks:=t }:=I.un (h':=s.heap) (t':=t) Un.refl I.hok
theorem Inv.kept{t':Nat}(I:Inv X pins σ H s)(k:∀ b u,s.heap.get? b=some u->h'.get? b=some u):Inv X pins σ H { s with heap:=h',toks:=t' }:=I.un (Un.kept k) (I.hok.kept k)
theorem Inv.laid{a:Addr}{o:HO}{t':Nat}(I:Inv X pins σ H s)(k:∀ b u,s.heap.get? b=some u->h'.get? b=some u)(hp:s.heap.objs.size<=a)(new:iI X.prog X.w (upd H a o) h' a o) :
  Inv X pins σ (upd H a o) { s with heap:=h',toks:=t' }:=I.un (Un.laid k hp (I.hok.fresh hp)) (I.hok.laid k hp new)
theorem Inv.write{x e:Addr}{o:HO}{t':Nat}(I:Inv X pins σ H s)(mu:Mut (H x))(he:e=x\/H e=some (.own x))(k:∀ b u,b≠e->s.heap.get? b=some u->h'.get? b=some u)(heo:∃ u,h'.get? e=some u)
  (new:iI X.prog X.w (upd H x o) h' x o):Inv X pins σ (upd H x o) { s with heap:=h',toks:=t' }:=I.un (Un.write mu he k heo) (I.hok.write mu he k heo new)
theorem Inv.pins_of{pins':List (Addr × Obj)}(I:Inv X pins σ H s)(h:∀ p∈pins',s.heap.get? p.1=some p.2/\H p.1=none/\p.1≠X.env.locals/\p.1 ∉ X.fs/\∀ v,p.2.data ≠ .cell v):Inv X pins' σ H s :=
 ⟨I.ok,I.os,I.bare,I.base,I.loc,I.cell,I.free,I.freeC,fun p hp=>(List.mem_append.mp hp).elim (fun z=>I.pin p (List.mem_append_left _ z)) (h p),I.hok,I.len⟩
theorem aO8{N:List Str}(hN:N.Nodup){i j:Nat}{x:Str}(a:N[i]?=some x)(b:N[j]?=some x):i=j:=by
 obtain ⟨h1,e1⟩:=List.getElem?_eq_some_iff.mp a
 obtain ⟨h2,e2⟩:=List.getElem?_eq_some_iff.mp b
 exact (List.getElem_inj hN).mp (e1.trans e2.symm)
theorem aKv{M:Model}{A:Around}{E:Value->Shared->Prop}{i:Nat}{x:Str}{v:V}{u:Value}{Q:Unit->Shared->Prop}(I:Inv X pins σ H s)(hN:X.N.Nodup)(hi:X.N[i]?=some x)(hx:Loc X.env.scope x)(r:RelV v u)
  (h:∀ s',Inv X pins (σ.set i (some v)) H s'->(∃ a,Heap.SameBut a s.heap s'.heap/\(a=X.env.locals\/X.env.cells.lookup x=some a))->Q () s') (hf:X.fn x=true\/X.env.scope.names.lookup x=some .local:=by first | exact .inl rfl | exact .inr rfl | assumption):wpAny M A (storeName X.env x u) Q E s:=by
 obtain ⟨m,hn,hl⟩:=id I.loc
 have hcls:(X.env.scope.kind == .class||(X.env.scope.kind == .module&&X.env.locals != X.env.globals))=false:=by rw [I.ok.kind];rfl
 have hiσ:i < σ.length:=by rw [I.len];exact (List.getElem?_eq_some_iff.mp hi).1
 have cne:=I.cne
 have tracked:∀ {a:Addr} {h':Heap},(∃ o,s.heap.get? a=some o/\H a=none)->Heap.SameBut a s.heap h'->HOk X.prog X.w H h':=fun {a h'} ha hs b ob e=>by
  obtain ⟨_,_,hfree⟩:=ha
  refine (I.hok b ob e).stay (fun c w' hc q=>(hs.2 c ?_).trans q) (fun _ q=>q) fun _ _ q=>q
  rintro rfl
  rcases hc with rfl | hc
  ·rw [hfree] at e;cases e
  ·rw [hfree] at hc;cases hc
 rcases hx with hk | hk
 ·refine wpAny_storeName_local hk hn (fun h' hn' hs=>?_) hcls
  obtain ⟨oL,_,_,hoL,_⟩:=id hn
  refine h _ ⟨I.ok,I.os,I.bare,⟨fun b o e n hb hx=>?_,fun b o e n hb hx=>?_,I.base.free,fun b o e hx=>?_,I.base.tups,I.base.frzs,I.base.tbls⟩,⟨_,hn',fun j y v' e1 e2 e3=>?_⟩,fun y c e=>?_,I.free,I.freeC,fun p hp=>?_,tracked ⟨oL,hoL,I.free⟩ hs,by simpa using I.len⟩ ⟨_,hs,.inl rfl⟩
  ·exact (hs.2 b (Nat.ne_of_lt (Nat.lt_of_lt_of_le (Heap.lt_size e) I.ok.above))).trans (I.base.keep b o e n hb hx)
  ·obtain ⟨sl,e1⟩:=I.base.slot b o e n hb hx
   exact ⟨sl,(hs.2 b (Nat.ne_of_lt (Nat.lt_of_lt_of_le (Heap.lt_size e) I.ok.above))).trans e1⟩
  ·obtain ⟨o',e1⟩:=I.base.there b o e hx
   exact ⟨o',(hs.2 b (Nat.ne_of_lt (Nat.lt_of_lt_of_le (Heap.lt_size e) I.ok.above))).trans e1⟩
  ·by_cases hj:j=i
   ·subst hj
    rw [hi] at e1;cases e1
    rw [List.getElem?_set_self hiσ] at e2
    cases e2
    exact ⟨u,r,.inl ⟨hk,by simp⟩⟩
   ·rw [List.getElem?_set_ne (Ne.symm hj)] at e2
    obtain ⟨u',r',q⟩:=hl j y v' e1 e2 e3
    refine ⟨u',r',?_⟩
    rcases q with ⟨k,e⟩ | ⟨k,c,e,z⟩
    ·refine .inl ⟨k,?_⟩
     have:y≠x:=fun e=>hj (aO8 hN e1 (e ▸ hi))
     simp [this,e]
    ·exact .inr ⟨k,c,e,z.sameBut hs (cne y c e)⟩
  ·obtain ⟨w',z⟩:=I.cell y c e
   exact ⟨w',z.sameBut hs (cne y c e)⟩
  ·obtain ⟨e,n,ne,nf,d⟩:=I.pin p hp
   exact ⟨(hs.2 p.1 ne).trans e,n,ne,nf,d⟩
 ·have hfn:X.fn x=true:=by
   rcases hf with z | z
   ·exact z
   ·rw [z] at hk;cases hk
  obtain ⟨c,hc⟩:=I.ok.has x (.inl hk)
  obtain ⟨w',z⟩:=I.cell x c hc
  refine wpAny_storeName_cell I.ok.kind hk hc z (fun h' hc' hs=>?_)
  obtain ⟨oc,hoc,hocd⟩:=id z
  refine h { s with heap:=h' } ⟨I.ok,I.os,I.bare,⟨fun b o e n hb hx=>?_,fun b o e n hb hx=>?_,I.base.free,fun b o e hx=>?_,I.base.tups,I.base.frzs,I.base.tbls⟩,⟨m,hn.sameBut hs (Ne.symm (cne x c hc)),fun j y v' e1 e2 e3=>?_⟩,fun y c' e=>?_,I.free,I.freeC,fun p hp=>?_,tracked ⟨oc,hoc,I.freeC x c hc⟩ hs,by simpa using I.len⟩ ⟨c,hs,.inr hc⟩
  ·exact (hs.2 b (Nat.ne_of_lt (Nat.lt_of_lt_of_le (Heap.lt_size e) (I.ok.cab x c hfn hc)))).trans (I.base.keep b o e n hb hx)
  ·obtain ⟨sl,e1⟩:=I.base.slot b o e n hb hx
   exact ⟨sl,(hs.2 b (Nat.ne_of_lt (Nat.lt_of_lt_of_le (Heap.lt_size e) (I.ok.cab x c hfn hc)))).trans e1⟩
  ·obtain ⟨o',e1⟩:=I.base.there b o e hx
   exact ⟨o',(hs.2 b (Nat.ne_of_lt (Nat.lt_of_lt_of_le (Heap.lt_size e) (I.ok.cab x c hfn hc)))).trans e1⟩
  ·by_cases hj:j=i
   ·subst hj
    rw [hi] at e1;cases e1
    rw [List.getElem?_set_self hiσ] at e2
    cases e2
    exact ⟨u,r,.inr ⟨.inl hk,c,hc,hc'⟩⟩
   ·rw [List.getElem?_set_ne (Ne.symm hj)] at e2
    obtain ⟨u',r',q⟩:=hl j y v' e1 e2 e3
    refine ⟨u',r',?_⟩
    rcases q with q | ⟨k,c',e,z'⟩
    ·exact .inl q
    ·refine .inr ⟨k,c',e,z'.sameBut hs ?_⟩
     rintro rfl
     exact hj (aO8 hN e1 (I.ok.inj _ _ _ e hc ▸ hi))
  ·by_cases hcc:c'=c
   ·subst hcc;exact ⟨_,hc'⟩
   ·obtain ⟨w2,z2⟩:=I.cell y c' e
    exact ⟨w2,z2.sameBut hs hcc⟩
  ·obtain ⟨e,n,ne,nf,d⟩:=I.pin p hp
   refine ⟨(hs.2 p.1 ?_).trans e,n,ne,nf,d⟩
   intro q
   rw [q,hoc] at e
   have q':oc=p.2:=Option.some.inj e
   exact d w' (by rw [<-q'];exact hocd)
theorem store_ok{M:Model}{A:Around}{E:Value->Shared->Prop}{i:Nat}{x:Str}{v:V}{u:Value}{Q:Unit->Shared->Prop}(I:Inv X pins σ H s)(hN:X.N.Nodup)(hi:X.N[i]?=some x)(hx:Loc X.env.scope x)(r:RelV v u)
  (h:∀ s',Inv X pins (σ.set i (some v)) H s'->Q () s') (hf:X.fn x=true\/X.env.scope.names.lookup x=some .local:=by first | exact .inl rfl | exact .inr rfl | assumption):wpAny M A (storeName X.env x u) Q E s :=
 aKv I hN hi hx r (fun s' I' _=>h s' I') hf
end
abbrev XK:=Value->Option Addr->Hp->Prop
abbrev St:=List (Option V)
abbrev VK:=V->Hp->Prop
abbrev TE:=St->Hp->VK->Prop
abbrev TT:=St->Hp->(Bool->Hp->Prop)->Prop
abbrev TA:=St->Hp->(List V->Hp->Prop)->Prop
structure Ends where
 nx:St->Hp->Prop
 rt:VK
 bk:St->Hp->Prop:=fun _ _=>False
 ct:St->Hp->Prop:=fun _ _=>False
abbrev TS:=Ends->St->Hp->Prop
def EP(X:Cx)(pins:List (Addr × Obj))(σ:St)(Q:VK)(u:Value)(s':Shared):Prop:=∃ v H',Inv X pins σ H' s'/\RelV v u/\Q v H'
def TP(X:Cx)(pins:List (Addr × Obj))(σ:St)(Q:Bool->Hp->Prop)(b:Bool)(s':Shared):Prop:=∃ H',Inv X pins σ H' s'/\Q b H'
def AP(X:Cx)(pins:List (Addr × Obj))(σ:St)(Q:List V->Hp->Prop)(us:List Value)(s':Shared):Prop:=∃ vs H',Inv X pins σ H' s'/\Vals vs us/\Q vs H'
def SP(X:Cx)(pins:List (Addr × Obj))(D:Ends)(f:Flow)(s':Shared):Prop :=
 match f with
 | .next=>∃ σ' H',Inv X pins σ' H' s'/\D.nx σ' H'
 | .brk=>∃ σ' H',Inv X pins σ' H' s'/\D.bk σ' H'
 | .cont=>∃ σ' H',Inv X pins σ' H' s'/\D.ct σ' H'
 | .ret u=>∃ v σ' H',Inv X pins σ' H' s'/\RelV v u/\D.rt v H'
def PE(X:Cx)(e:Expr)(t:TE):Prop :=
 ∀ (pins:List (Addr × Obj)) (s:Shared) (σ:St) (H:Hp) (Q:VK),Inv X pins σ H s->t σ H Q->wpAny (model X.prog X.w) X.A (eval e X.env) (EP X pins σ Q) X.xe s
def PT(X:Cx)(e:Expr)(t:TT):Prop :=
 ∀ (pins:List (Addr × Obj)) (s:Shared) (σ:St) (H:Hp) (Q:Bool->Hp->Prop),Inv X pins σ H s->t σ H Q->wpAny (model X.prog X.w) X.A (isTrue e X.env (eval e X.env)) (TP X pins σ Q) X.xe s
def PW(X:Cx)(e:Expr)(t:TT):Prop :=
 ∀ (whole:Sem Value) (pins:List (Addr × Obj)) (s:Shared) (σ:St) (H:Hp) (Q:Bool->Hp->Prop),Inv X pins σ H s->t σ H Q->wpAny (model X.prog X.w) X.A (isTrue e X.env whole) (TP X pins σ Q) X.xe s
theorem PW.pt{X:Cx}{e:Expr}{t:TT}(h:PW X e t):PT X e t:=h _
def PA(X:Cx)(es:List Expr)(t:TA):Prop :=
 ∀ (pos:Pos) (pins:List (Addr × Obj)) (s:Shared) (σ:St) (H:Hp) (Q:List V->Hp->Prop),Inv X pins σ H s->t σ H Q->wpAny (model X.prog X.w) X.A (spliced (backTo pos (starEach es X.env))) (AP X pins σ Q) X.xe s
def PS(X:Cx)(st:Stmt)(t:TS):Prop :=
 ∀ (pins:List (Addr × Obj)) (s:Shared) (σ:St) (H:Hp) (D:Ends),Inv X pins σ H s->t D σ H->wpAny (model X.prog X.w) X.A (exec st X.env) (SP X pins D) X.xe s
def PSs(X:Cx)(st:List Stmt)(t:TS):Prop :=
 ∀ (pins:List (Addr × Obj)) (s:Shared) (σ:St) (H:Hp) (D:Ends),Inv X pins σ H s->t D σ H->wpAny (model X.prog X.w) X.A (execs st X.env) (SP X pins D) X.xe s
theorem thn{α:Type}{t:Sem α}{Q Q':α->Shared->Prop}{M:Model}{A:Around}{E:Value->Shared->Prop}{s:Shared}(h:wpAny M A t Q E s)(hQ:∀ a s,Q a s->Q' a s):wpAny M A t Q' E s:=wpAny_mono h hQ fun _ _ x=>x
end L2
namespace L2
open PySem PySem.Spec PyProof.Rows
section
variable{X:Cx}
def bHc(i:Nat):TE:=fun σ H Q=>∃ v,σ[i]?=some (some v)/\Q v H
def tC(v:V):TE:=fun _ H Q=>Q v H
theorem yD{i:Nat}{x:Str}{pos:Pos}(hN:X.N[i]?=some x)(hv:Vis X.env.scope x)(hd:(x==("__debug__" : Str))=false:=by decide)(hcd:(x==("__classdict__" : Str))=false:=by decide):PE X (.Name x pos) (bHc i):=by
 intro pins s σ H Q I h
 obtain ⟨v,e,h⟩:=h
 obtain ⟨m,hn,hl⟩:=I.loc
 obtain ⟨u,r,l⟩:=hl i x v hN e hv
 have fin:EP X pins σ Q u s:=⟨v,H,I,r,h⟩
 rcases l with ⟨hk,hm⟩ | ⟨hk,c,hc,hcell⟩
 ·exact wpAny_Name (wpAny_loadName_local I.ok.kind hk hn hm fin) hd
 ·rcases hk with hk | hk
  ·exact wpAny_Name (wpAny_loadName_cell I.ok.kind hk hc hcell fin) hd
  ·exact wpAny_Name (wpAny_loadName_free I.ok.kind hk hc hcell fin hcd) hd
theorem bDl{i j pos}:PE X (.Constant (.int i) j pos) (tC (.int i)):=fun _ _ _ H _ I h=>wpAny_Constant_int ⟨.int i,H,I.tok _,⟨_,rfl⟩,h⟩
theorem bHd{b j pos}:PE X (.Constant (.bool b) j pos) (tC (.bl b)):=fun _ _ _ H _ I h=>Constant_bool ⟨.bl b,H,I,rfl,h⟩
theorem bDm{j pos}:PE X (.Constant .none j pos) (tC .non):=fun _ _ _ H _ I h=>Constant_none ⟨.non,H,I,rfl,h⟩
theorem bDn{x j pos}:PE X (.Constant (.str x) j pos) (tC (.str x)):=fun _ _ _ H _ I h=>Calls.Constant_str ⟨.str x,H,I.tok _,⟨_,rfl⟩,h⟩
def Gl(X:Cx)(x:Str):Prop:=X.env.kindOf x=some .globalImplicit
theorem aE7{E:Value->Shared->Prop}{pins:List (Addr × Obj)}{s:Shared}{σ:St}{H:Hp}{x:Str}{u:Value}{pos:Pos}{Q:Value->Shared->Prop}(I:Inv X pins σ H s)(hg:Gl X x)(hm:X.mg x=some u)(h:Q u s)
  (hd:(x==("__debug__" : Str))=false:=by decide):wpAny (model X.prog X.w) X.A (eval (.Name x pos) X.env) Q E s :=
 Calls.Name_function_global I.ok.kind hg (Calls.loadGlobal_global (by rw [I.ok.glob];exact I.mod.glob.keeps I.bk) hm h) hd
theorem aFx{E:Value->Shared->Prop}{pins:List (Addr × Obj)}{s:Shared}{σ:St}{H:Hp}{x:Str}{u:Value}{pos:Pos}{Q:Value->Shared->Prop}(I:Inv X pins σ H s)(hg:Gl X x)(hm:X.mg x=none)(hv:bootBuiltins x=some u)(h:Q u s)
  (hn:x ≠ "__name__" := by decide) (hd:(x==("__debug__" : Str))=false:=by decide):wpAny (model X.prog X.w) X.A (eval (.Name x pos) X.env) Q E s:=by
 obtain ⟨mb,h1,h2⟩:=I.mod.blt
 exact Calls.Name_function_global I.ok.kind hg (Calls.loadGlobal_builtin (by rw [I.ok.glob];exact I.mod.glob.keeps I.bk) hm (by rw [I.ok.blt];exact h1.keeps I.bk) ((h2 x hn).trans hv) h) hd
theorem aE8{x:Str}{v:V}{u:Value}{pos:Pos}(hg:Gl X x)(hm:X.mg x=some u)(r:RelV v u)(hd:(x==("__debug__" : Str))=false:=by decide):PE X (.Name x pos) (tC v) :=
 fun _ _ _ H _ I h=>aE7 I hg hm ⟨v,H,I,r,h⟩ hd
theorem aZk{x:Str}{v:V}{u:Value}{pos:Pos}(hg:Gl X x)(hm:X.mg x=none)(hv:bootBuiltins x=some u)(r:RelV v u)(hn:x ≠ "__name__" := by decide)(hd:(x==("__debug__" : Str))=false:=by decide):PE X (.Name x pos) (tC v) :=
 fun _ _ _ H _ I h=>aFx I hg hm hv ⟨v,H,I,r,h⟩ hn hd
variable{a b:Expr}{ta tb:TE}{pos:Pos}
def tB(t:TE):TT:=fun σ H Q=>t σ H fun x H1=>∃ c,x = .bl c/\Q c H1
theorem bDo{e:Expr}{t:TE}(h:PE X e t)(he:∀ whole,isTrue e X.env whole=(do let v <- whole;standAt e.pos;holding [v] (truthy v)):=by intro _;rfl):PT X e (tB t):=by
 intro pins s σ H Q I hw
 refine isTrue_plain (thn (h pins s σ H _ I hw) fun v s1 ⟨x,H1,I1,r1,q1⟩=>?_) (he _)
 obtain ⟨d,rfl,q⟩:=q1
 cases r1
 exact wpAny_truthy_bool ⟨H1,I1,q⟩
variable{tA tB':TT}{rest:List Expr}
def bL5(t u:TT):TT:=fun σ H Q=>t σ H fun c H1=>if c=true then u σ H1 Q else Q false H1
def tOr(t u:TT):TT:=fun σ H Q=>t σ H fun c H1=>if c=true then Q true H1 else u σ H1 Q
def bL6(t:TT):TT:=fun σ H Q=>t σ H fun c H1=>Q (!c) H1
theorem aZl(ha:PT X a tA):PW X (.BoolOp .And [a] pos) tA:=by
 intro wh pins s σ H Q I h
 refine isTrue_and (thn (ha pins s σ H Q I h) fun c s1 e=>?_)
 cases c with
 | true=>exact isTrue_and_nil e
 | false=>exact e
theorem bDp(ha:PT X a tA):PW X (.BoolOp .Or [a] pos) tA:=by
 intro wh pins s σ H Q I h
 refine isTrue_or (thn (ha pins s σ H Q I h) fun c s1 e=>?_)
 cases c with
 | false=>exact isTrue_or_nil e
 | true=>exact e
theorem bDq(ha:PT X a tA)(hb:PW X (.BoolOp .And (b :: rest) pos) tB'):PW X (.BoolOp .And (a :: b :: rest) pos) (bL5 tA tB'):=by
 intro wh pins s σ H Q I h
 refine isTrue_and (thn (ha pins s σ H _ I h) fun c s1 ⟨H1,I1,q1⟩=>?_)
 cases c with
 | true=>exact hb wh pins s1 σ H1 Q I1 q1
 | false=>exact ⟨H1,I1,q1⟩
theorem bHe(ha:PT X a tA)(hb:PW X (.BoolOp .Or (b :: rest) pos) tB'):PW X (.BoolOp .Or (a :: b :: rest) pos) (tOr tA tB'):=by
 intro wh pins s σ H Q I h
 refine isTrue_or (thn (ha pins s σ H _ I h) fun c s1 ⟨H1,I1,q1⟩=>?_)
 cases c with
 | true=>exact ⟨H1,I1,q1⟩
 | false=>exact hb wh pins s1 σ H1 Q I1 q1
theorem bDr(ha:PT X a tA):PT X (.UnaryOp .Not a pos) (bL6 tA):=by
 intro pins s σ H Q I h
 exact isTrue_not (ha pins s σ H (fun c H1=>Q (!c) H1) I h)
def bHf(ta tb:TE):TE:=fun σ H Q=>ta σ H fun x H1=>∃ c,x = .bl c/\if c=true then tb σ H1 Q else Q (.bl false) H1
def bL7(ta tb:TE):TE:=fun σ H Q=>ta σ H fun x H1=>∃ c,x = .bl c/\if c=true then Q (.bl true) H1 else tb σ H1 Q
def bHg(ta:TE):TE:=fun σ H Q=>ta σ H fun x H1=>∃ c,x = .bl c/\Q (.bl (!c)) H1
theorem aW1{op}{t:TE}(h:PE X a t):PE X (.BoolOp op [a] pos) t:=fun pins s σ H Q I hw=>BoolOp_one (h pins s σ H Q I hw)
theorem bDs(ha:PE X a ta)(hb:PE X (.BoolOp .And (b :: rest) pos) tb):PE X (.BoolOp .And (a :: b :: rest) pos) (bHf ta tb):=by
 intro pins s σ H Q I h
 refine BoolOp_and (thn (ha pins s σ H _ I h) fun v s1 ⟨x,H1,I1,r1,q1⟩=>?_)
 obtain ⟨c,rfl,q1⟩:=q1
 cases r1
 refine wpAny_truthy_bool ?_
 cases c with
 | true=>exact hb pins s1 σ H1 Q I1 q1
 | false=>exact ⟨.bl false,H1,I1,rfl,q1⟩
theorem bHh(ha:PE X a ta)(hb:PE X (.BoolOp .Or (b :: rest) pos) tb):PE X (.BoolOp .Or (a :: b :: rest) pos) (bL7 ta tb):=by
 intro pins s σ H Q I h
 refine BoolOp_or (thn (ha pins s σ H _ I h) fun v s1 ⟨x,H1,I1,r1,q1⟩=>?_)
 obtain ⟨c,rfl,q1⟩:=q1
 cases r1
 refine wpAny_truthy_bool ?_
 cases c with
 | false=>exact hb pins s1 σ H1 Q I1 q1
 | true=>exact ⟨.bl true,H1,I1,rfl,q1⟩
theorem bDt(ha:PE X a ta):PE X (.UnaryOp .Not a pos) (bHg ta):=by
 intro pins s σ H Q I h
 refine UnaryOp_ (thn (ha pins s σ H _ I h) fun v s1 ⟨x,H1,I1,r1,q1⟩=>?_)
 obtain ⟨c,rfl,q1⟩:=q1
 cases r1
 exact not_of (wpAny_truthy_bool ⟨.bl (!c),H1,I1,rfl,q1⟩)
def tIf(t:TT)(ta tb:TE):TE:=fun σ H Q=>t σ H fun c H1=>if c=true then ta σ H1 Q else tb σ H1 Q
theorem aW2{c:Expr}(hc:PT X c tA)(ha:PE X a ta)(hb:PE X b tb):PE X (.IfExp c a b pos) (tIf tA ta tb):=by
 intro pins s σ H Q I h
 refine wpAny_IfExp (thn (hc pins s σ H _ I h) fun d s1 ⟨H1,I1,q1⟩=>?_)
 cases d with
 | true=>exact ha pins s1 σ H1 Q I1 q1
 | false=>exact hb pins s1 σ H1 Q I1 q1
end
end L2
namespace L2
open PySem PySem.Spec PyProof.Rows
def SqL(K:PySem.W.Frag)(H:Hp)(a:Addr)(xs:List V):Prop :=
 Rd H a (.lst xs) \/
  ∃ (o:Obj) (its:Array Value) (n:Nat),K.lookup a=some o/\o.cls = .type "list" /\ o.dict=none/\o.data = .seq its n/\its.size<=sizeLine/\Vals xs its.toList
def SqT(K:PySem.W.Frag)(H:Hp)(a:Addr)(xs:List V):Prop :=
 Rd H a (.tup xs) \/
  ∃ (o:Obj) (its:Array Value) (n:Nat),K.lookup a=some o/\o.cls = .type "tuple" /\ o.data = .seq its n/\its.size<=sizeLine/\Vals xs its.toList
def bL8:Value->Option V
 | .none=>some .non
 | .bool b=>some (.bl b)
 | .int i _=>some (.int i)
 | .str x _=>some (.str x)
 | .bytes b _=>some (.byt b)
 | .float b _=>some (.flt b)
 | .ref a=>some (.ref a)
 | .type n=>some (.ty n)
 | _=>none
theorem RelV.abs{x:V}{u:Value}(r:RelV x u):bL8 u=some x:=by
 cases x with
 | non=>cases r;rfl
 | bl _=>cases r;rfl
 | int _=>obtain ⟨t,rfl⟩:=r;rfl
 | str _=>obtain ⟨t,rfl⟩:=r;rfl
 | byt _=>obtain ⟨t,rfl⟩:=r;rfl
 | flt _=>obtain ⟨t,rfl⟩:=r;rfl
 | ref _=>cases r;rfl
 | ty _=>cases r;rfl
theorem RelV.inj{x y:V}{u:Value}(r:RelV x u)(q:RelV y u):x=y:=Option.some.inj (r.abs.symm.trans q.abs)
theorem Vals.inj:∀ {xs ys:List V} {us:List Value},Vals xs us->Vals ys us->xs=ys
 | _,_,_,.nil,.nil=>rfl
 | _,_,_,.cons r t,.cons r' t'=>by rw [r.inj r',Vals.inj t t']
section
variable{X:Cx}{pins:List (Addr × Obj)}{σ:St}{H:Hp}{s:Shared}{a:Addr}{xs ys:List V}
theorem SqL.of{K:PySem.W.Frag}(h:H a=some (.lst xs)):SqL K H a xs := .inl (.inl h)
theorem SqT.of{K:PySem.W.Frag}(h:H a=some (.tup xs)):SqT K H a xs := .inl (.inl h)
theorem Inv.list(I:Inv X pins σ H s)(h:SqL X.K H a xs):∃ its:List Value,Vals xs its/\PlainL s.heap a its.toArray/\xs.length<=sizeLine:=by
 rcases h with h | ⟨o,its,n,hk,hc,hd,hs,hz,r⟩
 ·obtain ⟨z,its,n,r,e⟩:=h.ok I.hok
  exact ⟨its,r,⟨_,n,e,rfl,rfl,rfl⟩,z⟩
 ·refine ⟨its.toList,r,⟨o,n,I.kIn a o hk,hc,hd,by simpa using hs⟩,?_⟩
  have e:=r.length
  simp only [Array.length_toList] at e
  omega
theorem Inv.tuple(I:Inv X pins σ H s)(h:SqT X.K H a xs):∃ its:List Value,Vals xs its/\IsTup s.heap a its.toArray/\xs.length<=sizeLine:=by
 rcases h with h | ⟨o,its,n,hk,hc,hs,hz,r⟩
 ·obtain ⟨z,its,r,p⟩:=h.ok I.hok
  exact ⟨its,r,p,z⟩
 ·refine ⟨its.toList,r,⟨o,I.kIn a o hk,hc,n,by simpa using hs⟩,?_⟩
  have e:=r.length
  simp only [Array.length_toList] at e
  omega
theorem Inv.list_inj(I:Inv X pins σ H s)(h:SqL X.K H a xs)(h':SqL X.K H a ys):xs=ys:=by
 obtain ⟨its,r,⟨o,n,e,_,_,d⟩,_⟩:=I.list h
 obtain ⟨its',r',⟨o',n',e',_,_,d'⟩,_⟩:=I.list h'
 rw [e] at e';cases e'
 rw [d] at d'
 injection d' with d1 _
 have:its=its':=by simpa using congrArg Array.toList d1
 subst this
 exact r.inj r'
theorem Inv.tuple_inj(I:Inv X pins σ H s)(h:SqT X.K H a xs)(h':SqT X.K H a ys):xs=ys:=by
 obtain ⟨its,r,⟨o,e,_,n,d⟩,_⟩:=I.tuple h
 obtain ⟨its',r',⟨o',e',_,n',d'⟩,_⟩:=I.tuple h'
 rw [e] at e';cases e'
 rw [d] at d'
 injection d' with d1 _
 have:its=its':=by simpa using congrArg Array.toList d1
 subst this
 exact r.inj r'
end
abbrev Cx.wish(X:Cx)(E:Value->Shared->Prop):Cx:={ X with xe:=E }
abbrev Cx.nox(X:Cx):Cx:=X.wish fun _ _=>False
theorem Cx.Ok.wish{X:Cx}(ok:X.Ok)(E:Value->Shared->Prop):(X.wish E).Ok :=
 ⟨ok.mod,ok.kind,ok.glob,ok.blt,ok.above,ok.inj,ok.has,ok.cab,ok.hd,ok.frames,ok.stk,ok.exf,ok.bs,ok.bsz,ok.noex,ok.exfs,ok.funs,ok.frf⟩
theorem Cx.Ok.unwish{X:Cx}{E:Value->Shared->Prop}(ok:(X.wish E).Ok):X.Ok :=
 ⟨ok.mod,ok.kind,ok.glob,ok.blt,ok.above,ok.inj,ok.has,ok.cab,ok.hd,ok.frames,ok.stk,ok.exf,ok.bs,ok.bsz,ok.noex,ok.exfs,ok.funs,ok.frf⟩
section
variable{X:Cx}{pins:List (Addr × Obj)}{σ:St}{H:Hp}{s:Shared}{E:Value->Shared->Prop}
theorem Inv.wish(I:Inv X pins σ H s)(E:Value->Shared->Prop):Inv (X.wish E) pins σ H s:=⟨I.ok.wish E,I.os,I.bare,I.base,I.loc,I.cell,I.free,I.freeC,I.pin,I.hok,I.len⟩
theorem Inv.unwish(I:Inv (X.wish E) pins σ H s):Inv X pins σ H s:=⟨I.ok.unwish,I.os,I.bare,I.base,I.loc,I.cell,I.free,I.freeC,I.pin,I.hok,I.len⟩
theorem SP.unwish{D:Ends}{f:Flow}{s':Shared}(h:SP (X.wish E) pins D f s'):SP X pins D f s':=by
 cases f with
 | next=>obtain ⟨σ',H',I,q⟩:=h;exact ⟨σ',H',I.unwish,q⟩
 | brk=>obtain ⟨σ',H',I,q⟩:=h;exact ⟨σ',H',I.unwish,q⟩
 | cont=>obtain ⟨σ',H',I,q⟩:=h;exact ⟨σ',H',I.unwish,q⟩
 | ret u=>obtain ⟨v,σ',H',I,r,q⟩:=h;exact ⟨v,σ',H',I.unwish,r,q⟩
theorem PSs.nox{st:List Stmt}{t:TS}(h:PSs X.nox st t):PSs X st t:=fun pins s σ H D I hw =>
 wpAny_mono (h pins s σ H D (I.wish _) hw) (fun _ _ q=>q.unwish) fun _ _ z=>False.elim z
end
section
variable{X:Cx}{st:Stmt}{rest:List Stmt}{t u:TS}{e:Expr}{te:TE}{pos:Pos}
def bHi:TS:=fun D σ H=>D.nx σ H
def bL9(t u:TS):TS:=fun D σ H=>t { D with nx:=u D } σ H
theorem aZm:PSs X [] bHi:=fun _ _ σ H _ I h=>wpAny_execs_nil ⟨σ,H,I,h⟩
theorem aIg(h1:PS X st t)(h2:PSs X rest u):PSs X (st :: rest) (bL9 t u):=by
 intro pins s σ H D I h
 refine wpAny_execs_cons (thn (h1 pins s σ H { D with nx:=u D } I h) fun f s1 q=>?_)
 cases f with
 | next =>
  obtain ⟨σ',H',I',q⟩:=q
  exact h2 pins s1 σ' H' D I' q
 | ret v=>exact q
 | brk=>exact q
 | cont=>exact q
theorem aMh(h1:PS X st t):PSs X [st] t:=by
 intro pins s σ H D I h
 refine wpAny_execs_cons (thn (h1 pins s σ H D I h) fun f s1 q=>?_)
 cases f with
 | next=>exact wpAny_execs_nil q
 | ret v=>exact q
 | brk=>exact q
 | cont=>exact q
theorem Inv.quiet{pins:List (Addr × Obj)}{σ:St}{H:Hp}{s:Shared}(I:Inv X pins σ H s):interactive X.env=false:=by simp [interactive,I.ok.kind]
def bHj(te:TE):TS:=fun D σ H=>te σ H fun _ H1=>D.nx σ H1
theorem aMi(he:PE X e te)(hs:swapsWith e none pos.line X.env=pure false:=by rfl):PS X (.Expr e pos) (bHj te):=by
 intro pins s σ H D I h
 exact wpAny_Expr_any (thn (he pins s σ H _ I h) fun v s1 ⟨x,H1,I1,r1,q1⟩=>⟨σ,H1,I1,q1⟩) I.quiet hs
def bLa(te:TE):TS:=fun D σ H=>te σ H D.rt
theorem aQp(he:PE X e te):PS X (.Return (some e) pos) (bLa te):=by
 intro pins s σ H D I h
 exact wpAny_Return_some (thn (he pins s σ H _ I h) fun v s1 ⟨x,H1,I1,r1,q1⟩=>⟨x,σ,H1,I1,r1,q1⟩)
def bLb(c:TT)(t u:TS):TS:=fun D σ H=>c σ H fun b H1=>if b=true then t D σ H1 else u D σ H1
theorem bHk{c:Expr}{a b:List Stmt}{tc:TT}(hc:PT X c tc)(ha:PSs X a t)(hb:PSs X b u):PS X (.If c a b pos) (bLb tc t u):=by
 intro pins s σ H D I h
 refine wpAny_If (thn (hc pins s σ H _ I h) fun d s1 ⟨H1,I1,q1⟩=>?_)
 cases d with
 | true=>exact ha pins s1 σ H1 D I1 q1
 | false=>exact hb pins s1 σ H1 D I1 q1
end
abbrev TG:=V->St->Hp->(St->Hp->Prop)->Prop
abbrev TGs:=List V->St->Hp->(St->Hp->Prop)->Prop
def PG(X:Cx)(target:Expr)(t:TG):Prop :=
 ∀ (pins:List (Addr × Obj)) (s:Shared) (σ:St) (H:Hp) (v:V) (u:Value) (Q:St->Hp->Prop),Inv X pins σ H s->RelV v u->t v σ H Q ->
  wpAny (model X.prog X.w) X.A (assign target X.env u) (fun _ s'=>∃ σ' H',Inv X pins σ' H' s'/\Q σ' H') X.xe s
def PGs(X:Cx)(ts:List Expr)(t:TGs):Prop :=
 ∀ (pins:List (Addr × Obj)) (s:Shared) (σ:St) (H:Hp) (vs:List V) (us:List Value) (Q:St->Hp->Prop),Inv X pins σ H s->Vals vs us->t vs σ H Q ->
  wpAny (model X.prog X.w) X.A (assignInOrder ((assignEach ts X.env).map (·.2)) us) (fun _ s'=>∃ σ' H',Inv X pins σ' H' s'/\Q σ' H') X.xe s
abbrev bDu:=V->V->V->Hp->(Hp->Prop)->Prop
def bHl(X:Cx)(t:bDu):Prop :=
 ∀ (pins:List (Addr × Obj)) (s:Shared) (σ:St) (H:Hp) (o i v:V) (ov iv u:Value) (Q:Hp->Prop),Inv X pins σ H s->RelV o ov->RelV i iv->RelV v u->t o i v H Q ->
  wpAny (model X.prog X.w) X.A (setItem ov iv u) (fun _ s'=>∃ H',Inv X pins σ H' s'/\Q H') X.xe s
section
variable{X:Cx}{pos:Pos}
def bCj(i:Nat):TG:=fun v σ H Q=>Q (σ.set i (some v)) H
theorem aZn{i:Nat}{x:Str}(hN:X.N.Nodup)(hi:X.N[i]?=some x)(hx:Loc X.env.scope x)(hf:X.fn x=true\/X.env.scope.names.lookup x=some .local:=by first | exact .inl rfl | exact .inr rfl | assumption):PG X (.Name x pos) (bCj i):=by
 intro pins s σ H v u Q I r h
 exact wpAny_assign_Name (store_ok I hN hi hx r (fun s' I'=>⟨_,H,I',h⟩) hf)
def bLc:TGs:=fun vs σ H Q=>vs=[]/\Q σ H
def bHm(t:TG)(u:TGs):TGs:=fun vs σ H Q=>∃ v r,vs=v :: r/\t v σ H fun σ' H'=>u r σ' H' Q
theorem aZo:PGs X [] bLc:=by
 intro pins s σ H vs us Q I r h
 obtain ⟨e,h⟩:=h
 subst e
 cases r
 exact assignInOrder_nil ⟨σ,H,I,h⟩
theorem aW3{e:Expr}{es:List Expr}{t:TG}{u:TGs}(h1:PG X e t)(h2:PGs X es u)
  (hs:(assignEach (e :: es) X.env).map (·.2)=assign e X.env :: (assignEach es X.env).map (·.2):=by rfl):PGs X (e :: es) (bHm t u):=by
 intro pins s σ H vs us Q I r h
 obtain ⟨v,vr,e1,h⟩:=h
 subst e1
 cases r with
 | cons r rr =>
  rw [hs]
  refine assignInOrder_cons (thn (h1 pins s σ H _ _ _ I r h) fun _ s1 ⟨σ1,H1,I1,q1⟩=>?_)
  exact h2 pins s1 σ1 H1 _ _ Q I1 rr q1
def bLd(K:PySem.W.Frag)(n:Nat)(t:TGs):TG:=fun v σ H Q=>∃ a xs,v = .ref a/\SqT K H a xs/\xs.length=n/\t xs σ H Q
theorem bDv{es:List Expr}{k:Nat}{t:TGs}{n:Nat}(hc:X.calm=true)(h:PGs X es t)
  (hn:(assignEach es X.env).length=n:=by rfl) (hst:(assignEach es X.env).findIdx? (·.1)=none:=by rfl):PG X (.Tuple es k pos) (bLd X.K n t):=by
 intro pins s σ H v u Q I r hw
 obtain ⟨a,xs,e1,hq,hl,hw⟩:=hw
 subst e1
 cases r
 obtain ⟨its,rv,ht,hz⟩:=I.tuple hq
 refine assign_Tuple_tuple (I.ok.hd hc) ht (by simp [hn,<-hl,rv.length]) hst fun h' hx=>?_
 have I1:Inv X pins σ H { s with heap:=h' }:=I.kept (t':=s.toks) fun b o e=>hx b o (Nat.ne_of_lt (Heap.lt_size e)) e
 exact h pins _ σ H xs _ Q I1 (by simpa using rv) hw
def bLe(to ti:TE)(t:bDu):TG:=fun v σ H Q=>to σ H fun o H1=>ti σ H1 fun i H2=>t o i v H2 fun H3=>Q σ H3
theorem bDw{o i:Expr}{to ti:TE}{t:bDu}(ho:PE X o to)(hi:PE X i ti)(hs:bHl X t)
  (ha:∀ v,assign (.Subscript o i pos) X.env v=(do
   let ov <- holding [v] (eval o X.env)
   let iv <- holding [v,ov] (eval i X.env)
   standAt pos
   holding [v,ov,iv] (setItem ov iv v)
   release [v,ov,iv] []):=by intro _;rfl):PG X (.Subscript o i pos) (bLe to ti t):=by
 intro pins s σ H v u Q I r h
 rw [ha]
 refine wpAny_bind (wpAny_holding (thn (ho pins s σ H _ I h) fun ov s1 ⟨x,H1,I1,r1,q1⟩=>?_))
 refine wpAny_bind (wpAny_holding (thn (hi pins s1 σ H1 _ I1 q1) fun iv s2 ⟨y,H2,I2,r2,q2⟩=>?_))
 refine wpAny_bind (wpAny_standAt (wpAny_bind (wpAny_holding (thn (hs pins s2 σ H2 x y v ov iv u _ I2 r1 r2 r q2) fun _ s3 ⟨H3,I3,q3⟩=>?_))))
 exact wpAny_release ⟨σ,H3,I3,q3⟩
def bHn(te:TE)(g:TG):TS:=fun D σ H=>te σ H fun x H1=>g x σ H1 D.nx
theorem bDx{tg e:Expr}{te:TE}{g:TG}(he:PE X e te)(hg:PG X tg g)(hs:swapsWithSole [tg] e pos.line X.env=pure false:=by rfl)(hw:swappedStores [tg] e X.env=pure none:=by rfl)
  (h1:(assignEach [tg] X.env).map (·.2)=[assign tg X.env]:=by rfl):PS X (.Assign [tg] e pos) (bHn te g):=by
 intro pins s σ H D I h
 refine wpAny_Assign_stores (thn (he pins s σ H _ I h) fun v s1 ⟨x,H1,I1,r1,q1⟩=>?_) hs hw
 rw [h1]
 exact thn (hg pins s1 σ H1 x v _ I1 r1 q1) fun _ s2 q=>q
theorem aFy{i:Nat}{x:Str}{e:Expr}{te:TE}{pos':Pos}(hN:X.N.Nodup)(hi:X.N[i]?=some x)(hx:Loc X.env.scope x)(he:PE X e te)(hs:swapsWith e (some (.Name x pos')) pos.line X.env=pure false:=by rfl)(hf:X.fn x=true\/X.env.scope.names.lookup x=some .local:=by first | exact .inl rfl | exact .inr rfl | assumption) :
  PS X (.Assign [.Name x pos'] e pos) (bHn te (bCj i)):=by
 intro pins s σ H D I h
 refine wpAny_Assign_Name (thn (he pins s σ H _ I h) fun v s1 ⟨y,H1,I1,r1,q1⟩=>?_) hs
 exact store_ok I1 hN hi hx r1 (fun s2 I2=>⟨_,H1,I2,q1⟩) hf
end
section
variable{X:Cx}{pos:Pos}
def bDy(c:TT)(tb:TS):TS:=fun D σ H=>∃ W:Nat->St->Hp->Prop,(∃ m,W m σ H)/\∀ m σ H,W m σ H ->
 c σ H fun b H1=>if b=true then ∃ N:St->Hp->Prop,(∀ σ' H',N σ' H'->∃ m',m' < m/\W m' σ' H')/\tb { D with nx:=N,ct:=N,bk:=D.nx } σ H1 else D.nx σ H1
theorem aW4{c:Expr}{body:List Stmt}{tc:TT}{tb:TS}(hp:PassesOwn (model X.prog X.w) X.A X.env X.xe)(hc:PT X c tc)(hb:PSs X body tb):PS X (.While c body [] pos) (bDy tc tb):=by
 intro pins s σ H D I h
 obtain ⟨W,⟨m0,w0⟩,turn⟩:=h
 refine wpAny_While (codeAny_whileLoop (fun n s'=>∃ σ' H',Inv X pins σ' H' s'/\W n σ' H') ?_ m0 ⟨σ,H,I,w0⟩)
 rintro n s1 ⟨σ1,H1,I1,w1⟩
 refine wpAny_passesOwn hp (thn (hc pins s1 σ1 H1 _ I1 (turn n σ1 H1 w1)) fun b s2 ⟨H2,I2,q2⟩=>?_)
 cases b with
 | true =>
  obtain ⟨N,hN,q2⟩:=q2
  rw [if_pos rfl]
  refine wpAny_passesOwn hp (thn (hb pins s2 σ1 H2 _ I2 q2) fun f s3 q3=>?_)
  cases f with
  | next =>
   obtain ⟨σ3,H3,I3,n3⟩:=q3
   obtain ⟨m',hm,w3⟩:=hN σ3 H3 n3
   exact ⟨m',hm,σ3,H3,I3,w3⟩
  | cont =>
   obtain ⟨σ3,H3,I3,n3⟩:=q3
   obtain ⟨m',hm,w3⟩:=hN σ3 H3 n3
   exact ⟨m',hm,σ3,H3,I3,w3⟩
  | brk=>exact q3
  | ret v=>exact q3
 | false =>
  rw [if_neg Bool.false_ne_true]
  exact wpAny_execs_nil ⟨σ1,H2,I2,q2⟩
end
structure It where
 go:Nat->Hp->Prop
 yld:Nat->Hp->V->Hp->Prop
 stop:Nat->Hp->Prop
def aE9(X:Cx)(pins:List (Addr × Obj))(H:Hp)(b:Addr):Prop :=
 H b=none/\b≠X.env.locals/\b ∉ X.fs/\(b∈X.ex\/X.s₀.heap.objs.size<=b)/\(∀ x c,X.env.cells.lookup x=some c->c≠b)/\∀ p∈X.pn++pins,p.1≠b
theorem Inv.fpOk{X:Cx}{pins:List (Addr × Obj)}{σ:St}{H H':Hp}{s:Shared}{b:Addr}(I:Inv X pins σ H s)(hb:s.heap.objs.size<=b)(hn:H' b=none):aE9 X pins H' b:=by
 refine ⟨hn,Nat.ne_of_gt (Nat.lt_of_lt_of_le I.lt hb),I.nofs hb,.inr (Nat.le_trans I.sz hb),fun x c e z=>?_,fun p hp z=>?_⟩
 ·obtain ⟨v,q⟩:=I.cell x c e
  exact absurd (Nat.lt_of_lt_of_le q.lt (by rw [z];exact hb)) (Nat.lt_irrefl _)
 ·exact absurd (Nat.lt_of_lt_of_le (Heap.lt_size (I.pin p hp).1) (by rw [z];exact hb)) (Nat.lt_irrefl _)
structure Turn(P:Program)(w:World)(K:PySem.W.Frag)(tg:Expr)(J:It)(fp:List Addr)(it:Addr)(tn:Nat->Heap->Prop):Prop where
 mem:it∈fp
 obj:∀ i h,tn i h->∀ b∈fp,∃ o,h.get? b=some o/\∀ v,o.data ≠ .cell v
 keep:∀ i h h',tn i h->(∀ b∈fp,∀ o,h.get? b=some o->h'.get? b=some o)->tn i h'
 item:∀ (X:Cx),X.prog=P->X.w=w->X.K=K->X.calm=true->∀ (i:Nat) (pins:List (Addr × Obj)) (s:Shared) (σ:St) (H:Hp) (E:Value->Shared->Prop),Inv X pins σ H s->(∀ b∈fp,aE9 X pins H b)->tn i s.heap->J.go i H ->
  wpAny (model P w) X.A (pyNext (.ref it)) (fun r s1=>∃ u,r=some u /\
   wpAny (model P w) X.A (letOwnedTupleGo tg (.ref it) u) (fun _ s2=>∃ x H',Inv X pins σ H' s2/\RelV x u/\J.yld i H x H'/\tn (i+1) s2.heap/\∀ b∈fp,H' b=none) E s1) E s
 done:∀ (X:Cx),X.prog=P->X.w=w->X.K=K->X.calm=true->∀ (i:Nat) (pins:List (Addr × Obj)) (s:Shared) (σ:St) (H:Hp) (E:Value->Shared->Prop),Inv X pins σ H s->(∀ b∈fp,aE9 X pins H b)->tn i s.heap->J.stop i H ->
  wpAny (model P w) X.A (pyNext (.ref it)) (fun r s1=>r=none/\Inv X pins σ H s1) E s
 self:∀ (A:Around) (i:Nat) (s:Shared) (Q:Value->Shared->Prop) (E:Value->Shared->Prop),tn i s.heap->Q (.ref it) s->wpAny (model P w) A (pyIter (.ref it)) Q E s
abbrev TI:=St->Hp->(It->Hp->Prop)->Prop
def PIE(X:Cx)(pins:List (Addr × Obj))(σ:St)(tg:Expr)(R:It->Hp->Prop)(itv:Value)(s2:Shared):Prop :=
 ∃ (it:Addr) (fp:List Addr) (tn:Nat->Heap->Prop) (J:It) (H':Hp),itv = .ref it/\Inv X pins σ H' s2/\Turn X.prog X.w X.K tg J fp it tn/\tn 0 s2.heap/\(∀ b∈fp,aE9 X pins H' b)/\R J H'
def PI(X:Cx)(tg iter:Expr)(wi:TI):Prop :=
 ∀ (pins:List (Addr × Obj)) (s:Shared) (σ:St) (H:Hp) (R:It->Hp->Prop),Inv X pins σ H s->wi σ H R ->
  wpAny (model X.prog X.w) X.A (eval iter X.env) (fun v s1=>wpAny (model X.prog X.w) X.A (pyIter v) (PIE X pins σ tg R) X.xe s1) X.xe s
theorem aRz{M:Model}{A:Around}{E:Value->Shared->Prop}{s:Shared}{tg:Expr}{it:Addr}{u:Value}{o:Obj}{n:String}{vs:Array Value}{Q:Unit->Shared->Prop}(ho:s.heap.get? it=some o)(hc:o.cls = .type n)(hd:o.data = .fields vs)
  (hn:["enumerate", "zip", "dict_itemiterator", "dict_reverseitemiterator", "odict_iterator", "itertools.zip_longest", "itertools.pairwise"].contains n=false) (hQ:Q () s):wpAny M A (letOwnedTupleGo tg (.ref it) u) Q E s:=by
 unfold letOwnedTupleGo
 cases tg<;>first
  | exact wpAny_pure hQ
  | (cases u<;>first
    | exact wpAny_pure hQ
    | (refine wpAny_bind (wpAny_load ho ?_)
       rw [hc,hd]
       show wpAny M A (if (["enumerate", "zip", "dict_itemiterator", "dict_reverseitemiterator", "odict_iterator", "itertools.zip_longest", "itertools.pairwise"].contains n&&vs[0]?==some (rawInt _))=true then _ else _) Q E s
       rw [if_neg (by intro h;rw [hn,Bool.false_and] at h;cases h)]
       exact wpAny_pure hQ))
def Itl(K:PySem.W.Frag)(a:Addr):It :=
 ⟨fun i H=>∃ xs x,SqL K H a xs/\xs[i]?=some x,fun i H x H'=>H'=H/\∀ xs,SqL K H a xs->xs[i]?=some x,fun i H=>∃ xs,SqL K H a xs/\xs.length<=i⟩
def Itt(K:PySem.W.Frag)(a:Addr):It :=
 ⟨fun i H=>∃ xs x,SqT K H a xs/\xs[i]?=some x,fun i H x H'=>H'=H/\∀ xs,SqT K H a xs->xs[i]?=some x,fun i H=>∃ xs,SqT K H a xs/\xs.length<=i⟩
def Itr(lo:Int)(n:Nat):It:=⟨fun i _=>i < n,fun i H x H'=>H'=H/\x = .int (lo+i),fun i _=>n<=i⟩
theorem aU6{P:Program}{w:World}{K:PySem.W.Frag}{tg:Expr}(a it:Addr):Turn P w K tg (Itl K a) [it] it (fun i h=>h.IsListIter it a i) where
 mem:=by simp
 obj:=fun i h st b hb=>by
  have e:b=it:=by simpa using hb
  subst e
  obtain ⟨o,e,c,d⟩:=st
  exact ⟨o,e,fun v z=>by rw [d] at z;cases z⟩
 keep:=fun i h h' st k=>st.at fun o e=>k it (by simp) o e
 item:=by
  intro X hP hw hK hc i pins s σ H E I hf st hg
  subst hP hw hK
  obtain ⟨xs,x,hq,hx⟩:=hg
  obtain ⟨its,rv,p,hz⟩:=I.list hq
  obtain ⟨u,hu,ru⟩:=rv.get hx
  obtain ⟨f0,f1,f2,f3,f4,f5⟩:=hf it (by simp)
  refine wpAny_pyNext_list_item st p.isList (x:=u) (by simpa using hu) fun h' st' sb=>?_
  have I1:Inv X pins σ H { s with heap:=h' }:=I.turned (t':=s.toks) (fun b o hb e=>(sb.2 b hb).trans e) f0 f1 f3 f4 f5
  obtain ⟨o,e,c,d⟩:=id st'
  exact ⟨u,rfl,aRz (s:={ s with heap:=h' }) e c d (by decide) ⟨x,H,I1,ru,⟨rfl,fun ys hy=>by rw [I.list_inj hy hq];exact hx⟩,st',fun b hb=>(hf b hb).1⟩⟩
 done:=by
  intro X hP hw hK hc i pins s σ H E I hf st hg
  subst hP hw hK
  obtain ⟨xs,hq,hx⟩:=hg
  obtain ⟨its,rv,p,hz⟩:=I.list hq
  obtain ⟨f0,f1,f2,f3,f4,f5⟩:=hf it (by simp)
  have hl:=rv.length
  exact wpAny_pyNext_list_end (I.ok.hd hc) st p.isList (by simp;omega) fun h' eb=>⟨rfl,I.turned (t':=s.toks) (fun b o hb e=>eb b o hb e) f0 f1 f3 f4 f5⟩
 self:=fun _ _ _ _ _ st h=>wpAny_pyIter_listiter st h
theorem aQq{P:Program}{w:World}{K:PySem.W.Frag}{tg:Expr}(a it:Addr):Turn P w K tg (Itt K a) [it] it (fun i h=>h.IsTupleIter it a i) where
 mem:=by simp
 obj:=fun i h st b hb=>by
  have e:b=it:=by simpa using hb
  subst e
  obtain ⟨o,e,c,d⟩:=st
  exact ⟨o,e,fun v z=>by rw [d] at z;cases z⟩
 keep:=fun i h h' st k=>st.at fun o e=>k it (by simp) o e
 item:=by
  intro X hP hw hK hc i pins s σ H E I hf st hg
  subst hP hw hK
  obtain ⟨xs,x,hq,hx⟩:=hg
  obtain ⟨its,rv,p,hz⟩:=I.tuple hq
  obtain ⟨u,hu,ru⟩:=rv.get hx
  obtain ⟨f0,f1,f2,f3,f4,f5⟩:=hf it (by simp)
  refine wpAny_pyNext_tuple_item st (show s.heap.IsTuple a its.toArray from p) (x:=u) (by simpa using hu) fun h' st' sb=>?_
  have I1:Inv X pins σ H { s with heap:=h' }:=I.turned (t':=s.toks) (fun b o hb e=>(sb.2 b hb).trans e) f0 f1 f3 f4 f5
  obtain ⟨o,e,c,d⟩:=id st'
  exact ⟨u,rfl,aRz (s:={ s with heap:=h' }) e c d (by decide) ⟨x,H,I1,ru,⟨rfl,fun ys hy=>by rw [I.tuple_inj hy hq];exact hx⟩,st',fun b hb=>(hf b hb).1⟩⟩
 done:=by
  intro X hP hw hK hc i pins s σ H E I hf st hg
  subst hP hw hK
  obtain ⟨xs,hq,hx⟩:=hg
  obtain ⟨its,rv,p,hz⟩:=I.tuple hq
  obtain ⟨f0,f1,f2,f3,f4,f5⟩:=hf it (by simp)
  have hl:=rv.length
  exact wpAny_pyNext_tuple_end (I.ok.hd hc) st (show s.heap.IsTuple a its.toArray from p) (by simp;omega) fun h' eb=>⟨rfl,I.turned (t':=s.toks) (fun b o hb e=>eb b o hb e) f0 f1 f3 f4 f5⟩
 self:=fun _ _ _ _ _ st h=>wpAny_pyIter_tupleiter st h
theorem aQr{P:Program}{w:World}{K:PySem.W.Frag}{tg:Expr}(it:Addr)(lo:Int)(n:Nat):Turn P w K tg (Itr lo n) [it] it (fun i h=>IsRangeIter h it (lo+(i:Nat) * 1) ((n:Int) - (i:Nat)) 1) where
 mem:=by simp
 obj:=fun i h st b hb=>by
  have e:b=it:=by simpa using hb
  subst e
  exact ⟨_,st,fun v z=>by
   have z':Data.fields _=Data.cell v:=z
   cases z'⟩
 keep:=fun i h h' st k=>k it (by simp) _ st
 item:=by
  intro X hP hw hK hc i pins s σ H E I hf st hg
  subst hP hw hK
  obtain ⟨f0,f1,f2,f3,f4,f5⟩:=hf it (by simp)
  have W:=Walks.range (prog:=X.prog) (w:=X.w) (I.ok.hd hc) it lo 1 n
  refine W.item i s _ _ hg st fun v h' tk hv st' kk=>?_
  obtain ⟨t,rfl⟩:=hv
  have I1:Inv X pins σ H { s with heap:=h',toks:=tk }:=I.turned (fun b o hb e=>kk b o (by simpa using hb) e) f0 f1 f3 f4 f5
  refine ⟨_,rfl,aRz (s:={ s with heap:=h',toks:=tk }) (n := "range_iterator") st' rfl rfl (by decide) ⟨.int (lo+i),H,I1,⟨t,?_⟩,⟨rfl,rfl⟩,st',fun b hb=>(hf b hb).1⟩⟩
  rw [Int.mul_one]
 done:=by
  intro X hP hw hK hc i pins s σ H E I hf st hg
  subst hP hw hK
  obtain ⟨f0,f1,f2,f3,f4,f5⟩:=hf it (by simp)
  exact wpAny_pyNext_range_end (I.ok.hd hc) st (by have:n<=i:=hg;omega) fun h' eb=>⟨rfl,I.turned (t':=s.toks) (fun b o hb e=>eb b o hb e) f0 f1 f3 f4 f5⟩
 self:=fun _ _ _ _ _ st h=>wpAny_pyIter_rangeiter st h
end L2
namespace L2
open PySem PySem.Spec PyProof.Rows
section
variable{X:Cx}{tg:Expr}
theorem aW5{pins:List (Addr × Obj)}{σ:St}{H:Hp}{s:Shared}{R:It->Hp->Prop}{E:Value->Shared->Prop}{lo hi:Int}{t u v:Tok}{tk:Nat}(I:Inv X pins σ H s)(h1 : -(2 ^ 62)<=lo)(h2:lo < 2 ^ 62)(h3 : -(2 ^ 62)<=hi)(h4:hi < 2 ^ 62)
  (q:R (Itr lo (hi - lo).toNat) H):wpAny (model X.prog X.w) X.A (pyIter (.ref s.heap.objs.size)) (PIE X pins σ tg R) E { s with heap:=s.heap.push { cls := .type "range", data := .fields #[.int lo t,.int hi u,.int 1 v] },toks:=tk }:=by
 refine wpAny_pyIter_range (IsRange.new ..) (small_one h1 h2 h3 h4) ?_
 have I1:Inv X pins σ H { s with heap:=s.heap.push { cls := .type "range", data := .fields #[.int lo t,.int hi u,.int 1 v] },toks:=tk }:=I.kept fun b o e=>Heap.get?_push_of_some _ e
 refine ⟨(s.heap.push { cls := .type "range", data := .fields #[.int lo t,.int hi u,.int 1 v] }).objs.size,[(s.heap.push { cls := .type "range", data := .fields #[.int lo t,.int hi u,.int 1 v] }).objs.size],_,_,H,rfl,
  I1.kept (t':=tk) fun b o e=>Heap.get?_push_of_some _ e,aQr _ lo (hi - lo).toNat,?_,fun b hb=>?_,q⟩
 ·have e1:lo+((0:Nat):Int) * 1=lo:=by simp
  have e2:(((hi - lo).toNat:Nat):Int) - ((0:Nat):Int)=Builtin.Range.rangeSize lo hi 1:=by rw [rangeSize_one];split<;>omega
  show IsRangeIter _ _ (lo+((0:Nat):Int) * 1) ((((hi - lo).toNat:Nat):Int) - ((0:Nat):Int)) 1
  rw [e1,e2]
  exact Heap.get?_push_size _ rfl
 ·have e:b=(s.heap.push { cls := .type "range", data := .fields #[.int lo t,.int hi u,.int 1 v] }).objs.size:=by simpa using hb
  subst e
  exact I1.fpOk (Nat.le_refl _) (I1.hok.fresh (Nat.le_refl _))
def bHo(ta:TA):TI:=fun σ H R=>ta σ H fun vs H1=>∃ j:Int,vs=[.int j] /\ -(2 ^ 62)<=j/\j < 2 ^ 62/\R (Itr 0 j.toNat) H1
theorem aU7{a:Expr}{ta:TA}{p pos:Pos}(hg:Gl X "range")(hm:X.mg "range" = none)(ha:PA X [a] ta)(hs:starEach [a] X.env=[(false,eval a X.env)]:=by rfl):PI X tg (.Call (.Name "range" p) [a] [] pos) (bHo ta):=by
 intro pins s σ H R I h
 refine Call_ (aFx I hg hm boot_range (PyProof.Rows.callWith_type1 (thn (ha pos pins s σ H _ I h) fun us s1 ⟨vs,H1,I1,r1,q1⟩=>?_) hs rfl))
 obtain ⟨j,e,q1,q2,q⟩:=q1
 subst e
 cases r1 with
 | cons r rr =>
  cases rr
  obtain ⟨t,rfl⟩:=r
  exact call_range_1 (aW5 I1 (by omega) (by omega) q1 q2 (by simpa using q))
def bLf(wi:TI)(g:TG)(tb:TS):TS:=fun D σ H=>wi σ H fun J H1=>∃ W:Nat->Nat->St->Hp->Prop,(∃ m,W 0 m σ H1)/\∀ i m σ H,W i m σ H ->
 (J.stop i H/\D.nx σ H)\/(J.go i H/\∃ N:St->Hp->Prop,(∀ σ' H',N σ' H'->∃ m',m' < m/\W (i+1) m' σ' H')/\∀ x H',J.yld i H x H'->g x σ H' fun σ2 H2=>tb { D with nx:=N,ct:=N,bk:=D.nx } σ2 H2)
def aMj(fp:List Addr)(h:Heap):List (Addr × Obj):=fp.filterMap fun b=>(h.get? b).map fun o=>(b,o)
theorem yE{fp:List Addr}{h:Heap}{b:Addr}{o:Obj}(hb:b∈fp)(e:h.get? b=some o):(b,o)∈aMj fp h:=List.mem_filterMap.mpr ⟨b,hb,by rw [e];rfl⟩
theorem aU8{fp:List Addr}{h:Heap}{p:Addr × Obj}(hp:p∈aMj fp h):p.1∈fp/\h.get? p.1=some p.2:=by
 obtain ⟨b,hb,e⟩:=List.mem_filterMap.mp hp
 cases q:h.get? b with
 | none=>rw [q] at e;cases e
 | some o =>
  rw [q] at e
  have e':(b,o)=p:=Option.some.inj e
  subst e'
  exact ⟨hb,q⟩
theorem Inv.pinned{pins:List (Addr × Obj)}{σ:St}{H:Hp}{s:Shared}{fp:List Addr}(I:Inv X pins σ H s)(hf:∀ b∈fp,aE9 X pins H b)(ho:∀ b∈fp,∃ o,s.heap.get? b=some o/\∀ v,o.data ≠ .cell v):Inv X (pins++aMj fp s.heap) σ H s :=
 I.pins_of fun p hp=>(List.mem_append.mp hp).elim (fun z=>I.pin p (List.mem_append_right _ z)) fun z=>by
  obtain ⟨hb,e⟩:=aU8 z
  obtain ⟨f0,f1,f2,_⟩:=hf p.1 hb
  obtain ⟨o,e',d⟩:=ho p.1 hb
  rw [e] at e';cases e'
  exact ⟨e,f0,f1,f2,d⟩
theorem Inv.unpinned{pins pl:List (Addr × Obj)}{σ:St}{H:Hp}{s:Shared}(I:Inv X (pins++pl) σ H s):Inv X pins σ H s:=I.pins_of fun p hp=>I.pin p (List.mem_append_right _ (List.mem_append_left _ hp))
theorem bDz{iter:Expr}{body:List Stmt}{wi:TI}{g:TG}{tb:TS}{pos:Pos}(hp:PassesOwn (model X.prog X.w) X.A X.env X.xe)(hc:X.calm=true)(hi:PI X tg iter wi)(hg:PG X tg g)(hb:PSs X body tb)
  (hs:∀ x,foldedSetIterable iter X.env x=pure x:=by intro _;rfl):PS X (.For tg iter body [] pos) (bLf wi g tb):=by
 intro pins s σ H D I h
 refine wpAny_For (thn (hi pins s σ H _ I h) fun v s1 h1=>thn h1 fun itv s2 h2=>?_) hs
 obtain ⟨it,fp,tn,J,H2,e,I2,T,st2,f2,W,⟨m0,w0⟩,turn⟩:=h2
 subst e
 have stat:∀ {H':Hp},(∀ b∈fp,H' b=none)->∀ b∈fp,aE9 X pins H' b:=fun hn b hb=>⟨hn b hb,(f2 b hb).2⟩
 refine codeAny_forLoop_any (fun n s'=>∃ i σ' H',Inv X pins σ' H' s'/\tn i s'.heap/\(∀ b∈fp,H' b=none)/\W i n σ' H') ?_ m0 ⟨0,σ,H2,I2,st2,fun b hb=>(f2 b hb).1,w0⟩
 rintro n s3 ⟨i,σ3,H3,I3,st3,fr3,w3⟩
 rcases turn i n σ3 H3 w3 with ⟨stop,qn⟩ | ⟨go,N,hN,step⟩
 ·refine wpAny_passesOwn hp (thn (T.done X rfl rfl rfl hc i pins s3 σ3 H3 X.xe I3 (stat fr3) st3 stop) fun r s4 ⟨hr,I4⟩=>?_)
  subst hr
  exact wpAny_execs_nil ⟨σ3,H3,I4,qn⟩
 ·refine wpAny_passesOwn hp (thn (T.item X rfl rfl rfl hc i pins s3 σ3 H3 X.xe I3 (stat fr3) st3 go) fun r s4 ⟨u,hr,h4⟩=>?_)
  subst hr
  refine wpAny_passesOwn hp (thn h4 fun _ s5 ⟨x,H5,I5,r5,y5,st5,fr5⟩=>?_)
  have I5':=I5.pinned (stat fr5) (T.obj _ _ st5)
  refine wpAny_passesOwn hp (thn (hg _ s5 σ3 H5 x u _ I5' r5 (step x H5 y5)) fun _ s6 ⟨σ6,H6,I6,q6⟩=>?_)
  refine wpAny_passesOwn hp (thn (hb _ s6 σ6 H6 _ I6 q6) fun f s7 q7=>?_)
  have again:∀ {σ7:St} {H7:Hp},Inv X (pins++aMj fp s5.heap) σ7 H7 s7->N σ7 H7->∃ m,m < n/\∃ i σ' H',Inv X pins σ' H' s7/\tn i s7.heap/\(∀ b∈fp,H' b=none)/\W i m σ' H':=fun {σ7 H7} I7 n7=>by
   obtain ⟨m',hm,w7⟩:=hN σ7 H7 n7
   refine ⟨m',hm,i+1,σ7,H7,I7.unpinned,T.keep _ _ _ st5 fun b hb o e=>(I7.pin (b,o) (List.mem_append_right _ (List.mem_append_right _ (yE hb e)))).1,fun b hb=>?_,w7⟩
   obtain ⟨o,e,d⟩:=T.obj _ _ st5 b hb
   exact (I7.pin (b,o) (List.mem_append_right _ (List.mem_append_right _ (yE hb e)))).2.1
  cases f with
  | next=>obtain ⟨σ7,H7,I7,n7⟩:=q7;exact again I7 n7
  | cont=>obtain ⟨σ7,H7,I7,n7⟩:=q7;exact again I7 n7
  | brk=>obtain ⟨σ7,H7,I7,q7⟩:=q7;exact ⟨σ7,H7,I7.unpinned,q7⟩
  | ret v=>obtain ⟨x7,σ7,H7,I7,r7,q7⟩:=q7;exact ⟨x7,σ7,H7,I7.unpinned,r7,q7⟩
end
end L2
namespace L2
open PySem PySem.Spec PyProof.Rows
abbrev R2:=V->V->Hp->VK->Prop
def OpR(X:Cx)(f:Value->Value->Sem Value)(r:R2):Prop :=
 ∀ (pins:List (Addr × Obj)) (s:Shared) (σ:St) (H:Hp) (x y:V) (v u:Value) (Q:VK),Inv X pins σ H s->RelV x v->RelV y u->r x y H Q ->
  wpAny (model X.prog X.w) X.A (f v u) (EP X pins σ Q) X.xe s
def UnR(X:Cx)(f:Value->Sem Value)(r:V->Hp->VK->Prop):Prop :=
 ∀ (pins:List (Addr × Obj)) (s:Shared) (σ:St) (H:Hp) (x:V) (v:Value) (Q:VK),Inv X pins σ H s->RelV x v->r x H Q ->
  wpAny (model X.prog X.w) X.A (f v) (EP X pins σ Q) X.xe s
def mC(X:Cx)(f:Value)(r:List V->Hp->VK->Prop):Prop :=
 ∀ (pins:List (Addr × Obj)) (s:Shared) (σ:St) (H:Hp) (xs:List V) (us:List Value) (Q:VK),Inv X pins σ H s->Vals xs us->r xs H Q ->
  wpAny (model X.prog X.w) X.A (call f us) (EP X pins σ Q) X.xe s
def tOp(r:R2)(ta tb:TE):TE:=fun σ H Q=>ta σ H fun x H1=>tb σ H1 fun y H2=>r x y H2 Q
def tUn(r:V->Hp->VK->Prop)(ta:TE):TE:=fun σ H Q=>ta σ H fun x H1=>r x H1 Q
def rI(C:Int->Int->Prop)(g:Int->Int->V):R2:=fun x y H Q=>∃ i j,x = .int i/\y = .int j/\C i j/\Q (g i j) H
def rI0(g:Int->Int->V):R2:=fun x y H Q=>∃ i j,x = .int i/\y = .int j/\Q (g i j) H
def rU(g:Int->V):V->Hp->VK->Prop:=fun x H Q=>∃ i,x = .int i/\Q (g i) H
section
variable{X:Cx}{a b c:Expr}{ta tb tc:TE}{pos:Pos}
theorem bE0(ha:PE X a ta)(hb:PE X b tb){pins:List (Addr × Obj)}{s:Shared}{σ:St}{H:Hp}{R:V->V->Hp->Prop}(I:Inv X pins σ H s)
  (h:ta σ H fun x H1=>tb σ H1 fun y H2=>R x y H2) {Q:Value->Shared->Prop} {f:Value->Value->Sem Value}
  (hf:∀ v u s2 x y H2,Inv X pins σ H2 s2->RelV x v->RelV y u->R x y H2->wpAny (model X.prog X.w) X.A (f v u) Q X.xe s2) :
  wpAny (model X.prog X.w) X.A (eval a X.env) (fun v s₁=>wpAny (model X.prog X.w) X.A (eval b X.env) (fun u s₂=>wpAny (model X.prog X.w) X.A (f v u) Q X.xe s₂) X.xe s₁) X.xe s:=by
 refine thn (ha pins s σ H _ I h) fun v s1 ⟨x,H1,I1,r1,q1⟩=>?_
 refine thn (hb pins s1 σ H1 _ I1 q1) fun u s2 ⟨y,H2,I2,r2,q2⟩=>?_
 exact hf v u s2 x y H2 I2 r1 r2 q2
theorem bCk{op:Operator}{r:R2}(ho:OpR X (binaryOp op) r)(ha:PE X a ta)(hb:PE X b tb):PE X (.BinOp a op b pos) (tOp r ta tb):=by
 intro pins s σ H Q I h
 exact wpAny_BinOp (bE0 ha hb I h fun v u s2 x y H2 I2 rx ry q=>ho pins s2 σ H2 x y v u Q I2 rx ry q)
theorem bHp{op:UnaryOp}{r:V->Hp->VK->Prop}(ho:UnR X (unaryOp op) r)(ha:PE X a ta):PE X (.UnaryOp op a pos) (tUn r ta):=by
 intro pins s σ H Q I h
 exact UnaryOp_ (thn (ha pins s σ H _ I h) fun v s1 ⟨x,H1,I1,r1,q1⟩=>ho pins s1 σ H1 x v Q I1 r1 q1)
theorem opI{f:Value->Value->Sem Value}{C:Int->Int->Prop}{g:Int->Int->Int}
  (rule:∀ (i j:Int) (t u:Tok) (s:Shared) (Q:Value->Shared->Prop) (E:Value->Shared->Prop),C i j->Q (.int (g i j) s.toks) { s with toks:=s.toks+1 }->wpAny (model X.prog X.w) X.A (f (.int i t) (.int j u)) Q E s) :
  OpR X f (rI C fun i j => .int (g i j)):=by
 intro pins s σ H x y v u Q I rx ry h
 obtain ⟨i,j,rfl,rfl,hc,q⟩:=h
 obtain ⟨t,rfl⟩:=rx
 obtain ⟨t',rfl⟩:=ry
 exact rule i j t t' s _ _ hc ⟨.int (g i j),H,I.tok _,⟨_,rfl⟩,q⟩
theorem aZp{f:Value->Value->Sem Value}{g:Int->Int->Int}
  (rule:∀ (i j:Int) (t u:Tok) (s:Shared) (Q:Value->Shared->Prop) (E:Value->Shared->Prop),Q (.int (g i j) s.toks) { s with toks:=s.toks+1 }->wpAny (model X.prog X.w) X.A (f (.int i t) (.int j u)) Q E s) :
  OpR X f (rI0 fun i j => .int (g i j)):=by
 intro pins s σ H x y v u Q I rx ry h
 obtain ⟨i,j,rfl,rfl,q⟩:=h
 obtain ⟨t,rfl⟩:=rx
 obtain ⟨t',rfl⟩:=ry
 exact rule i j t t' s _ _ ⟨.int (g i j),H,I.tok _,⟨_,rfl⟩,q⟩
theorem aZq{f:Value->Value->Sem Value}{g:Int->Int->Bool}
  (rule:∀ (i j:Int) (t u:Tok) (s:Shared) (Q:Value->Shared->Prop) (E:Value->Shared->Prop),Q (.bool (g i j)) s->wpAny (model X.prog X.w) X.A (f (.int i t) (.int j u)) Q E s) :
  OpR X f (rI0 fun i j => .bl (g i j)):=by
 intro pins s σ H x y v u Q I rx ry h
 obtain ⟨i,j,rfl,rfl,q⟩:=h
 obtain ⟨t,rfl⟩:=rx
 obtain ⟨t',rfl⟩:=ry
 exact rule i j t t' s _ _ ⟨.bl (g i j),H,I,rfl,q⟩
def bLg(i j:Int):Prop:=0 < j/\j < 1073741824
def bHq(i j:Int):Prop:=0<=j/\j<=1000000/\i.natAbs < 2 ^ 64
def aQs(i j:Int):Prop:=(-(2 ^ 64) < i/\i < 2 ^ 64)\/(-(2 ^ 64) < j/\j < 2 ^ 64)
theorem aQs.ok{i j:Int}(h:aQs i j):IntMulOk i j:=by
 rcases h with ⟨h1,h2⟩ | ⟨h1,h2⟩
 ·exact .of_left (intBits_le_64 h1 h2)
 ·exact .of_right (intBits_le_64 h1 h2)
theorem aQt(k:Nat):(0:Int)<=2 ^ k:=by
 rw [two_pow_cast]
 exact Int.natCast_nonneg _
theorem bE1:OpR X (binaryOp .Add) (rI0 fun i j => .int (i+j)):=aZp fun _ _ _ _ _ _ _ q=>add_int q
theorem bE2:OpR X (binaryOp .Sub) (rI0 fun i j => .int (i - j)):=aZp fun _ _ _ _ _ _ _ q=>sub_int q
theorem aW6:OpR X (binaryOp .Mult) (rI aQs fun i j => .int (i * j)):=opI fun _ _ _ _ _ _ _ hc q=>mul_int q hc.ok
theorem aZr:OpR X (binaryOp .FloorDiv) (rI bLg fun i j => .int (i / j)):=opI fun i j _ _ _ _ _ hc q=>by
 have h1:(0:Int) < j:=hc.1
 have h2:j < 1073741824:=hc.2
 exact floordiv_int (by omega) (by rw [Int.fdiv_eq_ediv_of_nonneg i (by omega)];exact q) (.inl (PyProof.noPylong_small (by omega)))
theorem bE3:OpR X (binaryOp .Mod) (rI (fun _ j=>0 < j) fun i j => .int (i % j)):=opI fun i j _ _ _ _ _ hc q=>by
 have h1:(0:Int) < j:=hc
 exact mod_int' (by omega) (by rw [Int.fmod_eq_emod_of_nonneg i (by omega)];exact q)
theorem bE4:OpR X (binaryOp .Pow) (rI bHq fun i j => .int (i ^ j.toNat)):=opI fun _ _ _ _ _ _ _ hc q=>pow_int_small hc.1 hc.2.1 hc.2.2 q
theorem bE5:OpR X (binaryOp .LShift) (rI bHq fun i j => .int (i * 2 ^ j.toNat)):=opI fun _ _ _ _ _ _ _ hc q=>lshift_int_small hc.1 hc.2.1 hc.2.2 q
theorem bE6:OpR X (binaryOp .RShift) (rI (fun _ j=>0<=j) fun i j => .int (i / 2 ^ j.toNat)):=opI fun i j _ _ _ _ _ hc q =>
 rshift_int hc (by rw [Int.fdiv_eq_ediv_of_nonneg i (aQt _)];exact q)
theorem bE7:OpR X (binaryOp .BitAnd) (rI0 fun i j => .int (Builtin.bitAnd i j)):=aZp fun _ _ _ _ _ _ _ q=>and_int q
theorem bHr:OpR X (binaryOp .BitOr) (rI0 fun i j => .int (Builtin.bitOr i j)):=aZp fun _ _ _ _ _ _ _ q=>or_int q
theorem unI{f:Value->Sem Value}{g:Int->Int}
  (rule:∀ (i:Int) (t:Tok) (s:Shared) (Q:Value->Shared->Prop) (E:Value->Shared->Prop),Q (.int (g i) s.toks) { s with toks:=s.toks+1 }->wpAny (model X.prog X.w) X.A (f (.int i t)) Q E s) :
  UnR X f (rU fun i => .int (g i)):=by
 intro pins s σ H x v Q I rx h
 obtain ⟨i,rfl,q⟩:=h
 obtain ⟨t,rfl⟩:=rx
 exact rule i t s _ _ ⟨.int (g i),H,I.tok _,⟨_,rfl⟩,q⟩
theorem bE8:UnR X (unaryOp .USub) (rU fun i => .int (-i)):=unI fun _ _ _ _ _ q=>neg_int q
end
section
variable{X:Cx}{a b c:Expr}{ta tb tc:TE}{pos:Pos}
theorem aMk{pins:List (Addr × Obj)}{σ:St}{H:Hp}{s:Shared}{Q:VK}{k k':Bool}(I:Inv X pins σ H s)(q:Q (.bl k) H)(e:k=k'):EP X pins σ Q (.bool k') s:=by
 subst e
 exact ⟨.bl k,H,I,rfl,q⟩
theorem aO9:OpR X (compareOp .Lt) (rI0 fun i j => .bl (decide (i < j))):=aZq fun _ _ _ _ _ _ _ q=>lt_int q
theorem aW7:OpR X (compareOp .LtE) (rI0 fun i j => .bl (decide (i<=j))):=aZq fun _ _ _ _ _ _ _ q=>le_int q
theorem aKw:OpR X (compareOp .Gt) (rI0 fun i j => .bl (decide (j < i))):=aZq fun _ _ _ _ _ _ _ q=>gt_int q
theorem aS0:OpR X (compareOp .GtE) (rI0 fun i j => .bl (decide (j<=i))):=aZq fun _ _ _ _ _ _ _ q=>ge_int q
theorem aU9:OpR X (compareOp .In) (fun x y H Q=>∃ i j,x = .str i/\y = .str j/\Q (.bl (!(Builtin.Str.occurrences j i 0 j.length 1).isEmpty)) H):=by
 intro pins s σ H x y v u Q I rx ry h
 obtain ⟨i,j,rfl,rfl,q⟩:=h
 obtain ⟨t,rfl⟩:=rx
 obtain ⟨t',rfl⟩:=ry
 exact in_str (aMk I q rfl)
theorem bE9:OpR X (compareOp .Is) (fun x y H Q=>y = .non/\Q (.bl (decide (x = .non))) H):=by
 intro pins s σ H x y v u Q I rx ry h
 obtain ⟨rfl,q⟩:=h
 cases ry
 refine is_none_gen (aMk I q ?_)
 cases x<;>first
  | (cases rx;rfl)
  | (obtain ⟨t,rfl⟩:=rx;rfl)
theorem aZs:OpR X (compareOp .IsNot) (fun x y H Q=>y = .non/\Q (.bl (!decide (x = .non))) H):=by
 intro pins s σ H x y v u Q I rx ry h
 obtain ⟨rfl,q⟩:=h
 cases ry
 refine isnot_none_gen (aMk I q ?_)
 cases x<;>first
  | (cases rx;rfl)
  | (obtain ⟨t,rfl⟩:=rx;rfl)
theorem aMl:OpR X (compareOp .NotIn) (fun x y H Q=>∃ i j,x = .str i/\y = .str j/\Q (.bl (!(!(Builtin.Str.occurrences j i 0 j.length 1).isEmpty))) H):=by
 intro pins s σ H x y v u Q I rx ry h
 obtain ⟨i,j,rfl,rfl,q⟩:=h
 obtain ⟨t,rfl⟩:=rx
 obtain ⟨t',rfl⟩:=ry
 exact notIn_str (aMk I q rfl)
theorem OpR.or{f:Value->Value->Sem Value}{r r':R2}(h:OpR X f r)(h':OpR X f r'):OpR X f (fun x y H Q=>r x y H Q\/r' x y H Q):=by
 intro pins s σ H x y v u Q I rx ry q
 rcases q with q | q
 ·exact h pins s σ H x y v u Q I rx ry q
 ·exact h' pins s σ H x y v u Q I rx ry q
theorem cC(b:Expr){op:CmpOp}(h:op ≠ .In:=by decide)(h2:op ≠ .NotIn:=by decide):behindInMarks op b=false:=by
 have e1:(op==CmpOp.In)=false:=by cases op<;>first | rfl | exact absurd rfl h
 have e2:(op==CmpOp.NotIn)=false:=by cases op<;>first | rfl | exact absurd rfl h2
 cases b<;>simp [behindInMarks,e1,e2]
theorem aZt{op:CmpOp}{r:R2}(ho:OpR X (compareOp op) r)(ha:PE X a ta)(hb:PE X b tb)(hm:behindInMarks op b=false):PE X (.Compare a [op] [b] pos) (tOp r ta tb):=by
 intro pins s σ H Q I h
 exact wpAny_Compare1 (bE0 ha hb I h fun v u s2 x y H2 I2 rx ry q=>ho pins s2 σ H2 x y v u Q I2 rx ry q) hm
def bHs(t:TE):TT:=fun σ H Q=>t σ H fun x H'=>∃ k,x = .bl k/\Q k H'
theorem aS1{op:CmpOp}{r:R2}(ho:OpR X (compareOp op) r)(ha:PE X a ta)(hb:PE X b tb)(hm:behindInMarks op b=false):PT X (.Compare a [op] [b] pos) (bHs (tOp r ta tb)):=by
 intro pins s σ H Q I h
 refine wpAny_isTrue_Compare1 (thn (ha pins s σ H _ I h) fun v s1 ⟨x,H1,I1,r1,q1⟩=>thn (hb pins s1 σ H1 _ I1 q1) fun u s2 ⟨y,H2,I2,r2,q2⟩ =>
  thn (ho pins s2 σ H2 x y v u _ I2 r1 r2 q2) fun c s3 ⟨z,H3,I3,r3,k,e,q3⟩=>?_) hm
 subst e
 cases r3
 exact wpAny_truthy_bool ⟨H3,I3,q3⟩
theorem aIh:(sizeLine:Nat) < 2 ^ 63:=by rw [sizeLine_eq];decide
theorem aQu:OpR X (binaryOp .Add) (fun x y H Q=>∃ i j,x = .str i/\y = .str j/\i.length+j.length<=sizeLine/\Q (.str (i++j)) H):=by
 intro pins s σ H x y v u Q I rx ry h
 obtain ⟨i,j,rfl,rfl,hz,q⟩:=h
 obtain ⟨t,rfl⟩:=rx
 obtain ⟨t',rfl⟩:=ry
 exact add_str (fun t' tk=>⟨.str (i++j),H,I.tok _,⟨_,rfl⟩,q⟩) hz
theorem vals1{x:V}{us:List Value}(r:Vals [x] us):∃ u,us=[u]/\RelV x u:=by
 cases r with
 | cons r1 r2=>cases r2;exact ⟨_,rfl,r1⟩
theorem vals2{x y:V}{us:List Value}(r:Vals [x,y] us):∃ u w',us=[u,w']/\RelV x u/\RelV y w':=by
 cases r with
 | cons r1 r2 =>
  cases r2 with
  | cons r3 r4=>cases r4;exact ⟨_,_,rfl,r1,r3⟩
theorem aUa(hc:X.calm=true):mC X (.builtin "max") (fun xs H Q=>∃ i j,xs=[.int i,.int j]/\Q (.int (if j > i then j else i)) H):=by
 intro pins s σ H xs us Q I r h
 obtain ⟨i,j,rfl,q⟩:=h
 obtain ⟨u,w',rfl,⟨t,rfl⟩,⟨t',rfl⟩⟩:=vals2 r
 refine max_two_ints (I.ok.hd hc) fun h' tk k=>⟨_,H,I.kept k,?_,q⟩
 by_cases hj:j > i
 ·rw [if_pos hj,if_pos hj];exact ⟨_,rfl⟩
 ·rw [if_neg hj,if_neg hj];exact ⟨_,rfl⟩
theorem aUb(hc:X.calm=true):mC X (.builtin "min") (fun xs H Q=>∃ i j,xs=[.int i,.int j]/\Q (.int (if j < i then j else i)) H):=by
 intro pins s σ H xs us Q I r h
 obtain ⟨i,j,rfl,q⟩:=h
 obtain ⟨u,w',rfl,⟨t,rfl⟩,⟨t',rfl⟩⟩:=vals2 r
 refine min_two_ints (I.ok.hd hc) fun h' tk k=>⟨_,H,I.kept k,?_,q⟩
 by_cases hj:j < i
 ·rw [if_pos hj,if_pos hj];exact ⟨_,rfl⟩
 ·rw [if_neg hj,if_neg hj];exact ⟨_,rfl⟩
end
end L2
namespace L2
open PySem PySem.Spec PyProof.Rows
structure ObjM(h:Heap)(x dx C:Addr)(mA:Str->Option Value):Prop where
 obj:h.get? x=some (PySem.W.instObj C dx)
 ns:h.Ns1 dx mA
 ne:dx≠x
theorem aUc{h:Heap}{dx:Addr}{mA:Str->Option Value}(n:h.Ns1 dx mA):∃ od,h.get? dx=some od/\∀ name,PySem.W.lookIn name od=some (mA name):=by
 obtain ⟨o,es,ep,ho,hd,hk,_,hm⟩:=n
 refine ⟨o,ho,fun name=>?_⟩
 have e:=hm name
 unfold nsFind findBy at e
 rw [<-Array.find?_toList] at e
 unfold PySem.W.lookIn
 rw [hd]
 dsimp only
 split
 ·rename_i y q
  rw [q] at e
  exact congrArg some e
 ·rename_i q
  rw [q] at e
  have a:es.toList.any (·.refKey)=false:=by
   rw [List.any_eq_false]
   intro y hy
   obtain ⟨z,t,hkey⟩:=hk y (Array.mem_toList_iff.mp hy)
   simp [DictEntry.refKey,hkey]
  have a':¬ es.toList.any (·.refKey)=true:=by rw [a];exact Bool.false_ne_true
  rw [if_neg a']
  exact congrArg some e
theorem ObjM.look{h:Heap}{x dx C:Addr}{mA:Str->Option Value}(I:ObjM h x dx C mA):∃ od,PySem.W.InstAt h x (PySem.W.instObj C dx) C (some od)/\∀ name,PySem.W.lookIn name od=some (mA name) :=
 let ⟨od,ho,hl⟩:=aUc I.ns
 ⟨od,⟨I.obj,rfl,rfl,ho⟩,hl⟩
section
variable{prog:Program}{w:World}{A:Around}{E:Value->Shared->Prop}{s:Shared}{K:PySem.W.Frag}{x dx C f:Addr}{mA:Str->Option Value}{name:Str}{v:Value}
theorem aZu{expr:Bool}{Q:Value->Shared->Prop}(X:K.In s.heap)(I:ObjM s.heap x dx C mA)(hg:PySem.W.plainGet K C name=true)(hh:PySem.W.hasDictIn K C=true)
  (ha:PySem.W.findIn K (.ref C) name=some none) (hv:mA name=some v) (hv':PySem.W.handedIn v=true) (h:Q v { s with toks:=s.toks+1 }) :
  wpAny (model prog w) A (getAttr (.ref x) name expr) Q E s:=by
 obtain ⟨od,J,hl⟩:=I.look
 exact PySem.W.get_value X J (PySem.W.plainGet_of hg).1 (PySem.W.findObj_own hh ha rfl (by rw [hl,hv])) hv' h
theorem aW8{pl:Sem Bool}{Q:Value × List Value->Shared->Prop}(X:K.In s.heap)(I:ObjM s.heap x dx C mA)(hg:PySem.W.plainGet K C name=true)
  (hf:PySem.W.findIn K (.ref C) name=some (some (.ref f))) (ht:PySem.W.isFn K (.ref f)=true) (hv:mA name=none) (h:Q (.ref f,[.ref x]) s) :
  wpAny (model prog w) A (getMethod (.ref x) name pl) Q E s:=by
 obtain ⟨od,J,hl⟩:=I.look
 exact PySem.W.method_fn X J (PySem.W.plainGet_of hg).1 (PySem.W.plainGet_of hg).2 hf (beq_iff_eq.mp ht) (by show (PySem.W.lookIn name od).map (·.isSome)=some false;rw [hl,hv];rfl) h
theorem aZv{ns:List Str}{Q:Unit->Shared->Prop}(X:K.In s.heap)(I:ObjM s.heap x dx C mA)
  (hs:PySem.W.findIn K (.ref C) "__setattr__" = some (some (.builtin "object.__setattr__"))) (hp:PySem.W.plainOver K C=true) (ht:PySem.W.takerIn K C name=some none) (hh:PySem.W.hasDictIn K C=true)
  (hw:PySem.Within mA ns) (hsz:ns.length<=sizeLine)
  (h:∀ h',ObjM h' x dx C (fun y=>if y=name then some v else mA y)->Heap.SameBut dx s.heap h'->Q () { s with heap:=h',toks:=s.toks+2 }) :
  wpAny (model prog w) A (setAttr (.ref x) name v) Q E s:=by
 obtain ⟨od,J,hl⟩:=I.look
 refine PySem.W.set_plain X J hs (PySem.W.osa_open (s:={ s with toks:=s.toks+1 }) (r:=none) X J hp ht fun b=>?_)
 obtain ⟨cd,hc,hd'⟩:=PySem.W.any_some hh
 have hx:s.heap.get? x=some ⟨.ref C,some dx,.plain, #[]⟩:=I.obj
 refine wpAny_bind (wpAny_pure (wpAny_bind (wpAny_bind (wpAny_loadPart hx (wpAny_bind (PySem.W.Looks.here (s:={ s with toks:=s.toks+1 }) (PySem.W.looks_clsIn X hc) ?_))))))
 rw [hd']
 refine wpAny_pure (a:=some dx) (wpAny_bind (wpAny_pure (wpAny_bind ?_)))
 refine wpAny_nsSet1 (s:={ s with toks:=s.toks+1 }) I.ns fun h' hn2 hs2=>?_
 obtain ⟨oD,esD,epD,hoD,hdD,hcD⟩:=hn2.count (PySem.Within.cons name v hw)
 refine wpAny_bind (wpAny_lookBehind hoD (by rw [hdD];exact pastItsLine_dict (Nat.le_trans hcD (by rw [List.length_cons];omega))) ?_)
 exact wpAny_pure (h _ ⟨(hs2.2 _ (Ne.symm I.ne)).trans I.obj,hn2,I.ne⟩ hs2)
theorem aW9{R:Result->Shared->Prop}{vs:List Value}{kw:List (Str × Value)}(X:K.In s.heap)(hm:PySem.W.makesIn K C=true)
  (hi:PySem.W.findIn K (.ref C) "__init__" = some (some (.ref f))) (hf:PySem.W.typeIn K (.ref f)=some (.type "function"))
  (h:codeAny (model prog w) (A.under (.builtin "type.__call__" ⟨.ref C :: vs,kw⟩)) (.call (.ref f) ⟨.ref (s.heap.objs.size+1) :: vs,kw⟩) (PySem.W.InitBack (s.heap.objs.size+1) R)
   { s with heap:=(s.heap.push PySem.W.emptyDict).push (PySem.W.instObj C s.heap.objs.size) }) :
  codeAny (model prog w) A (.call (.ref C) ⟨vs,kw⟩) R s:=by
 obtain ⟨hh,g,d,t,os⟩:=s
 exact PySem.W.make_core (PySem.W.makes_of X hm) (PySem.W.looks_findIn X hi) (fun self=>PySem.W.bind_fn X self hf) (.inl rfl) h
theorem aUd{R:Result->Shared->Prop}(X:K.In s.heap)(hm:PySem.W.makesIn K C=true)
  (hi:PySem.W.findIn K (.ref C) "__init__" = some (some (.builtin "object.__init__")))
  (hb:∀ self,PySem.W.Looks (model prog w) s.heap (bindSpecial (.builtin "object.__init__") self) (.builtin "object.__init__", [self]))
  (h:codeAny (model prog w) (A.under (.builtin "type.__call__" ⟨[.ref C],[]⟩)) (.call (.builtin "object.__init__") ⟨[.ref (s.heap.objs.size+1)],[]⟩) (PySem.W.InitBack (s.heap.objs.size+1) R)
   { s with heap:=(s.heap.push PySem.W.emptyDict).push (PySem.W.instObj C s.heap.objs.size) }) :
  codeAny (model prog w) A (.call (.ref C) ⟨[],[]⟩) R s:=by
 obtain ⟨hh,g,d,t,os⟩:=s
 exact PySem.W.make_core (PySem.W.makes_of X hm) (PySem.W.looks_findIn X hi) hb (.inr ⟨rfl,rfl⟩) h
end
def aAj(f:Str)(v:V):List (Str × V)->List (Str × V)
 | []=>[(f,v)]
 | (g,x) :: r=>if g=f then (g,v) :: r else (g,x) :: aAj f v r
theorem aGo(f g:Str)(v:V):∀ fs:List (Str × V),(aAj f v fs).lookup g=if g=f then some v else fs.lookup g
 | []=>by
  show List.lookup g [(f,v)]=_
  by_cases h:g=f
  ·have hb:(g==f)=true:=beq_iff_eq.mpr h
   simp only [List.lookup,hb,if_pos h]
  ·have hb:(g==f)=false:=beq_eq_false_iff_ne.mpr h
   simp only [List.lookup,hb,if_neg h]
 | (k,x) :: r=>by
  have ih:=aGo f g v r
  rw [show aAj f v ((k,x) :: r)=(if k=f then (k,v) :: r else (k,x) :: aAj f v r) from rfl]
  by_cases hk:k=f
  ·rw [if_pos hk]
   by_cases h:g=k
   ·have hb:(g==k)=true:=beq_iff_eq.mpr h
    simp only [List.lookup,hb,if_pos (h.trans hk)]
   ·have hb:(g==k)=false:=beq_eq_false_iff_ne.mpr h
    simp only [List.lookup,hb,if_neg (fun e:g=f=>h (e.trans hk.symm))]
  ·rw [if_neg hk]
   by_cases h:g=k
   ·have hb:(g==k)=true:=beq_iff_eq.mpr h
    simp only [List.lookup,hb,if_neg (fun e:g=f=>hk (h.symm.trans e))]
   ·have hb:(g==k)=false:=beq_eq_false_iff_ne.mpr h
    simp only [List.lookup,hb]
    exact ih
theorem aFz(f:Str)(v:V):∀ fs:List (Str × V),f∈(aAj f v fs).map (·.1)/\∀ g,g∈fs.map (·.1)->g∈(aAj f v fs).map (·.1)
 | []=>⟨by simp [aAj],fun g h=>by simp at h⟩
 | (k,x) :: r=>by
  obtain ⟨i1,i2⟩:=aFz f v r
  rw [show aAj f v ((k,x) :: r)=(if k=f then (k,v) :: r else (k,x) :: aAj f v r) from rfl]
  by_cases hk:k=f
  ·rw [if_pos hk]
   subst hk
   exact ⟨by simp,fun g h=>by simpa using h⟩
  ·rw [if_neg hk]
   refine ⟨?_,fun g h=>?_⟩
   ·rw [List.map_cons]
    exact List.mem_cons_of_mem _ i1
   ·rw [List.map_cons] at h ⊢
    rcases List.mem_cons.mp h with e | e
    ·exact List.mem_cons.mpr (.inl e)
    ·exact List.mem_cons_of_mem _ (i2 g e)
theorem aGp(f:Str)(v:V):∀ fs:List (Str × V),(aAj f v fs).length<=fs.length+1
 | []=>by simp [aAj]
 | (k,x) :: r=>by
  have ih:=aGp f v r
  rw [show aAj f v ((k,x) :: r)=(if k=f then (k,v) :: r else (k,x) :: aAj f v r) from rfl]
  by_cases hk:k=f
  ·rw [if_pos hk,List.length_cons,List.length_cons];omega
  ·rw [if_neg hk,List.length_cons,List.length_cons];omega
theorem yC.some_of{v:V}{o:Option Value}(r:yC (some v) o):∃ u,o=some u/\RelV v u:=by
 cases o with
 | none=>exact (show False from r).elim
 | some u=>exact ⟨u,rfl,r⟩
theorem yC.none_of{o:Option Value}(r:yC none o):o=none:=by
 cases o with
 | none=>rfl
 | some u=>exact (show False from r).elim
theorem aUe{v:V}{u:Value}(r:RelV v u):PySem.W.handedIn u=true:=by
 cases v with
 | non=>cases (show u=Value.none from r);rfl
 | bl b=>cases (show u=Value.bool b from r);rfl
 | int i=>obtain ⟨t,e⟩:=(show ∃ t,u=Value.int i t from r);cases e;rfl
 | str x=>obtain ⟨t,e⟩:=(show ∃ t,u=Value.str x t from r);cases e;rfl
 | byt b=>obtain ⟨t,e⟩:=(show ∃ t,u=Value.bytes b t from r);cases e;rfl
 | flt b=>obtain ⟨t,e⟩:=(show ∃ t,u=Value.float b t from r);cases e;rfl
 | ref a=>cases (show u=Value.ref a from r);rfl
 | ty n=>cases (show u=Value.type n from r);rfl
section
variable{P:Program}{w:World}{H H':Hp}{h h':Heap}{a C dx:Addr}{fs fs':List (Str × V)}
theorem aHu(hok:HOk P w H h)(e:H a=some (.ins C dx fs)):∃ mA,ObjM h a dx C mA/\(∀ f,yC (fs.lookup f) (mA f))/\PySem.Within mA (fs.map (·.1))/\fs.length<=1000/\H dx=some (.own a):=by
 obtain ⟨d,z,ne,ob,mA,n,r,q⟩:=(show iI P w H h a (.ins C dx fs) from hok a _ e)
 exact ⟨mA,⟨ob,n,ne⟩,r,q,z,d⟩
end
structure Cls(K:PySem.W.Frag)(C:Addr):Prop where
 pg:PySem.W.plainGet K C Str.empty=true
 hd:PySem.W.hasDictIn K C=true
 po:PySem.W.plainOver K C=true
 sa:PySem.W.findIn K (.ref C) "__setattr__" = some (some (.builtin "object.__setattr__"))
theorem Cls.get{K:PySem.W.Frag}{C:Addr}(c:Cls K C)(f:Str):PySem.W.plainGet K C f=true:=c.pg
def lV(K:PySem.W.Frag)(C:Addr)(f:Str):Prop:=PySem.W.findIn K (.ref C) f=some none
theorem lV.taker{K:PySem.W.Frag}{C:Addr}{f:Str}(n:lV K C f):PySem.W.takerIn K C f=some none:=by
 unfold PySem.W.takerIn
 rw [show PySem.W.findIn K (.ref C) f=some none from n]
 rfl
structure Meth(K:PySem.W.Frag)(C:Addr)(m:Str)(f:Addr):Prop where
 at_:PySem.W.findIn K (.ref C) m=some (some (.ref f))
 fn:PySem.W.isFn K (.ref f)=true
 kp:PySem.W.keepIn K (.ref f)=true
section
variable{X:Cx}{pins:List (Addr × Obj)}{σ:St}{H:Hp}{s:Shared}{a C dx:Addr}{fs:List (Str × V)}{f:Str}{v:V}{A:Around}{E:Value->Shared->Prop}
theorem aQv{b:Bool}{Q:Value->Shared->Prop}(I:Inv X pins σ H s)(e:H a=some (.ins C dx fs))(c:Cls X.K C)(n:lV X.K C f)(l:fs.lookup f=some v)
  (h:∀ u s',Inv X pins σ H s'->RelV v u->Q u s'):wpAny (model X.prog X.w) A (getAttr (.ref a) f b) Q E s:=by
 obtain ⟨mA,O,r,_,_,_⟩:=aHu I.hok e
 obtain ⟨u,hu,ru⟩:=yC.some_of (v:=v) (o:=mA f) (by rw [<-l];exact r f)
 exact aZu I.kIn O (c.get f) c.hd n hu (aUe ru) (h u _ (I.tok _) ru)
theorem aIi{m:Str}{g:Addr}{pl:Sem Bool}{Q:Value × List Value->Shared->Prop}(I:Inv X pins σ H s)(e:H a=some (.ins C dx fs))(c:Cls X.K C)(k:Meth X.K C m g)(l:fs.lookup m=none)
  (h:Q (.ref g,[.ref a]) s):wpAny (model X.prog X.w) A (getMethod (.ref a) m pl) Q E s:=by
 obtain ⟨mA,O,r,_,_,_⟩:=aHu I.hok e
 have hn:mA m=none:=yC.none_of (by rw [<-l];exact r m)
 exact aW8 I.kIn O (c.get m) k.at_ k.fn hn h
theorem aQw{y:V}{u:Value}{Q:Unit->Shared->Prop}(I:Inv X pins σ H s)(e:H a=some (.ins C dx fs))(c:Cls X.K C)(n:lV X.K C f)(hl:fs.length < 1000)(ry:RelV y u)
  (h:∀ s',Inv X pins σ (upd H a (.ins C dx (aAj f y fs))) s'->Q () s'):wpAny (model X.prog X.w) A (setAttr (.ref a) f u) Q E s:=by
 obtain ⟨mA,O,r,wi,_,ho⟩:=aHu I.hok e
 have hz:(fs.map (·.1)).length<=sizeLine:=by rw [List.length_map,sizeLine_eq];omega
 refine aZv I.kIn O c.sa c.po n.taker c.hd wi hz fun h' O' sb=>h _ ?_
 have hd:∃ o,h'.get? dx=some o:=let ⟨o,_,_,e',_⟩:=O'.ns;⟨o,e'⟩
 refine I.write (x:=a) (e:=dx) (by rw [e];exact True.intro) (.inr ho) (fun b q hb z=>(sb.2 b hb).trans z) hd ?_
 refine ⟨by rw [bM O.ne];exact ho,?_,O.ne,O'.obj,_,O'.ns,fun g=>?_,fun g hg=>?_⟩
 ·have:=aGp f y fs;omega
 ·show yC ((aAj f y fs).lookup g) (if g=f then some u else mA g)
  rw [aGo]
  by_cases q:g=f
  ·rw [if_pos q,if_pos q];exact ry
  ·rw [if_neg q,if_neg q];exact r g
 ·by_cases q:g=f
  ·rw [q];exact (aFz f y fs).1
  ·refine (aFz f y fs).2 g (wi g fun z=>hg ?_)
   show (if g=f then some u else mA g)=none
   rw [if_neg q];exact z
theorem Inv.made(I:Inv X pins σ H s):Inv X pins σ (upd (upd H s.heap.objs.size (.own (s.heap.objs.size+1))) (s.heap.objs.size+1) (.ins C s.heap.objs.size []))
  { s with heap:=(s.heap.push PySem.W.emptyDict).push (PySem.W.instObj C s.heap.objs.size) }:=by
 have e1:(s.heap.push PySem.W.emptyDict).get? s.heap.objs.size=some PySem.W.emptyDict:=Heap.get?_push_size s.heap rfl
 have e2:((s.heap.push PySem.W.emptyDict).push (PySem.W.instObj C s.heap.objs.size)).get? (s.heap.objs.size+1)=some (PySem.W.instObj C s.heap.objs.size):=by
  have:=Heap.get?_push_size (s.heap.push PySem.W.emptyDict) (o:=PySem.W.instObj C s.heap.objs.size) rfl
  rwa [Heap.size_push] at this
 have e3:(s.heap.push PySem.W.emptyDict).Ns s.heap.objs.size (fun _=>none):=⟨PySem.W.emptyDict, #[],_,e1,rfl,(fun e he=>absurd he (by simp)),fun _=>rfl⟩
 have I1:=I.laid (a:=s.heap.objs.size) (o := .own (s.heap.objs.size+1)) (h':=s.heap.push PySem.W.emptyDict) (t':=s.toks) (fun b u q=>Heap.get?_push_of_some _ q) (Nat.le_refl _) ⟨_,e1⟩
 refine I1.laid (a:=s.heap.objs.size+1) (o := .ins C s.heap.objs.size []) (t':=s.toks) (fun b u q=>Heap.get?_push_of_some _ q) (Nat.le_of_eq (Heap.size_push _ _)) ?_
 have ne:s.heap.objs.size≠s.heap.objs.size+1:=Nat.ne_of_lt (Nat.lt_succ_self _)
 refine ⟨by rw [bM ne,bT],Nat.zero_le _,ne,e2,fun _=>none,(Heap.Ns1.of_empty e3).at fun o q=>Heap.get?_push_of_some _ q,fun _=>True.intro,fun y hy=>absurd rfl hy⟩
theorem aZw{prog:Program}{w:World}{env:Env}{e:Expr}{f:Str}{pos:Pos}{s:Shared}{Q:Value->Shared->Prop}(hb:attributeBase e f env (eval e env)=eval e env)
  (h:wpAny (model prog w) A (eval e env) (fun o s₁=>wpAny (model prog w) A (getAttr o f true) Q E s₁) E s):wpAny (model prog w) A (eval (.Attribute e f pos) env) Q E s :=
 Attribute_any_ h (by rw [arm_eval_Attribute,hb])
end
def bLh(K:PySem.W.Frag)(ta:TE)(f:Str):TE:=fun σ H Q=>ta σ H fun x H1=>∃ a C dx fs v,x = .ref a/\H1 a=some (.ins C dx fs)/\Cls K C/\lV K C f/\fs.lookup f=some v/\Q v H1
def bLi(K:PySem.W.Frag)(ta tv:TE)(f:Str):TS:=fun D σ H=>tv σ H fun y H1=>ta σ H1 fun x H2=>∃ a C dx fs,x = .ref a/\H2 a=some (.ins C dx fs)/\Cls K C/\lV K C f/\fs.length < 1000 /\
 D.nx σ (upd H2 a (.ins C dx (aAj f y fs)))
section
variable{X:Cx}{o e value:Expr}{f:Str}{pos pos' tpos:Pos}{ta tv:TE}
theorem bEa(he:PE X e ta)(hb:attributeBase e f X.env (eval e X.env)=eval e X.env):PE X (.Attribute e f pos) (bLh X.K ta f):=by
 intro pins s σ H Q I h
 refine aZw hb (thn (he pins s σ H _ I h) fun u s1 ⟨x,H1,I1,rx,a,C,dx,fs,v,ex,ea,c,n,l,q⟩=>?_)
 subst ex
 obtain rfl:u=Value.ref a:=rx
 exact aQv I1 ea c n l fun u' s2 I2 ru=>⟨v,H1,I2,ru,q⟩
theorem bEb(ha:PE X o ta)(hv:PE X value tv)(hs:swapsWith value (some (.Attribute o f pos')) pos.line X.env=pure false):PS X (.Assign [.Attribute o f pos'] value pos) (bLi X.K ta tv f):=by
 intro pins s σ H D I h
 refine plainObj_wpAny_Assign_Attribute (thn (hv pins s σ H _ I h) fun u s1 ⟨y,H1,I1,ry,q⟩=>thn (ha pins s1 σ H1 _ I1 q) fun ov s2 ⟨x,H2,I2,rx,a,C,dx,fs,ex,ea,c,n,l,q2⟩=>?_) hs
 subst ex
 obtain rfl:ov=Value.ref a:=rx
 exact aQw I2 ea c n l ry fun s3 I3=>⟨σ,_,I3,q2⟩
end
section
variable{X:Cx}{pins:List (Addr × Obj)}{σ:St}{H:Hp}{s:Shared}{A:Around}{E:Value->Shared->Prop}{Q:Value->Shared->Prop}{c:Value}{b:Bool}
inductive TyOf (K:PySem.W.Frag) (H:Hp):V->Value->Prop where
 | non:TyOf K H .non (.type "NoneType")
 | bl (x:Bool):TyOf K H (.bl x) (.type "bool")
 | int (i:Int):TyOf K H (.int i) (.type "int")
 | str (x:Str):TyOf K H (.str x) (.type "str")
 | flt (x:UInt64):TyOf K H (.flt x) (.type "float")
 | lst {a:Addr} {xs:List V} (e:H a=some (.lst xs)):TyOf K H (.ref a) (.type "list")
 | frz {a:Addr} {o:Obj} {xs:List V} (e:H a=some (.frz o (.lst xs))):TyOf K H (.ref a) (.type "list")
 | tup {a:Addr} {xs:List V} (e:H a=some (.tup xs)):TyOf K H (.ref a) (.type "tuple")
 | dK {a:Addr} {kvs:List (Key × V)} (e:H a=some (.dK kvs)):TyOf K H (.ref a) (.type "dict")
 | dT {a:Addr} {kvs:List (List Key × V)} (e:H a=some (.dT kvs)):TyOf K H (.ref a) (.type "dict")
 | ins {a C dx:Addr} {fs:List (Str × V)} (e:H a=some (.ins C dx fs)) (cl:Cls K C) (ha:PySem.W.findIn K (.ref C) "__class__" = some (some (.builtin "object.__class__")))
   (hn:PySem.W.specialIn K (.builtin "object.__class__") "__get__" = some (some (.builtin "getset_descriptor.__get__"))) (htk:PySem.W.takesIn K (.builtin "object.__class__")=some true)
   (hm:PySem.W.mroIn K C (.type "object")=some true):TyOf K H (.ref a) (.ref C)
theorem aUf{x:V}{u t:Value}(I:Inv X pins σ H s)(rx:RelV x u)(ty:TyOf X.K H x t)(e:PySem.W.kitOne X.K t c=some b)(h:∀ tk,Q (.bool b) { s with toks:=tk }) :
  wpAny (model X.prog X.w) A (call (.builtin "isinstance") [u,c]) Q E s:=by
 cases ty with
 | non=>cases (show u=Value.none from rx);exact PySem.W.kia_one PySem.W.kitx_none I.kIn True.intro e (fun z=>nomatch z) h
 | bl y=>cases (show u=Value.bool y from rx);exact PySem.W.kia_one PySem.W.kitx_bool I.kIn True.intro e (fun z=>nomatch z) h
 | int i=>obtain ⟨t,q⟩:=(show ∃ t,u=Value.int i t from rx);cases q;exact PySem.W.kia_one PySem.W.kitx_int I.kIn True.intro e (fun z=>nomatch z) h
 | str y=>obtain ⟨t,q⟩:=(show ∃ t,u=Value.str y t from rx);cases q;exact PySem.W.kia_one PySem.W.kitx_str I.kIn True.intro e (fun z=>nomatch z) h
 | flt y=>obtain ⟨t,q⟩:=(show ∃ t,u=Value.float y t from rx);cases q;exact PySem.W.kia_one PySem.W.kitx_float I.kIn True.intro e (fun z=>nomatch z) h
 | @lst a xs ea =>
  cases (show u=Value.ref a from rx)
  obtain ⟨_,_,n,_,h1⟩:=(show iI X.prog X.w H s.heap a (.lst xs) from I.hok a _ ea)
  exact PySem.W.kia_one PySem.W.kitx_list I.kIn ⟨_,h1,rfl⟩ e (fun z=>nomatch z) h
 | @frz a ob xs ea =>
  cases (show u=Value.ref a from rx)
  obtain ⟨_,_,_,n,_,h1⟩:=(show iI X.prog X.w H s.heap a (.frz ob (.lst xs)) from I.hok a _ ea)
  exact PySem.W.kia_one PySem.W.kitx_list I.kIn ⟨_,h1,rfl⟩ e (fun z=>nomatch z) h
 | @tup a xs ea =>
  cases (show u=Value.ref a from rx)
  obtain ⟨_,_,_,p⟩:=(show iI X.prog X.w H s.heap a (.tup xs) from I.hok a _ ea)
  obtain ⟨o,h1,h2,_⟩:=p
  exact PySem.W.kia_one PySem.W.kitx_tuple I.kIn ⟨o,h1,h2⟩ e (fun z=>nomatch z) h
 | @dK a kvs ea =>
  cases (show u=Value.ref a from rx)
  obtain ⟨_,_,vs,_,p⟩:=(show iI X.prog X.w H s.heap a (.dK kvs) from I.hok a _ ea)
  obtain ⟨o,es,ep,h1,h2,_⟩:=p
  exact PySem.W.kia_one PySem.W.kitx_dict I.kIn ⟨o,h1,h2.1⟩ e (fun z=>nomatch z) h
 | @dT a kvs ea =>
  cases (show u=Value.ref a from rx)
  obtain ⟨_,_,xs,_,o,es,ep,h1,h2,_⟩:=(show iI X.prog X.w H s.heap a (.dT kvs) from I.hok a _ ea)
  exact PySem.W.kia_one PySem.W.kitx_dict I.kIn ⟨o,h1,h2.1⟩ e (fun z=>nomatch z) h
 | @ins a C dx fs ea cl ha hn htk hm =>
  cases (show u=Value.ref a from rx)
  obtain ⟨mA,O,_⟩:=aHu I.hok ea
  obtain ⟨od,J,_⟩:=O.look
  exact PySem.W.kia_one (PySem.W.kitx_own (cl.get _) cl.hd ha hn htk hm) I.kIn J e (fun z=>nomatch z) h
end
end L2
namespace L2
open PySem PySem.Spec PyProof.Rows
structure Room(k:Nat)(A:Around):Prop where
 hd:A.handled=none
 dp:A.depth+3 * k+5 < recursionLimit
 un:A.units+16 * k+200 < cLine
theorem Room.mono{j k:Nat}{A:Around}(r:Room k A)(h:j<=k):Room j A:=⟨r.hd,by have:=r.dp;omega,by have:=r.un;omega⟩
theorem Room.deeper{k:Nat}{A:Around}(r:Room (k+1) A)(env:Env):Room k (A.deeper env) :=
 ⟨r.hd,by have:=r.dp;show A.depth+1+3 * k+5 < _;omega,by have:=r.un;show A.units+3+16 * k+200 < _;omega⟩
theorem aQx{A:Around}{C:Addr}{us:List Value}{kw:List (Str × Value)}:(A.under (.builtin "type.__call__" ⟨.ref C :: us,kw⟩)).depth=A.depth+1:=by
 first | rfl | simp [Around.under,Code.weight,Code.isCreation,Code.isGuard,Code.isCaller,Code.frames,Code.isFrame,guardIds]
theorem aQy{A:Around}{C:Addr}{us:List Value}{kw:List (Str × Value)}:(A.under (.builtin "type.__call__" ⟨.ref C :: us,kw⟩)).units=A.units+1:=by
 first | rfl | simp [Around.under,Code.cUnits,Code.frames,Code.isFrame]
theorem Room.make{k:Nat}{A:Around}(r:Room (k+1) A)(C:Addr)(us:List Value)(kw:List (Str × Value)):Room k (A.under (.builtin "type.__call__" ⟨.ref C :: us,kw⟩)) :=
 ⟨r.hd,by have:=r.dp;rw [aQx];omega,by have:=r.un;rw [aQy];omega⟩
theorem Room.depth{k:Nat}{A:Around}(r:Room k A):A.depth < recursionLimit:=by have:=r.dp;omega
theorem Room.units{k:Nat}{A:Around}(r:Room k A):A.units+64 < cLine:=by have:=r.un;omega
def bEc:TA:=fun _ H Q=>Q [] H
def bHt(ta:TE)(tr:TA):TA:=fun σ H Q=>ta σ H fun x H1=>tr σ H1 fun xs H2=>Q (x :: xs) H2
section
variable{X:Cx}{e:Expr}{es:List Expr}{te:TE}{t:TA}{pos:Pos}
theorem iJ:PA X [] bEc:=fun _ _ _ _ H Q I h=>Calls.spliced_nil ⟨[],H,I,.nil,h⟩
theorem dH(ha:PE X e te)(hr:PA X es t)(hs:starEach (e :: es) X.env=(false,eval e X.env) :: starEach es X.env:=by rfl):PA X (e :: es) (bHt te t):=by
 intro pos pins s σ H Q I h
 rw [hs]
 show wpAny _ _ (spliced ((false,eval e X.env) :: backTo pos (starEach es X.env))) _ _ s
 refine Calls.spliced_cons (thn (ha pins s σ H _ I h) fun u s1 ⟨x,H1,I1,r1,q1⟩=>?_)
 exact thn (hr pos pins s1 σ H1 _ I1 q1) fun us s2 ⟨xs,H2,I2,r2,q2⟩=>⟨x :: xs,H2,I2,.cons r1 r2,q2⟩
def bLj(t:TA):TE:=fun σ H Q=>t σ H fun xs H1=>xs.length<=sizeLine/\∀ p,H1 p=none->Q (.ref p) (upd H1 p (.tup xs))
def bLk(t:TA):TE:=fun σ H Q=>t σ H fun xs H1=>xs.length<=sizeLine/\∀ p,H1 p=none->Q (.ref p) (upd H1 p (.lst xs))
theorem bEd{x1}(h:PA X es t):PE X (.Tuple es x1 pos) (bLj t):=by
 intro pins s σ H Q I hq
 refine wpAny_Tuple_spliced (thn (h pos pins s σ H _ I hq) fun us s1 ⟨xs,H1,I1,r,z,q⟩=>⟨by rw [<-r.length];exact z,?_⟩)
 have hf:H1 s1.heap.objs.size=none:=I1.hok.fresh (Nat.le_refl _)
 refine ⟨.ref s1.heap.objs.size,upd H1 s1.heap.objs.size (.tup xs),I1.laid (t':=s1.toks) (fun b u e=>Heap.get?_push_of_some _ e) (Nat.le_refl _) ?_,rfl,q _ hf⟩
 exact ⟨z,us,r,⟨_,Heap.get?_push_size _ rfl,rfl,_,rfl⟩⟩
theorem aQz(h:PA X es t):PE X (.List es pos) (bLk t):=by
 intro pins s σ H Q I hq
 refine wpAny_List_spliced (thn (h pos pins s σ H _ I hq) fun us s1 ⟨xs,H1,I1,r,z,q⟩=>⟨by rw [<-r.length];exact z,?_⟩)
 have hf:H1 s1.heap.objs.size=none:=I1.hok.fresh (Nat.le_refl _)
 refine ⟨.ref s1.heap.objs.size,upd H1 s1.heap.objs.size (.lst xs),I1.laid (t':=s1.toks) (fun b u e=>Heap.get?_push_of_some _ e) (Nat.le_refl _) ?_,rfl,q _ hf⟩
 exact ⟨z,us,0,r,Heap.get?_push_size _ rfl⟩
end
abbrev Sp:=List V->Hp->VK->XK->Prop
abbrev CXT:=List Env->Hp->Shared->XK->Value->Shared->Prop
structure Env0(P:Program)(w:World)(K:PySem.W.Frag)(mg:Str->Option Value)(base:Heap)(A:Around)(outer:List Env)(s:Shared)(H:Hp):Prop where
 frames:A.frames=some outer
 mod:Mod K mg base
 bs:∀ b o,base.get? b=some o->s.heap.get? b=some o/\H b=none
 bsz:base.objs.size<=s.heap.objs.size
 funs:s.heap.FunFrames base outer
 frf:∀ b∈frs outer,H b=none
 hok:HOk P w H s.heap
 bare:AllBare s.gens
def CE(outer:List Env)(P:Program)(w:World)(H:Hp)(s:Shared)(Q:VK)(u:Value)(s':Shared):Prop :=
 ∃ v H',s'.os=s.os/\AllBare s'.gens/\Un (frs outer) [] H H' s.heap s'.heap/\HOk P w H' s'.heap/\RelV v u/\Q v H'
def CR(CX:CXT)(outer:List Env)(P:Program)(w:World)(H:Hp)(s:Shared)(Q:VK)(E:XK)(r:Result)(s':Shared):Prop :=
 match r with
 | .ok (.ret u)=>CE outer P w H s Q u s'
 | .ok _=>False
 | .error e=>CX outer H s E e s'
structure FnOk(P:Program)(w:World)(K:PySem.W.Frag)(mg:Str->Option Value)(base:Heap)(CX:CXT)(k:Nat)(f:Addr)(fd:FuncData)(ps:List Str)(sp:Sp):Prop where
 len:∀ vs H Q E,sp vs H Q E->vs.length=ps.length
 run:∀ (A:Around) (outer:List Env) (s:Shared) (H:Hp) (args:Args) (us:List Value) (vs:List V) (Q:VK) (E:XK),Room k A->Env0 P w K mg base A outer s H->BindsTo s fd args (ps.zip us)->Vals vs us->sp vs H Q E ->
  codeAny (model P w) A (.call (.ref f) args) (CR CX outer P w H s Q E) s
theorem Env0.make{P:Program}{w:World}{K:PySem.W.Frag}{mg:Str->Option Value}{base:Heap}{A:Around}{outer:List Env}{s:Shared}{H:Hp}(e:Env0 P w K mg base A outer s H)(C:Addr)(us:List Value)(kw:List (Str × Value)) :
  Env0 P w K mg base (A.under (.builtin "type.__call__" ⟨.ref C :: us,kw⟩)) outer s H:=⟨by first | exact e.frames | (simpa [Around.under,Code.envs,Code.isFrame,pushEnvs] using e.frames),e.mod,e.bs,e.bsz,e.funs,e.frf,e.hok,e.bare⟩
section
variable{X:Cx}{pins:List (Addr × Obj)}{σ:St}{H:Hp}{s s':Shared}
theorem Inv.env0(I:Inv X pins σ H s):Env0 X.prog X.w X.K X.mg X.base X.A X.stack s H :=
 ⟨I.ok.frames,I.ok.mod,I.bs,Nat.le_trans I.ok.bsz I.sz,I.stack,I.stkFree,I.hok,I.bare⟩
theorem Inv.after{Q:VK}{u:Value}(I:Inv X pins σ H s)(h:CE X.stack X.prog X.w H s Q u s'):EP X pins σ Q u s':=by
 obtain ⟨v,H',os,bare,un,hok,r,q⟩:=h
 obtain ⟨hh,g,d,t,os'⟩:=s'
 obtain rfl:os'=s.os:=os
 exact ⟨v,H',I.call (h':=hh) (g':=g) (d':=d) (t':=t) (ch:=[]) un hok bare (fun b z=>absurd z (by simp)),r,q⟩
end
def bCl(sp:Sp)(dvs:List V)(E:XK)(t:TA):TE:=fun σ H Q=>t σ H fun vs H1=>sp (vs++dvs) H1 Q E
def bCm(C:Addr)(m:Str)(sp:Sp)(dvs:List V)(E:XK)(ta:TE)(t:TA):TE:=fun σ H Q=>ta σ H fun x H1=>∃ a dx fs,x = .ref a/\H1 a=some (.ins C dx fs)/\fs.lookup m=none /\
 t σ H1 fun vs H2=>sp (x :: (vs++dvs)) H2 Q E
def bHu(C:Addr)(sp:Sp)(dvs:List V)(E:XK)(t:TA):TE:=fun σ H Q=>t σ H fun vs H1=>∀ x dx,H1 x=none->H1 dx=none->dx≠x ->
 sp (.ref x :: (vs++dvs)) (upd (upd H1 dx (.own x)) x (.ins C dx [])) (fun v H2=>v = .non/\Q (.ref x) H2) E
def Binds(K:PySem.W.Frag)(fd:FuncData)(ps:List Str)(ds:List Value):Prop :=
 ∀ (s:Shared) (us:List Value),K.In s.heap->(us++ds).length=ps.length->BindsTo s fd ⟨us,[]⟩ (ps.zip (us++ds))
theorem Binds.all{K:PySem.W.Frag}{fd:FuncData}{ps:List Str}(h:∀ us:List Value,us.length=ps.length->bindArgs fd ⟨us,[]⟩=pure (ps.zip us)):Binds K fd ps []:=fun s us _ hl=>by
 rw [List.append_nil] at hl ⊢
 exact .of_eq (h us hl)
def aAl(CX:CXT)(X:Cx)(E:XK):Prop:=∀ (pins:List (Addr × Obj)) (σ:St) (H:Hp) (s:Shared) (e:Value) (s':Shared),Inv X pins σ H s->CX X.stack H s E e s'->X.xe e s'
section
variable{X:Cx}{CX:CXT}{k:Nat}{f C:Addr}{fd:FuncData}{ps:List Str}{sp:Sp}{dvs:List V}{ds:List Value}{E:XK}{x m:Str}{p pos apos:Pos}{e o:Expr}{es:List Expr}{ta:TE}{t:TA}
theorem aIj{pins:List (Addr × Obj)}{σ:St}{H:Hp}{s:Shared}{Q:VK}{us:List Value}{vs:List V}(F:FnOk X.prog X.w X.K X.mg X.base CX k f fd ps sp)(hr:Room k X.A)(hb:Binds X.K fd ps ds)(hd:Vals dvs ds)(hx:aAl CX X E)
  (I:Inv X pins σ H s) (r:Vals vs us) (h:sp (vs++dvs) H Q E):wpAny (model X.prog X.w) X.A (call (.ref f) us) (EP X pins σ Q) X.xe s:=by
 have r2:Vals (vs++dvs) (us++ds):=r.append hd
 have hl:(us++ds).length=ps.length:=by rw [<-r2.length];exact F.len _ _ _ _ h
 refine wpAny_call (codeAny_mono (F.run X.A X.stack s H ⟨us,[]⟩ (us++ds) (vs++dvs) Q E hr I.env0 (hb s us I.kIn hl) r2 h) fun r s' hq=>?_)
 cases r with
 | error e=>exact hx pins σ H s e s' I hq
 | ok fl =>
  cases fl with
  | ret u=>exact I.after hq
  | next=>exact False.elim hq
  | brk=>exact False.elim hq
  | cont=>exact False.elim hq
theorem aMm(F:FnOk X.prog X.w X.K X.mg X.base CX k f fd ps sp)(hr:Room k X.A)(hg:Gl X x)(hm:X.mg x=some (.ref f))(hk:PySem.W.keepIn X.K (.ref f)=true)(hb:Binds X.K fd ps ds)(hd:Vals dvs ds)(hx:aAl CX X E)
  (ha:PA X (e :: es) t) (hdb:(x==("__debug__" : Str))=false:=by decide) (he:starEach (e :: es) X.env=(false,eval e X.env) :: starEach es X.env:=by rfl) (hpl:(backTo pos (starEach es X.env)).any (·.1)=false:=by rfl) :
  PE X (.Call (.Name x p) (e :: es) [] pos) (bCl sp dvs E t):=by
 intro pins s σ H Q I h
 refine wpAny_Call_Name_kw (aE7 I hg hm ?_ hdb)
 refine PySem.W.callWith_K (h₀:=X.base) I.ok.mod.kin hk (thn (ha pos pins s σ H _ I h) fun us s1 ⟨vs,H1,I1,r,q⟩=>⟨I1.kIn,?_⟩) he hpl
 exact aIj F hr hb hd hx I1 r q
theorem aWa(F:FnOk X.prog X.w X.K X.mg X.base CX k f fd ps sp)(hr:Room k X.A)(hg:Gl X x)(hm:X.mg x=some (.ref f))(hk:PySem.W.keepIn X.K (.ref f)=true)(hb:Binds X.K fd ps ds)(hd:Vals dvs ds)(hx:aAl CX X E)
  (hdb:(x==("__debug__" : Str))=false:=by decide):PE X (.Call (.Name x p) [] [] pos) (bCl sp dvs E bEc):=by
 intro pins s σ H Q I h
 refine wpAny_Call_Name_kw (aE7 I hg hm ?_ hdb)
 exact PySem.W.callWith_K0 I.kIn hk (aIj (us:=[]) F hr hb hd hx I .nil h)
theorem aS2{pl:Sem Bool}(he:PE X o ta)(c:Cls X.K C)(hm:Meth X.K C m f)(F:FnOk X.prog X.w X.K X.mg X.base CX k f fd ps sp)(hr:Room k X.A)(hb:Binds X.K fd ps ds)(hd:Vals dvs ds)(hx:aAl CX X E)(ha:PA X (e :: es) t)
  (hst:starEach (e :: es) X.env=(false,eval e X.env) :: starEach es X.env:=by rfl) (hpl:(backTo pos (starEach es X.env)).any (·.1)=false:=by rfl)
  (ht:eval (.Call (.Attribute o m apos) (e :: es) [] pos) X.env=(do
   let ov <- eval o X.env
   standAt apos.atName
   let (f,first) <- holding [ov] (getMethod ov m pl)
   callWith pos f first (backTo pos (starEach (e :: es) X.env)) (backToKw pos (keywordEach [] X.env))):=by rfl) :
  PE X (.Call (.Attribute o m apos) (e :: es) [] pos) (bCm C m sp dvs E ta t):=by
 intro pins s σ H Q I h
 refine PySem.W.methodCall_KW (pl:=pl) (thn (he pins s σ H _ I h) fun u s1 ⟨x,H1,I1,rx,a,dx,fs,ex,ea,l,q⟩=>?_) ht
 subst ex
 obtain rfl:u=Value.ref a:=rx
 refine aIi I1 ea c hm l ?_
 refine PySem.W.callWith_K (first:=[.ref a]) (h₀:=X.base) I.ok.mod.kin hm.kp (thn (ha pos pins s1 σ H1 _ I1 q) fun us s2 ⟨vs,H2,I2,r,q2⟩=>⟨I2.kIn,?_⟩) hst hpl
 exact aIj (us := .ref a :: us) (vs := .ref a :: vs) F hr hb hd hx I2 (.cons rfl r) q2
theorem aWb{pl:Sem Bool}(he:PE X o ta)(c:Cls X.K C)(hm:Meth X.K C m f)(F:FnOk X.prog X.w X.K X.mg X.base CX k f fd ps sp)(hr:Room k X.A)(hb:Binds X.K fd ps ds)(hd:Vals dvs ds)(hx:aAl CX X E)
  (ht:eval (.Call (.Attribute o m apos) [] [] pos) X.env=(do
   let ov <- eval o X.env
   standAt apos.atName
   let (f,first) <- holding [ov] (getMethod ov m pl)
   callWith pos f first (backTo pos (starEach [] X.env)) (backToKw pos (keywordEach [] X.env))):=by rfl) :
  PE X (.Call (.Attribute o m apos) [] [] pos) (bCm C m sp dvs E ta bEc):=by
 intro pins s σ H Q I h
 refine PySem.W.methodCall_KW (pl:=pl) (thn (he pins s σ H _ I h) fun u s1 ⟨x,H1,I1,rx,a,dx,fs,ex,ea,l,q⟩=>?_) ht
 subst ex
 obtain rfl:u=Value.ref a:=rx
 refine aIi I1 ea c hm l ?_
 exact PySem.W.callWith_K0 (first:=[.ref a]) I1.kIn hm.kp (aIj (us:=[.ref a]) (vs:=[.ref a]) F hr hb hd hx I1 (.cons rfl .nil) q)
structure Mk(K:PySem.W.Frag)(C f:Addr):Prop where
 makes:PySem.W.makesIn K C=true
 init:PySem.W.findIn K (.ref C) "__init__" = some (some (.ref f))
 fn:PySem.W.isFn K (.ref f)=true
 kp:PySem.W.keepIn K (.ref C)=true
theorem aWc{pins:List (Addr × Obj)}{σ:St}{H:Hp}{s:Shared}{Q:VK}{us:List Value}{vs:List V}(M:Mk X.K C f)(F:FnOk X.prog X.w X.K X.mg X.base CX k f fd ps sp)(hr:Room (k+1) X.A)(hb:Binds X.K fd ps ds)(hd:Vals dvs ds)
  (hx:aAl CX X E) (I:Inv X pins σ H s) (r:Vals vs us)
  (h:∀ x dx,H x=none->H dx=none->dx≠x->sp (.ref x :: (vs++dvs)) (upd (upd H dx (.own x)) x (.ins C dx [])) (fun v H2=>v = .non/\Q (.ref x) H2) E) :
  wpAny (model X.prog X.w) X.A (call (.ref C) us) (EP X pins σ Q) X.xe s:=by
 have hq:=h (s.heap.objs.size+1) s.heap.objs.size (I.hok.fresh (Nat.le_succ _)) (I.hok.fresh (Nat.le_refl _)) (Nat.ne_of_lt (Nat.lt_succ_self _))
 have I2:=Inv.made (C:=C) I
 have r2:Vals (V.ref (s.heap.objs.size+1) :: (vs++dvs)) (Value.ref (s.heap.objs.size+1) :: (us++ds)) := .cons rfl (r.append hd)
 have hl:(Value.ref (s.heap.objs.size+1) :: us++ds).length=ps.length:=by
  have e:=r2.length
  rw [F.len _ _ _ _ hq] at e
  exact e.symm
 refine wpAny_call (aW9 (f:=f) I.kIn M.makes M.init (beq_iff_eq.mp M.fn) (codeAny_mono (F.run _ X.stack _ _ ⟨Value.ref (s.heap.objs.size+1) :: us,[]⟩ (Value.ref (s.heap.objs.size+1) :: (us++ds)) _ _ E (hr.make C us [])
  (I2.env0.make C us []) (hb _ (Value.ref (s.heap.objs.size+1) :: us) I2.kIn hl) r2 hq) fun r s' hq' => ?_))
 cases r with
 | error e=>exact hx pins σ _ _ e s' I2 hq'
 | ok fl =>
  cases fl with
  | ret u =>
   obtain ⟨v,H',I3,rv,ev,q3⟩:=I2.after hq'
   subst ev
   exact ⟨rv,⟨V.ref (s.heap.objs.size+1),H',I3,rfl,q3⟩⟩
  | next=>exact False.elim hq'
  | brk=>exact False.elim hq'
  | cont=>exact False.elim hq'
theorem aZx(M:Mk X.K C f)(F:FnOk X.prog X.w X.K X.mg X.base CX k f fd ps sp)(hr:Room (k+1) X.A)(hg:Gl X x)(hm:X.mg x=some (.ref C))(hb:Binds X.K fd ps ds)(hd:Vals dvs ds)(hx:aAl CX X E)
  (ha:PA X (e :: es) t) (hdb:(x==("__debug__" : Str))=false:=by decide) (he:starEach (e :: es) X.env=(false,eval e X.env) :: starEach es X.env:=by rfl) (hpl:(backTo pos (starEach es X.env)).any (·.1)=false:=by rfl) :
  PE X (.Call (.Name x p) (e :: es) [] pos) (bHu C sp dvs E t):=by
 intro pins s σ H Q I h
 refine wpAny_Call_Name_kw (aE7 I hg hm ?_ hdb)
 refine PySem.W.callWith_K (h₀:=X.base) I.ok.mod.kin M.kp (thn (ha pos pins s σ H _ I h) fun us s1 ⟨vs,H1,I1,r,q⟩=>⟨I1.kIn,?_⟩) he hpl
 exact aWc M F hr hb hd hx I1 r q
end
section
variable{X:Cx}{CX:CXT}{k:Nat}{f C:Addr}{fd:FuncData}{ps ks:List Str}{sp:Sp}{E:XK}{x m:Str}{p pos apos kpos:Pos}{e o:Expr}{es:List Expr}{kws:List Keyword}{te ta:TE}{t tk:TA}{nm:Option Str}
variable{g:List Value->List Value->List Value}{gV:List V->List V->List V}
end
structure FnScope(N P:List Str)(sc:Scope):Prop where
 kind:sc.kind = .function
 co:sc.isCoroutine=false
 gen:sc.isGenerator=false
 nd:N.Nodup
 pre:N.take P.length=P
 par:∀ x∈P,sc.names.lookup x=some .local\/sc.names.lookup x=some .cell
 nofree:∀ y∈sc.names,y.2 ≠ .free
theorem aKx{kindOf:Str->Option NameKind}{x:Str}:∀ {binds:List (Str × Value)} {m:Str->Option Value},(∀ v,(x,v) ∉ binds)->bindL kindOf binds m x=m x
 | [],_,_=>rfl
 | (n,v) :: r,m,h=>by
  unfold bindL
  rw [aKx fun w hw=>h w (List.mem_cons_of_mem _ hw)]
  split
  ·have:x≠n:=by rintro rfl;exact h v List.mem_cons_self
   simp [this]
  ·rfl
theorem aKy{kindOf:Str->Option NameKind}{x:Str}:∀ {binds:List (Str × Value)} {m:Str->Option Value},(∀ v,(x,v) ∉ binds)->bindC kindOf binds m x=m x
 | [],_,_=>rfl
 | (n,v) :: r,m,h=>by
  unfold bindC
  rw [aKy fun w hw=>h w (List.mem_cons_of_mem _ hw)]
  split
  ·rfl
  ·have:x≠n:=by rintro rfl;exact h v List.mem_cons_self
   simp [this]
theorem aKz{kindOf:Str->Option NameKind}{x:Str}{v:Value}:∀ {P:List Str} {vs:List Value} {i:Nat} {m:Str->Option Value},P.Nodup->P[i]?=some x->vs[i]?=some v->kindOf x=some .local ->
  bindL kindOf (P.zip vs) m x=some v
 | [],_,_,_,_,h,_,_=>by simp at h
 | _ :: _,[],_,_,_,_,h,_=>by simp at h
 | p :: P,w :: vs,0,m,nd,h1,h2,hk=>by
  simp at h1 h2;subst h1;subst h2
  show bindL kindOf ((p,w) :: P.zip vs) m p=_
  unfold bindL
  rw [aKx fun v hv=>(List.nodup_cons.mp nd).1 (List.of_mem_zip hv).1,if_pos hk]
  simp
 | p :: P,w :: vs,i+1,m,nd,h1,h2,hk=>by
  show bindL kindOf ((p,w) :: P.zip vs) m x=_
  unfold bindL
  exact aKz (i:=i) (List.nodup_cons.mp nd).2 (by simpa using h1) (by simpa using h2) hk
theorem aL0{kindOf:Str->Option NameKind}{x:Str}{v:Value}:∀ {P:List Str} {vs:List Value} {i:Nat} {m:Str->Option Value},P.Nodup->P[i]?=some x->vs[i]?=some v->kindOf x≠some .local ->
  bindC kindOf (P.zip vs) m x=some v
 | [],_,_,_,_,h,_,_=>by simp at h
 | _ :: _,[],_,_,_,_,h,_=>by simp at h
 | p :: P,w :: vs,0,m,nd,h1,h2,hk=>by
  simp at h1 h2;subst h1;subst h2
  show bindC kindOf ((p,w) :: P.zip vs) m p=_
  unfold bindC
  rw [aKy fun v hv=>(List.nodup_cons.mp nd).1 (List.of_mem_zip hv).1,if_neg hk]
  simp
 | p :: P,w :: vs,i+1,m,nd,h1,h2,hk=>by
  show bindC kindOf ((p,w) :: P.zip vs) m x=_
  unfold bindC
  exact aL0 (i:=i) (List.nodup_cons.mp nd).2 (by simpa using h1) (by simpa using h2) hk
def start(N:List Str)(vs:List V):St:=vs.map some++List.replicate (N.length - vs.length) none
def aIk(CX:CXT)(P:Program)(w:World)(K:PySem.W.Frag)(mg:Str->Option Value)(base:Heap)(N:List Str)(qual:Str)(scope:Scope)(f:Addr)(cd:Value)(A:Around)(outer:List Env)(s:Shared)(H:Hp)(E:XK):Cx where
 prog:=P
 w:=w
 K:=K
 mg:=mg
 base:=base
 A:=A.deeper (envOfC qual scope s.heap.objs.size f cd)
 N:=N
 s₀:=s
 H₀:=H
 env:=envOfC qual scope s.heap.objs.size f cd
 outer:=outer
 stack:=envOfC qual scope s.heap.objs.size f cd :: outer
 ex:=[]
 calm:=true
 fn:=fun _=>true
 pn:=[]
 xe:=fun e s'=>wpAny (model P w) (A.deeper (envOfC qual scope s.heap.objs.size f cd)) (leaving (envOfC qual scope s.heap.objs.size f cd) e) (fun _ s''=>CX outer H s E e s'') (fun e' s''=>CX outer H s E e' s'') s'
theorem aOa{sc:Scope}{n:Nat}{x:Str}(h:sc.names.lookup x=some .cell):∃ c,(cellsFrom n sc.names []).lookup x=some c:=by
 have q:=PySem.W.cellsFrom_some sc.names n [] (.inl h)
 exact Option.isSome_iff_exists.mp q
theorem aUg{CX:CXT}{P:Program}{w:World}{K:PySem.W.Frag}{mg:Str->Option Value}{base:Heap}{N ps:List Str}{qual:Str}{scope:Scope}{f:Addr}{cd:Value}{A:Around}{outer:List Env}{s s1:Shared}{H:Hp}{E:XK}{us:List Value}{vs:List V}
  (S:FnScope N ps scope) (hd:A.handled=none) (e0:Env0 P w K mg base A outer s H) (hl:vs.length=ps.length) (r:Vals vs us)
  (x:InCallC s s.heap.objs.size (bindL (envOfC qual scope s.heap.objs.size f cd).kindOf (ps.zip us) fun _=>none) (cellsFrom (s.heap.objs.size+1) scope.names []) (bindC (envOfC qual scope s.heap.objs.size f cd).kindOf (ps.zip us) fun _=>none) s1) :
  Inv (aIk CX P w K mg base N qual scope f cd A outer s H E) [] (start N vs) H s1:=by
 have hpl:ps.length<=N.length:=by have:=congrArg List.length S.pre;rw [List.length_take] at this;omega
 obtain ⟨h1,tk,rfl,hk⟩:=x.done
 have noA:∀ b:Addr,b ∉ (aIk CX P w K mg base N qual scope f cd A outer s H E).ex:=fun b z=>absurd (show b∈([]:List Addr) from z) (by simp)
 refine ⟨⟨e0.mod,S.kind,rfl,rfl,Nat.le_refl _,fun y z c h1 h2=>?_,fun y hy=>?_,fun y c _ h=>?_,fun _=>hd,Around.frames_deeper e0.frames,.inr ⟨rfl,rfl⟩,fun b z=>absurd z (noA b),e0.bs,e0.bsz,fun b _ _=>noA b,fun b z=>absurd z (noA b),e0.funs,e0.frf⟩,
  rfl,e0.bare,Un.kept hk,⟨_,x.toInCall.ns,fun i y v h1 h2 h3=>?_⟩,fun y c h=>⟨_,x.cell y c h⟩,e0.hok.fresh (Nat.le_refl _),fun y c h=>?_,fun p hp=>absurd (show p∈([]:List (Addr × Obj)) from hp) (by simp),e0.hok.kept hk,?_⟩
 ·exact name_of_addr x.apart (PySem.mem_of_lookup h1) (PySem.mem_of_lookup h2)
 ·have hy:scope.names.lookup y=some .cell\/scope.names.lookup y=some .free:=hy
  rcases hy with hy | hy
  ·exact aOa hy
  ·exact absurd rfl (S.nofree _ (PySem.mem_of_lookup hy))
 ·exact Nat.le_of_lt (x.above y c (PySem.mem_of_lookup h))
 ·have hi:i < vs.length:=by
   unfold start at h2
   by_cases hi:i < vs.length
   ·exact hi
   ·rw [List.getElem?_append_right (by simpa using hi)] at h2
    rw [List.getElem?_replicate] at h2
    split at h2<;>cases h2
  have ha:vs[i]?=some v:=by
   unfold start at h2
   rw [List.getElem?_append_left (by simpa using hi),List.getElem?_map] at h2
   cases e:vs[i]? with
   | none=>rw [e] at h2;cases h2
   | some a=>rw [e] at h2;cases h2;rfl
  obtain ⟨u,hu,rv⟩:=r.get ha
  have hp:ps[i]?=some y:=by
   rw [<-S.pre,List.getElem?_take_of_lt (by omega)];exact h1
  have ndP:ps.Nodup:=by rw [<-S.pre];exact S.nd.sublist (List.take_sublist _ _)
  refine ⟨u,rv,?_⟩
  rcases S.par y (List.mem_of_getElem? hp) with k | k
  ·exact .inl ⟨k,aKz ndP hp hu k⟩
  ·obtain ⟨c,e⟩:=aOa (n:=s.heap.objs.size+1) k
   refine .inr ⟨.inl k,c,e,?_⟩
   have q:=x.cell y c e
   rw [aL0 ndP hp hu (by show scope.names.lookup y≠_;rw [k];decide)] at q
   exact q
 ·exact e0.hok.fresh (Nat.le_of_lt (x.above y c (PySem.mem_of_lookup h)))
 ·unfold start
  show _=N.length
  rw [List.length_append,List.length_map,List.length_replicate]
  omega
theorem bCn{CX:CXT}{P:Program}{w:World}{K:PySem.W.Frag}{mg:Str->Option Value}{base:Heap}{k:Nat}{f:Addr}{name qual:Str}{params:Arguments}{body:List Stmt}{scope:Scope}{dV kV doc pm cdv ct oc:Value}{an od:Option Addr}
  {osl:Array (Option Value)} {N ps:List Str} {sp:Sp} (lk:K.lookup f=some ⟨oc,od,.func (PySem.W.fnOf name qual params body scope dV kV doc pm an cdv ct),osl⟩) (hcd:PySem.W.codeIn K cdv qual=true) (S:FnScope N ps scope)
  (len:∀ vs H Q E,sp vs H Q E->vs.length=ps.length)
  (hbody:∀ (A:Around) (outer:List Env) (s:Shared) (H:Hp) (vs:List V) (Q:VK) (E:XK),Room k (A.deeper (envOfC qual scope s.heap.objs.size f cdv))->sp vs H Q E ->
   ∃ t,PSs (aIk CX P w K mg base N qual scope f cdv A outer s H E) body t/\t { nx:=fun _ H'=>Q .non H',rt:=Q } (start N vs) H) :
  FnOk P w K mg base CX (k+1) f (PySem.W.fnOf name qual params body scope dV kV doc pm an cdv ct) ps sp:=by
 refine ⟨len,fun A outer s H args us vs Q E hr e0 hb r hsp=>?_⟩
 have hl:=len _ _ _ _ hsp
 have KX:K.In s.heap:=e0.mod.kin.keeps fun b o e=>(e0.bs b o e).1
 have lim:s.heap.NoLimit:=e0.mod.nolimit.keeps fun b o e=>(e0.bs b o e).1
 have hkind:∀ y∈ps.zip us,scope.names.lookup y.1=some .local\/(scope.names.lookup y.1=some .cell/\((cellsFrom (s.heap.objs.size+1) scope.names []).lookup y.1).isSome=true):=fun ⟨n,v⟩ hy=>by
  rcases S.par n (List.of_mem_zip hy).1 with q | q
  ·exact .inl q
  ·exact .inr ⟨q,PySem.W.cellsFrom_some _ _ _ (.inl q)⟩
 refine codeAny_call_function hr.depth (KX _ _ lk) rfl S.co S.gen rfl (PySem.W.codeRec_of KX hcd) (hb _ _ _ _ ?_)
 refine wpAny_newFunctionEnv_cells S.kind hkind fun env he s1 x=>?_
 subst he
 refine ⟨lim.keeps x.toInCall.keep,codeAny_func ?_⟩
 obtain ⟨t,ht,hq⟩:=hbody A outer s H vs Q E (hr.deeper _) hsp
 have I:Inv (aIk CX P w K mg base N qual scope f cdv A outer s H E) [] (start N vs) H s1:=aUg S hr.hd e0 hl r x
 refine wpAny_mono (ht [] s1 (start N vs) H _ I hq) (fun fl s' hs=>?_) fun e s' hs=>hs
 have fin:∀ {σ':St} {H':Hp} {v:V} {u:Value},Inv (aIk CX P w K mg base N qual scope f cdv A outer s H E) [] σ' H' s'->RelV v u->Q v H'->CE outer P w H s Q u s' :=
  fun {σ' H' v u} J rv q=>⟨v,H',J.os,J.bare,J.base,J.hok,rv,q⟩
 cases fl with
 | ret u =>
  obtain ⟨v,σ',H',J,rv,q⟩:=hs
  exact fin J rv q
 | next =>
  obtain ⟨σ',H',J,q⟩:=hs
  exact fin (v:=V.non) (u:=Value.none) J rfl q
 | brk =>
  obtain ⟨_,_,_,q⟩:=hs
  exact False.elim q
 | cont =>
  obtain ⟨_,_,_,q⟩:=hs
  exact False.elim q
end L2
namespace L2
open PySem PySem.Spec PyProof.Rows
section
variable{X:Cx}{x:Str}{p pos:Pos}{e:Expr}{es:List Expr}{t:TA}{id T:String}{r:List V->Hp->VK->Prop}
def tCB(r:List V->Hp->VK->Prop)(t:TA):TE:=fun σ H Q=>t σ H fun vs H1=>r vs H1 Q
theorem rA(hc:mC X (.builtin id) r)(hg:Gl X x)(hm:X.mg x=none)(hv:bootBuiltins x=some (.builtin id))(ha:PA X (e :: es) t)(hn:x ≠ "__name__" := by decide)(hdb:(x==("__debug__" : Str))=false:=by decide)
  (he:starEach (e :: es) X.env=(false,eval e X.env) :: starEach es X.env:=by rfl) (hpl:(backTo pos (starEach es X.env)).any (·.1)=false:=by rfl):PE X (.Call (.Name x p) (e :: es) [] pos) (tCB r t):=by
 intro pins s σ H Q I h
 refine wpAny_Call_Name_kw (aFx I hg hm hv ?_ hn hdb)
 exact PyProof.Rows.callWith_builtin1 (thn (ha pos pins s σ H _ I h) fun us s1 ⟨vs,H1,I1,r1,q1⟩=>hc pins s1 σ H1 vs us Q I1 r1 q1) he hpl
theorem wR(hc:mC X (.type T) r)(hg:Gl X x)(hm:X.mg x=none)(hv:bootBuiltins x=some (.type T))(ha:PA X (e :: es) t)(hn:x ≠ "__name__" := by decide)(hdb:(x==("__debug__" : Str))=false:=by decide)
  (he:starEach (e :: es) X.env=(false,eval e X.env) :: starEach es X.env:=by rfl) (hpl:(backTo pos (starEach es X.env)).any (·.1)=false:=by rfl):PE X (.Call (.Name x p) (e :: es) [] pos) (tCB r t):=by
 intro pins s σ H Q I h
 refine wpAny_Call_Name_kw (aFx I hg hm hv ?_ hn hdb)
 exact PyProof.Rows.callWith_type1 (thn (ha pos pins s σ H _ I h) fun us s1 ⟨vs,H1,I1,r1,q1⟩=>hc pins s1 σ H1 vs us Q I1 r1 q1) he hpl
end
end L2
namespace HT
open PySem PyProof.Rows
section
open PySem.SeqAt
open PySem.AutoSeq1 (wpAny_loadPart')
open PySem.MeetsSeq PySem.MeetsSeq2 PySem.MeetsSeq3
end
section
variable{prog:Program}{w:World}{A:Around}{E:Value->Shared->Prop}{s:Shared}
def sIx(n d:Nat):Option Int->Nat
 | none=>d
 | some v=>if v < 0 then (v+(n:Int)).toNat else min v.toNat n
theorem sIx_none(n d:Nat):sIx n d none=d:=rfl
theorem sIx_nat(n d k:Nat):sIx n d (some (k:Int))=min k n:=by
 show (if (k:Int) < 0 then ((k:Int)+(n:Int)).toNat else min (k:Int).toNat n)=min k n
 rw [if_neg (by omega),Int.toNat_natCast]
end
end HT
namespace L2
open PySem PySem.Spec PyProof.Rows
abbrev TO:=St->Hp->(Option Int->Hp->Prop)->Prop
def PO(X:Cx)(e:Option Expr)(t:TO):Prop :=
 ∀ (pins:List (Addr × Obj)) (s:Shared) (σ:St) (H:Hp) (Q:Option Int->Hp->Prop),Inv X pins σ H s->t σ H Q ->
  wpAny (model X.prog X.w) X.A (evalPart e X.env) (fun u s'=>∃ o H',Inv X pins σ H' s'/\IsPart u o/\Q o H') X.xe s
def aZy:TO:=fun _ H Q=>Q none H
def bHv(t:TE):TO:=fun σ H Q=>t σ H fun x H1=>∃ i,x = .int i/\Q (some i) H1
section
variable{X:Cx}{e:Expr}{te:TE}{lo hi:Option Expr}{tl th:TO}{pos p2:Pos}
theorem aZz:PO X none aZy:=by
 intro pins s σ H Q I h
 rw [evalPart_none]
 exact wpAny_pure ⟨none,H,I,.none,h⟩
theorem bA0(h:PE X e te):PO X (some e) (bHv te):=by
 intro pins s σ H Q I hw
 rw [evalPart_some]
 refine thn (h pins s σ H _ I hw) fun u s1 ⟨x,H1,I1,r1,q1⟩=>?_
 obtain ⟨i,rfl,q⟩:=q1
 obtain ⟨t,rfl⟩:=r1
 exact ⟨some i,H1,I1,.int i t,q⟩
def SlR(X:Cx)(r:V->Option Int->Option Int->Hp->VK->Prop):Prop :=
 ∀ (pins:List (Addr × Obj)) (s:Shared) (σ:St) (H:Hp) (x:V) (v vl vu:Value) (lo hi:Option Int) (sl:Addr) (Q:VK),Inv X pins σ H s->RelV x v->s.heap.IsSliceOf sl vl vu .none->IsPart vl lo->IsPart vu hi->r x lo hi H Q ->
  ∃ T id,typeLookup (.type T) "__getitem__" = pure (some (.builtin id))/\s.TypeIs v T/\wpAny (model X.prog X.w) X.A (getItem v (.ref sl)) (EP X pins σ Q) X.xe s
theorem SlR.or{r r':V->Option Int->Option Int->Hp->VK->Prop}(h:SlR X r)(h':SlR X r'):SlR X (fun x lo hi H Q=>r x lo hi H Q\/r' x lo hi H Q):=by
 intro pins s σ H x v vl vu lo hi sl Q I rx hs pl pu q
 rcases q with q | q
 ·exact h pins s σ H x v vl vu lo hi sl Q I rx hs pl pu q
 ·exact h' pins s σ H x v vl vu lo hi sl Q I rx hs pl pu q
def tSl(r:V->Option Int->Option Int->Hp->VK->Prop)(te:TE)(tl th:TO):TE:=fun σ H Q=>te σ H fun x H1=>tl σ H1 fun l H2=>th σ H2 fun u H3=>r x l u H3 Q
theorem aOb{r:V->Option Int->Option Int->Hp->VK->Prop}(hr:SlR X r)(he:PE X e te)(hl:PO X lo tl)(hu:PO X hi th):PE X (.Subscript e (.Slice lo hi none p2) pos) (tSl r te tl th):=by
 intro pins s σ H Q I h
 refine Subscript_ (thn (he pins s σ H _ I h) fun v s1 ⟨x,H1,I1,r1,q1⟩=>?_)
 refine wpAny_Slice (thn (hl pins s1 σ H1 _ I1 q1) fun vl s2 ⟨l,H2,I2,pl,q2⟩=>thn (hu pins s2 σ H2 _ I2 q2) fun vu s3 ⟨u,H3,I3,pu,q3⟩=>?_)
 rw [evalPart_none]
 refine wpAny_pure ?_
 have I4:Inv X pins σ H3 { s3 with heap:=s3.heap.push { cls := .type "slice", data := .fields #[vl,vu,.none] } }:=I3.kept (t':=s3.toks) fun b ob q=>Heap.get?_push_of_some _ q
 obtain ⟨T,id,hT,ht,hg⟩:=hr pins { s3 with heap:=s3.heap.push { cls := .type "slice", data := .fields #[vl,vu,.none] } } σ H3 x v vl vu l u s3.heap.objs.size Q I4 r1 (Heap.IsSliceOf.new ..) pl pu q3
 show wpAny (model X.prog X.w) X.A (subscriptTail e (.Slice lo hi none p2) v (.ref s3.heap.objs.size)) (EP X pins σ Q) X.xe { s3 with heap:=s3.heap.push { cls := .type "slice", data := .fields #[vl,vu,.none] } }
 exact tail_any (ops:=[.ref s3.heap.objs.size,v]) ht hT hg (by with_unfolding_all rfl)
def aUh(xs:List V)(lo hi:Option Int):List V:=(xs.drop (HT.sIx xs.length 0 lo)).take (HT.sIx xs.length xs.length hi - HT.sIx xs.length 0 lo)
theorem aOc(xs:List V)(lo hi:Option Int):(aUh xs lo hi).length<=xs.length:=by
 unfold aUh
 rw [List.length_take,List.length_drop]
 omega
end
end L2
namespace L2
open PySem PySem.Spec PyProof.Rows
def ixN(n:Nat)(i:Int):Option Nat:=if 0<=i then (if i < n then some i.toNat else none) else if -(n:Int)<=i then some (i+n).toNat else none
def atI{α:Type}(xs:List α)(i:Int):Option α:=(ixN xs.length i).bind fun j=>xs[j]?
theorem bA1{n:Nat}{i:Int}{j:Nat}(h:ixN n i=some j):seqIndex? i n=some j/\j < n /\ -(n:Int)<=i/\i < n:=by
 unfold ixN at h
 by_cases h0:0<=i
 ·rw [if_pos h0] at h
  by_cases h1:i < n
  ·rw [if_pos h1] at h
   have e:i.toNat=j:=Option.some.inj h
   exact ⟨by rw [seqIndex_of h0 h1,e],by omega,by omega,h1⟩
  ·rw [if_neg h1] at h;cases h
 ·rw [if_neg h0] at h
  by_cases h1 : -(n:Int)<=i
  ·rw [if_pos h1] at h
   have e:(i+n).toNat=j:=Option.some.inj h
   exact ⟨by rw [seqIndex_neg (by omega) h1,e],by omega,h1,by omega⟩
  ·rw [if_neg h1] at h;cases h
theorem aMn{α:Type}{xs:List α}{i:Int}{v:α}(h:atI xs i=some v):∃ j,seqIndex? i xs.length=some j/\xs[j]?=some v/\j < xs.length /\ -(xs.length:Int)<=i/\i < xs.length:=by
 unfold atI at h
 cases e:ixN xs.length i with
 | none=>rw [e] at h;cases h
 | some j =>
  rw [e] at h
  obtain ⟨h1,h2,h3,h4⟩:=bA1 e
  exact ⟨j,h1,h,h2,h3,h4⟩
theorem atI_nat{α:Type}{xs:List α}{j:Nat}{v:α}(h:xs[j]?=some v):atI xs (j:Int)=some v:=by
 have hj:j < xs.length:=(List.getElem?_eq_some_iff.mp h).1
 have e:ixN xs.length (j:Int)=some j:=by
  unfold ixN
  rw [if_pos (by omega),if_pos (by omega)];simp
 unfold atI;rw [e];exact h
theorem atI_last{α:Type}(xs:List α)(v:α):atI (xs++[v]) (-1)=some v:=by
 have hl:(xs++[v]).length=xs.length+1:=by simp
 have e:ixN (xs++[v]).length (-1)=some xs.length:=by
  unfold ixN
  rw [hl,if_neg (by decide),if_pos (by omega)]
  congr 1
  omega
 unfold atI
 rw [e]
 show (xs++[v])[xs.length]?=some v
 simp
def aS3(b:Expr):Prop:=∀ o i,subscripted b false o i=operate [o,i] (getItem o i)
def IxR(X:Cx)(r:R2):Prop :=
 ∀ (value slice:Expr) (pins:List (Addr × Obj)) (s:Shared) (σ:St) (H:Hp) (x y:V) (v u:Value) (Q:VK),Inv X pins σ H s->RelV x v->RelV y u->r x y H Q ->
  subscripted slice false v u=operate [v,u] (getItem v u)->wpAny (model X.prog X.w) X.A (subscriptTail value slice v u) (EP X pins σ Q) X.xe s
def MtR(X:Cx)(id:String)(r:V->List V->Hp->VK->Prop):Prop :=
 ∀ (pins:List (Addr × Obj)) (s:Shared) (σ:St) (H:Hp) (x:V) (xs:List V) (v:Value) (us:List Value) (Q:VK),Inv X pins σ H s->RelV x v->Vals xs us->r x xs H Q ->
  wpAny (model X.prog X.w) X.A (call (.builtin id) (v :: us)) (EP X pins σ Q) X.xe s
section
variable{X:Cx}{a b:Expr}{ta tb:TE}{pos:Pos}
theorem IxR.or{r r':R2}(h:IxR X r)(h':IxR X r'):IxR X (fun x y H Q=>r x y H Q\/r' x y H Q):=by
 intro value slice pins s σ H x y v u Q I rx ry q hs
 rcases q with q | q
 ·exact h value slice pins s σ H x y v u Q I rx ry q hs
 ·exact h' value slice pins s σ H x y v u Q I rx ry q hs
theorem bHw{r:R2}(hr:IxR X r)(ha:PE X a ta)(hb:PE X b tb)(hs:aS3 b):PE X (.Subscript a b pos) (tOp r ta tb):=by
 intro pins s σ H Q I h
 exact Subscript_ (bE0 ha hb I h fun v u s2 x y H2 I2 rx ry q=>hr a b pins s2 σ H2 x y v u Q I2 rx ry q (hs _ _))
def bHx(K:PySem.W.Frag):R2:=fun x y H Q=>∃ p xs i v,x = .ref p/\y = .int i/\SqL K H p xs/\atI xs i=some v/\Q v H
def bHy(K:PySem.W.Frag):R2:=fun x y H Q=>∃ p xs i v,x = .ref p/\y = .int i/\SqT K H p xs/\atI xs i=some v/\Q v H
def bHz:R2:=fun x y H Q=>∃ z i c,x = .str z/\y = .int i/\z.length<=sizeLine/\atI z.cps.toList i=some c/\Q (.str ⟨#[c]⟩) H
theorem bA2:IxR X (bHx X.K):=by
 intro value slice pins s σ H x y v u Q I rx ry h hs
 obtain ⟨p,xs,i,z,rfl,rfl,hq,he,q⟩:=h
 cases rx
 obtain ⟨t,rfl⟩:=ry
 obtain ⟨its,r,pl,hz⟩:=I.list hq
 obtain ⟨j,h1,h2,h3,h4,h5⟩:=aMn he
 obtain ⟨w,ew,rw'⟩:=r.get h2
 have hl:=r.length
 have hn:=aIh
 have fin:EP X pins σ Q w s:=⟨z,H,I,rw',q⟩
 by_cases h0:0<=i
 ·have hj:i.toNat=j:=by
   rw [seqIndex_of h0 h5] at h1
   exact Option.some.inj h1
  exact item_listR pl.isList h0 (by omega) (by rw [hj];simpa using ew) fin hs
 ·have hj:(i+(its.toArray.size:Int)).toNat=j:=by
   rw [seqIndex_neg (by omega) h4] at h1
   rw [List.size_toArray,<-hl]
   exact Option.some.inj h1
  exact subscriptTail_builtinR (x:=w) pl.isList.typeIs slot_list_getitem.lookup
   (wpAny_getItem_list_neg (Q:=fun r s'=>r=w/\EP X pins σ Q r s') pl.isList (by omega) (by rw [List.size_toArray] <;> omega) (by omega) (by rw [hj];simpa using ew) ⟨rfl,fin⟩) hs
theorem bEe:IxR X (bHy X.K):=by
 intro value slice pins s σ H x y v u Q I rx ry h hs
 obtain ⟨p,xs,i,z,rfl,rfl,hq,he,q⟩:=h
 cases rx
 obtain ⟨t,rfl⟩:=ry
 obtain ⟨its,r,pl,hz⟩:=I.tuple hq
 obtain ⟨j,h1,h2,h3,h4,h5⟩:=aMn he
 obtain ⟨w,ew,rw'⟩:=r.get h2
 have hl:=r.length
 have hn:=aIh
 have fin:EP X pins σ Q w s:=⟨z,H,I,rw',q⟩
 exact subscriptTail_builtinR (x:=w) pl.typeIs slot_tuple_getitem.lookup
  (getItem_tuple (j:=j) (Q:=fun r s'=>r=w/\EP X pins σ Q r s') pl (by omega) (by omega) (by rw [List.size_toArray,<-hl];exact h1) (by simpa using ew) ⟨rfl,fin⟩) hs
theorem bEf:IxR X bHz:=by
 intro value slice pins s σ H x y v u Q I rx ry h hs
 obtain ⟨z,i,c,rfl,rfl,hz,he,q⟩:=h
 obtain ⟨t,rfl⟩:=rx
 obtain ⟨t',rfl⟩:=ry
 obtain ⟨j,h1,h2,h3,h4,h5⟩:=aMn he
 have hl:z.cps.toList.length=z.length:=by simp [Str.length]
 rw [hl] at h1 h4 h5
 have hn:=aIh
 exact tail_any (typeIs_str s z t) slot_str_getitem.lookup (getItem_str (c:=c) (by
  have e1:decide (i < -(2 ^ 63:Int))=false:=decide_eq_false (by omega)
  have e2:decide (i ≥ 2 ^ 63)=false:=decide_eq_false (by omega)
  rw [e1,e2,Bool.or_false]) (by rw [h1];simpa using h2) ⟨.str ⟨#[c]⟩,H,I.tok _,⟨_,rfl⟩,q⟩) hs
def rIx(K:PySem.W.Frag):R2:=fun x y H Q=>bHx K x y H Q\/bHy K x y H Q\/bHz x y H Q
theorem bEg:IxR X (rIx X.K):=bA2.or (bEe.or bEf)
theorem aMo(lo hi:Option Int)(n:Nat):(sliceBounds lo hi none n).1=((HT.sIx n 0 lo:Nat):Int)/\(sliceBounds lo hi none n).2.1=((HT.sIx n n hi:Nat):Int)/\(sliceBounds lo hi none n).2.2=1:=by
 refine ⟨?_,?_,rfl⟩
 ·cases lo with
  | none=>simp [sliceBounds,HT.sIx]
  | some i =>
   simp only [sliceBounds,HT.sIx,Option.getD_none,show (1:Int) > 0 by decide,if_true]
   by_cases h:i < 0
   ·simp only [h,if_true] <;> omega
   ·simp only [h,if_false] <;> omega
 ·cases hi with
  | none=>simp [sliceBounds,HT.sIx]
  | some i =>
   simp only [sliceBounds,HT.sIx,Option.getD_none,show (1:Int) > 0 by decide,if_true]
   by_cases h:i < 0
   ·simp only [h,if_true] <;> omega
   ·simp only [h,if_false] <;> omega
theorem aKh(its:List Value)(lo hi:Option Int):slicePick its.toArray lo hi none=((its.drop (HT.sIx its.length 0 lo)).take (HT.sIx its.length its.length hi - HT.sIx its.length 0 lo)).toArray:=by
 obtain ⟨h1,h2,h3⟩:=aMo lo hi its.toArray.size
 unfold slicePick
 rw [h1,h2,h3]
 simp only [sliceRange_one,pick_run,List.size_toArray] <;> rfl
def bLl(K:PySem.W.Frag):V->Option Int->Option Int->Hp->VK->Prop:=fun x lo hi H Q=>∃ a xs,x = .ref a/\SqL K H a xs/\∀ p,H p=none->Q (.ref p) (upd H p (.lst (aUh xs lo hi)))
theorem aS4:SlR X (bLl X.K):=by
 intro pins s σ H x v vl vu lo hi sl Q I rx hs pl pu h
 obtain ⟨a,xs,rfl,hx,q⟩:=h
 cases rx
 obtain ⟨its,r,ht,hz⟩:=I.list hx
 have hlen:=r.length
 refine ⟨"list", _,slot_list_getitem.lookup,ht.isList.typeIs,?_⟩
 refine wpAny_getItem_list_slice ht.isList hs pl pu .none (by simp) ?_ (by rw [List.size_toArray] <;> omega)
 rw [aKh,<-hlen]
 refine ⟨.ref s.heap.objs.size,_,I.laid (t':=s.toks) (o := .lst (aUh xs lo hi)) (fun b ob q=>Heap.get?_push_of_some _ q) (Nat.le_refl _) ?_,rfl,q _ (I.hok.fresh (Nat.le_refl _))⟩
 exact ⟨Nat.le_trans (aOc xs lo hi) hz,_,0,(r.drop (HT.sIx xs.length 0 lo)).take (HT.sIx xs.length xs.length hi - HT.sIx xs.length 0 lo),Heap.get?_push_size _ rfl⟩
theorem aMp:mC X (.builtin "len") (fun xs H Q=>∃ p ys,xs=[.ref p]/\(SqL X.K H p ys\/SqT X.K H p ys)/\Q (.int ys.length) H):=by
 intro pins s σ H xs us Q I r h
 obtain ⟨p,ys,rfl,hq,q⟩:=h
 obtain ⟨u,rfl,rx⟩:=vals1 r
 cases rx
 have hn:=aIh
 rcases hq with hq | hq
 ·obtain ⟨its,r',pl,hz⟩:=I.list hq
  have hlen:=r'.length
  exact Calls.call_len_list pl.isList (by simp only [List.size_toArray] <;> omega) ⟨.int ys.length,H,I.tok _,⟨s.toks+1,by rw [List.size_toArray,hlen]⟩,q⟩
 ·obtain ⟨its,r',pl,hz⟩:=I.tuple hq
  have hlen:=r'.length
  exact len_tuple pl (by simp only [List.size_toArray] <;> omega) ⟨.int ys.length,H,I.tok _,⟨s.toks+1,by rw [List.size_toArray,hlen]⟩,q⟩
theorem aMq:mC X (.builtin "len") (fun xs H Q=>∃ z,xs=[.str z]/\z.length<=sizeLine/\Q (.int z.length) H):=by
 intro pins s σ H xs us Q I r h
 obtain ⟨z,rfl,hz,q⟩:=h
 obtain ⟨u,rfl,t,rfl⟩:=vals1 r
 have hn:=aIh
 exact len_str (by omega) ⟨.int z.length,H,I.tok _,⟨_,rfl⟩,q⟩
theorem mC.or{f:Value}{r r':List V->Hp->VK->Prop}(h:mC X f r)(h':mC X f r'):mC X f (fun xs H Q=>r xs H Q\/r' xs H Q):=by
 intro pins s σ H xs us Q I rs q
 rcases q with q | q
 ·exact h pins s σ H xs us Q I rs q
 ·exact h' pins s σ H xs us Q I rs q
def tyV(K:PySem.W.Frag)(T:String)(x:V)(H:Hp):Prop:=match x with
 | .str _=>T = "str"
 | .int _=>T = "int"
 | .ref p=>(T = "list" /\ ∃ xs,SqL K H p xs)\/(T = "tuple" /\ ∃ o,K.lookup p=some o/\o.cls = .type "tuple" /\ o.dict=none) \/
   (T = "dict" /\ ((∃ kvs,H p=some (.dK kvs))\/∃ kvs,H p=some (.dT kvs)))\/(T = "set" /\ ∃ S n,H p=some (.set S n))
 | _=>False
theorem aWd{pins:List (Addr × Obj)}{σ:St}{H:Hp}{s:Shared}{T:String}{x:V}{v:Value}(I:Inv X pins σ H s)(r:RelV x v)(ty:tyV X.K T x H) :
  s.TypeIs v T/\∀ a,v = .ref a->∃ ob,s.heap.get? a=some ob/\ob.dict=none:=by
 cases x with
 | str z =>
  obtain ⟨t,rfl⟩:=r
  cases (show T = "str" from ty)
  exact ⟨typeIs_str s z t,fun _ e=>nomatch e⟩
 | int i =>
  obtain ⟨t,rfl⟩:=r
  cases (show T = "int" from ty)
  exact ⟨typeIs_int s i t,fun _ e=>nomatch e⟩
 | ref p =>
  cases r
  rcases ty with ⟨rfl,xs,hq⟩ | ⟨rfl,o,hk,hc,hd⟩ | ⟨rfl,hk⟩ | ⟨rfl,S,n,hk⟩
  ·obtain ⟨its,_,pl,_⟩:=I.list hq
   refine ⟨pl.isList.typeIs,fun a e=>?_⟩
   cases e
   obtain ⟨o,n,e,c,hd,_⟩:=pl
   exact ⟨o,e,hd⟩
  ·refine ⟨⟨o,I.kIn p o hk,hc⟩,fun a e=>?_⟩
   cases e
   exact ⟨o,I.kIn _ o hk,hd⟩
  ·have z:∃ o,s.heap.get? p=some o/\o.ExactDict:=by
    rcases hk with ⟨kvs,hk⟩ | ⟨kvs,hk⟩
    ·obtain ⟨_,_,_,_,o,_,_,e,ex,_⟩:=I.hok p _ hk
     exact ⟨o,e,ex⟩
    ·obtain ⟨_,_,_,_,o,_,_,e,ex,_⟩:=I.hok p _ hk
     exact ⟨o,e,ex⟩
   obtain ⟨o,e,ex⟩:=z
   refine ⟨⟨o,e,ex.1⟩,fun a e2=>?_⟩
   cases e2
   exact ⟨o,e,ex.2.1⟩
  ·obtain ⟨o,_,_,_,e,ex,_⟩:=I.hok p _ hk
   refine ⟨⟨o,e,ex.1⟩,fun a e2=>?_⟩
   cases e2
   exact ⟨o,e,ex.2.1⟩
 | _=>exact False.elim ty
def bLm(K:PySem.W.Frag)(T:String)(r:V->List V->Hp->VK->Prop)(to:TE):TE:=fun σ H Q=>to σ H fun x H1=>tyV K T x H1/\r x [] H1 Q
def tBM(K:PySem.W.Frag)(T:String)(r:V->List V->Hp->VK->Prop)(to:TE)(t:TA):TE:=fun σ H Q=>to σ H fun x H1=>tyV K T x H1/\t σ H1 fun xs H2=>r x xs H2 Q
variable{o e:Expr}{es:List Expr}{to:TE}{t:TA}{name:Str}{apos cpos:Pos}{T id:String}{r:V->List V->Hp->VK->Prop}
theorem aR0(pa:PlainAttrs T)(slot:Slot T name id)(hty:typeOf (.builtin id)=pure (.type "method_descriptor"))(hm:MtR X id r)(ho:PE X o to)
  (hbase:attributeBase o name X.env (eval o X.env)=eval o X.env:=by rfl) (hline:(apos.endLine==cpos.line)=true:=by rfl):PE X (.Call (.Attribute o name apos) [] [] cpos) (bLm X.K T r to):=by
 intro pins s σ H Q I h
 refine wpAny_Call_method0_late hbase hline (thn (ho pins s σ H _ I h) fun v s1 ⟨x,H1,I1,r1,ty,q1⟩=>?_)
 obtain ⟨h1,h2⟩:=aWd I1 r1 ty
 exact ⟨T,id,pa,slot,hty,h1,h2,Calls.callWith_builtin rfl (PySem.evalArgs_none (hm pins s1 σ H1 x [] v [] Q I1 r1 .nil q1))⟩
theorem aS5(pa:PlainAttrs T)(slot:Slot T name id)(hty:typeOf (.builtin id)=pure (.type "method_descriptor"))(hm:MtR X id r)(ho:PE X o to)(ha:PA X (e :: es) t)
  (hbase:attributeBase o name X.env (eval o X.env)=eval o X.env:=by rfl)
  (hfew:((backTo cpos (starEach (e :: es) X.env)).all (fun x => !x.1)&&(backToKw cpos (keywordEach [] X.env)).all (fun x=>x.1.isSome)
   && decide ((e :: es).length+([]:List Keyword).length+(if ([]:List Keyword).isEmpty then 0 else 1) < 30))=true:=by rfl)
  (hline:(apos.endLine==cpos.line)=true:=by rfl) (hs:starEach (e :: es) X.env=(false,eval e X.env) :: starEach es X.env:=by rfl) (hplain:(backTo cpos (starEach es X.env)).any (·.1)=false:=by rfl) :
  PE X (.Call (.Attribute o name apos) (e :: es) [] cpos) (tBM X.K T r to t):=by
 intro pins s σ H Q I h
 refine wpAny_Call_method_late hbase hfew hline rfl (thn (ho pins s σ H _ I h) fun v s1 ⟨x,H1,I1,r1,ty,q1⟩=>?_)
 obtain ⟨h1,h2⟩:=aWd I1 r1 ty
 refine ⟨T,id,pa,slot,hty,h1,h2,?_⟩
 have hA:=ha cpos pins s1 σ H1 _ I1 q1
 rw [hs] at hA ⊢
 refine Calls.callWith_builtin (by show (false||(backTo cpos (starEach es X.env)).any (·.1))=false;rw [hplain] <;> rfl) (Calls.evalArgs_plain ?_)
 exact thn hA fun us s2 ⟨vs,H2,I2,r2,q2⟩=>hm pins s2 σ H2 x vs v us Q I2 r1 r2 q2
end
end L2
namespace L2
open PySem PySem.Spec PyProof.Rows
def MtM(X:Cx)(id:String)(r:V->List V->Hp->VK->Prop):Prop :=
 ∀ (pins:List (Addr × Obj)) (s:Shared) (σ:St) (H:Hp) (x:V) (xs:List V) (v:Value) (us:List Value) (Q:VK),Inv X pins σ H s->RelV x v->Vals xs us->r x xs H Q ->
  wpAny (model X.prog X.w) X.A (call (.builtin id) (v :: us)) (EP X pins σ Q) X.xe s
theorem Vals.one:∀ {x:V} {us:List Value},Vals [x] us->∃ u,us=[u]/\RelV x u
 | _,_,.cons r .nil=>⟨_,rfl,r⟩
theorem Vals.two:∀ {x y:V} {us:List Value},Vals [x,y] us->∃ u v,us=[u,v]/\RelV x u/\RelV y v
 | _,_,_,.cons r (.cons q .nil)=>⟨_,_,rfl,r,q⟩
theorem Vals.zero:∀ {us:List Value},Vals [] us->us=[]
 | _,.nil=>rfl
theorem Vals.dropLast{xs:List V}{us:List Value}(h:Vals xs us):Vals xs.dropLast us.dropLast:=by
 induction h with
 | nil=>exact .nil
 | cons r t ih =>
  cases t with
  | nil=>exact .nil
  | cons q t'=>exact .cons r ih
theorem Vals.eraseIdx:∀ {xs:List V} {us:List Value} (i:Nat),Vals xs us->Vals (xs.eraseIdx i) (us.eraseIdx i)
 | _,_,_,.nil => .nil
 | _,_,0,.cons _ t=>t
 | _,_,i+1,.cons r t => .cons r (Vals.eraseIdx i t)
theorem Vals.reverse{xs:List V}{us:List Value}(h:Vals xs us):Vals xs.reverse us.reverse:=by
 induction h with
 | nil=>exact .nil
 | cons r t ih=>rw [List.reverse_cons,List.reverse_cons];exact Vals.append ih (.cons r .nil)
theorem Vals.rep{xs:List V}{us:List Value}(h:Vals xs us):∀ k:Nat,Vals (List.replicate k xs).flatten (List.replicate k us).flatten
 | 0 => .nil
 | k+1=>by
  rw [List.replicate_succ,List.replicate_succ,List.flatten_cons,List.flatten_cons]
  exact Vals.append h (Vals.rep h k)
theorem aR1{α:Type}(l:List α):l.eraseIdx (l.length - 1)=l.dropLast:=by
 induction l with
 | nil=>rfl
 | cons a r ih =>
  cases r with
  | nil=>rfl
  | cons b r =>
   have e:(a :: b :: r).length - 1=((b :: r).length - 1)+1:=by
    have h1:(a :: b :: r).length=r.length+2:=rfl
    have h2:(b :: r).length=r.length+1:=rfl
    omega
   rw [e,List.eraseIdx_cons_succ,ih]
   all_goals rfl
theorem foldl_rep(its:List Value):∀ (k:Nat) (acc:List Value),
  List.foldl (fun x1 x2=>x1++x2) acc.toArray (List.replicate k its.toArray)=(acc++(List.replicate k its).flatten).toArray
 | 0,acc=>by simp
 | k+1,acc=>by
  have e:acc.toArray++its.toArray=(acc++its).toArray:=by simp
  have e2:(acc++its)++(List.replicate k its).flatten=acc++(List.replicate (k+1) its).flatten:=by
   rw [List.replicate_succ,List.flatten_cons,List.append_assoc]
  rw [<-e2,<-foldl_rep its k (acc++its),<-e,List.replicate_succ,List.foldl_cons]
section
variable{X:Cx}{pins:List (Addr × Obj)}{σ:St}{H:Hp}{s:Shared}{l b:Addr}{xs ys zs:List V}
theorem Inv.lset{its its':List Value}{n:Nat}{f:Array Value->Array Value}{t':Nat}(I:Inv X pins σ H s)(hH:H l=some (.lst xs))
  (e:s.heap.get? l=some { cls := .type "list", data := .seq its.toArray n }) (hf:f its.toArray=its'.toArray) (hv:Vals ys its') (hz:ys.length<=sizeLine) :
  Inv X pins σ (upd H l (.lst ys)) { s with heap:=s.heap.update l (Obj.mapSeq f),toks:=t' }:=by
 have q:=PySem.IsL.update e f
 rw [hf] at q
 refine I.write (x:=l) (e:=l) (by rw [hH];exact trivial) (.inl rfl) (fun b' u hb hu=>(Heap.get?_update_other s.heap (Obj.mapSeq f) (Ne.symm hb)).trans hu) ⟨_,q⟩ ?_
 exact ⟨hz,its',_,hv,q⟩
theorem Inv.lnew{its:List Value}{t':Nat}(I:Inv X pins σ H s)(hv:Vals ys its)(hz:ys.length<=sizeLine) :
  Inv X pins σ (upd H s.heap.objs.size (.lst ys)) { s with heap:=s.heap.push { cls := .type "list", data := .seq its.toArray },toks:=t' } :=
 I.laid (fun _ _ q=>Heap.get?_push_of_some _ q) (Nat.le_refl _) ⟨hz,its,0,hv,Heap.get?_push_size _ rfl⟩
theorem Inv.fresh(I:Inv X pins σ H s):H s.heap.objs.size=none:=I.hok.fresh (Nat.le_refl _)
theorem Inv.lstM(I:Inv X pins σ H s)(hH:H l=some (.lst xs)):xs.length<=sizeLine/\∃ (its:List Value) (n:Nat),Vals xs its/\xs.length=its.length/\s.heap.get? l=some { cls := .type "list", data := .seq its.toArray n }:=by
 obtain ⟨z,its,n,r,e⟩:=I.hok l _ hH
 exact ⟨z,its,n,r,r.length,e⟩
theorem aOd{n:Nat}(h:n<=sizeLine):Builtin.List.listTooLong n=false:=by
 unfold Builtin.List.listTooLong
 exact decide_eq_false (by omega)
end
section
variable{X:Cx}
def bA3:V->List V->Hp->VK->Prop:=fun x vs H Q=>∃ l xs y,x = .ref l/\vs=[y]/\H l=some (.lst xs)/\xs.length < sizeLine/\Q .non (upd H l (.lst (xs++[y])))
theorem aUi:MtM X "list.append" bA3:=by
 intro pins s σ H x vs v us Q I rx rv h
 obtain ⟨l,xs,y,rfl,rfl,hH,hz,q⟩:=h
 cases rx
 obtain ⟨u,rfl,ru⟩:=rv.one
 obtain ⟨z,its,n,r,hl,e⟩:=I.lstM hH
 refine call_meets F.slot_list_append ⟨_,e,rfl⟩ F.entry_list_append (F.args_list_append_2 _ _) (PySem.list_append l its.toArray n u (by rw [List.size_toArray];omega)) ⟨e,?_⟩
 refine ⟨.non,_,I.lset (its':=its++[u]) hH e (by simp) (r.append (.cons ru .nil)) ?_,rfl,q⟩
 rw [List.length_append,List.length_singleton]
 omega
def bA4:V->List V->Hp->VK->Prop:=fun x vs H Q=>∃ l b xs zs,x = .ref l/\vs=[.ref b]/\H l=some (.lst xs)/\H b=some (.lst zs)/\xs.length+zs.length<=sizeLine/\Q .non (upd H l (.lst (xs++zs)))
theorem aUj:MtM X "list.extend" bA4:=by
 intro pins s σ H x vs v us Q I rx rv h
 obtain ⟨l,b,xs,zs,rfl,rfl,hH,hB,hz,q⟩:=h
 cases rx
 obtain ⟨u,rfl,ru⟩:=rv.one
 cases ru
 obtain ⟨z,its,n,r,hl,e⟩:=I.lstM hH
 obtain ⟨z2,its2,n2,r2,hl2,e2⟩:=I.lstM hB
 have hsz:its.toArray.size+its2.toArray.size<=sizeLine:=by rw [List.size_toArray,List.size_toArray];omega
 have hlong:¬ (!its.toArray.isEmpty&&Builtin.List.listTooLong (its.toArray.size+its2.toArray.size))=true:=by
  rw [aOd hsz,Bool.and_false]
  exact Bool.false_ne_true
 refine call_meets F.slot_list_extend ⟨_,e,rfl⟩ F.entry_list_extend (F.args_list_extend_2 _ _)
  (AutoSeq1.list_extend_list_list_0 l its.toArray n b its2.toArray n2 hlong (by rw [List.size_toArray];omega) (by omega)) ⟨e,e2,?_⟩
 refine ⟨.non,_,I.lset (its':=its++its2) hH e (by simp) (r.append r2) ?_,rfl,q⟩
 rw [List.length_append]
 omega
def bLn:V->List V->Hp->VK->Prop:=fun x vs H Q=>∃ l xs y,x = .ref l/\vs=[]/\H l=some (.lst xs)/\xs[xs.length - 1]?=some y/\Q y (upd H l (.lst xs.dropLast))
theorem bEh:MtM X "list.pop" bLn:=by
 intro pins s σ H x vs v us Q I rx rv h
 obtain ⟨l,xs,y,rfl,rfl,hH,hy,q⟩:=h
 cases rx
 have hus:=rv.zero
 subst hus
 obtain ⟨z,its,n,r,hl,e⟩:=I.lstM hH
 obtain ⟨u,hu,ru⟩:=r.get hy
 have hy':its.toArray[its.toArray.size - 1]?=some u:=by
  show its.toArray[its.length - 1]?=some u
  rw [<-Array.getElem?_toList,<-hl]
  exact hu
 refine call_meets F.slot_list_pop ⟨_,e,rfl⟩ F.entry_list_pop (F.args_list_pop_1 _) (MeetsSeq.list_pop_last l its.toArray n u hy' (by rw [List.size_toArray];omega)) ⟨e,?_⟩
 refine ⟨y,_,I.lset (its':=its.dropLast) hH e ?_ r.dropLast ?_,ru,q⟩
 ·show its.toArray.eraseIdxIfInBounds (its.toArray.size - 1)=its.dropLast.toArray
  rw [List.size_toArray,List.eraseIdxIfInBounds_toArray,aR1]
 ·rw [List.length_dropLast]
  omega
def bLo:R2:=fun x y H Q=>∃ l k xs,x = .ref l/\y = .int k/\H l=some (.lst xs) /\ -(2 ^ 63)<=k/\k < 2 ^ 63/\xs.length * k.toNat<=sizeLine /\
 ∀ p,H p=none->Q (.ref p) (upd H p (.lst (List.replicate k.toNat xs).flatten))
theorem len_rep{α:Type}(xs:List α)(k:Nat):(List.replicate k xs).flatten.length=k * xs.length:=by
 induction k with
 | zero=>simp
 | succ k ih=>rw [List.replicate_succ,List.flatten_cons,List.length_append,ih,Nat.succ_mul,Nat.add_comm]
theorem bEi:OpR X (binaryOp .Mult) bLo:=by
 intro pins s σ H x y v u Q I rx ry h
 obtain ⟨l,k,xs,rfl,rfl,hH,h1,h2,hz,q⟩:=h
 cases rx
 obtain ⟨t,rfl⟩:=ry
 obtain ⟨z,its,n,r,hl,e⟩:=I.lstM hH
 have hlen:its.toArray.size * k.toNat<=sizeLine:=by rw [List.size_toArray,<-hl];exact hz
 have hcap:¬ its.toArray.size * k.toNat > (2 ^ 63 - 1) / 8:=by
  have:(sizeLine:Nat)<=(2 ^ 63 - 1) / 8:=by decide
  omega
 have hfit:¬ (!Builtin.List.listFitsIndex k)=true:=by
  rw [fitsIndex_both h1 h2]
  exact Bool.false_ne_true
 have hlong:¬ Builtin.List.listTooLong (its.toArray.size * k.toNat)=true:=by
  rw [aOd hlen]
  exact Bool.false_ne_true
 have hnew:List.foldl (fun x1 x2=>x1++x2) #[] (List.replicate (if its.toArray.isEmpty=true then 0 else k.toNat) its.toArray)=(List.replicate k.toNat its).flatten.toArray:=by
  have f0:∀ m:Nat,List.foldl (fun x1 x2=>x1++x2) #[] (List.replicate m its.toArray)=(List.replicate m its).flatten.toArray:=fun m=>by
   have:=foldl_rep its m []
   rw [List.nil_append] at this
   exact this
  rw [f0]
  cases its with
  | nil=>simp
  | cons a r'=>rw [if_neg (by simp)]
 refine wpAny_binaryOp_repeat_ref (T := "list") (U := "int") (by decide) ⟨_,e,rfl⟩ (fun s'=>typeIs_int s' k t) noFill_list_mul F.fills_int_mul F.slot_int_rmul repeat_list F.slot_int_index.lookup
  (call_meets F.slot_int_rmul (typeIs_int s k t) F.entry_int_rmul (F.args_int_rmul_2 _ _) (int___rmul___int_list k t l its.toArray n)
   ⟨e,rfl,⟨_,e,rfl⟩,call_meets F.slot_list_mul ⟨_,e,rfl⟩ F.entry_list_mul (F.args_list_mul_2 _ _) (AutoListH.list___mul___list_int_3 l its.toArray n k t hfit hcap hlong) ⟨e,?_⟩⟩)
 rw [hnew]
 exact ⟨.ref _,_,I.lnew (t':=s.toks) (r.rep k.toNat) (by rw [len_rep,Nat.mul_comm];exact hz),rfl,q _ I.fresh⟩
end
section
variable{prog:Program}{w:World}{A:Around}{E:Value->Shared->Prop}{s:Shared}
end
section
variable{X:Cx}
end
end L2
namespace Att
open PySem PySem.W PySem.Calls PyProof.Rows
theorem aHh{P:Params}{h:Heap}:∀ (ns:List Int) (vs:List Value),WellAll P h vs (ns.map WData.int)->IntsAre vs ns:=by
 intro ns
 induction ns with
 | nil =>
  intro vs w
  rw [List.map_nil] at w
  cases w
  exact .nil
 | cons n ns ih =>
  intro vs w
  rw [List.map_cons] at w
  cases w with
  | cons a b =>
   cases a
   exact .cons _ _ (ih _ b)
theorem aUk{l:OpenLaw}{n:Nat}(hn:l.most=some n){P:Params}{h:Heap}{args:List WData}{vals:List Value}
  (hpre:l.row.toRowW.claim.pre args=true) (hwl:WellAll P h vals args) :
  ∃ a vs ns,vals=[Value.ref a]/\args=[WData.list (ns.map WData.int)]/\h.get? a=some { cls := .type "list", data := .seq vs.toArray }/\IntsAre vs ns/\ns.length<=n:=by
 have hsh:WShape.hasAll [] args [.list .int]=true:=(pre_splitW hpre).1
 have hc:l.pre.holds [] { args:=args }=true:=(pre_splitW hpre).2
 obtain ⟨d,r,rfl,h1,h2⟩:=hasAllW_cons hsh
 obtain rfl:=hasAllW_nil h2
 obtain ⟨xs,rfl,h3⟩:=hasW_list h1
 obtain ⟨ns,rfl⟩:=items_int h3
 have hlen:ns.length<=n:=by
  unfold OpenLaw.pre at hc
  have h4:(WTm.not (.lt (.lit (.int (n:Int))) (.len (.arg 0)))).holds [] { args:=[.list (ns.map .int)] }=true:=by
   have h4:=(holds_andW hc).1
   rw [hn] at h4
   exact h4
  have h5:=condW_of h4 (w_not (w_lt w_lit (w_len_list (w_arg rfl))))
  rw [List.length_map] at h5
  refine Nat.le_of_not_lt fun q=>?_
  have q':(n:Int) < ((ns.length:Nat):Int):=by omega
  first
   | (rw [decide_eq_true q'] at h5;exact absurd h5 (by decide))
   | (simp at h5;omega)
 cases hwl with
 | cons w1 w2 =>
  cases w2
  cases w1 with
  | list ho hall=>exact ⟨_,_,ns,rfl,rfl,ho,aHh ns _ hall,hlen⟩
theorem aUl(l:OpenLaw)(args:List WData):l.row.toRowW.claim.post args (.bool true) args=true :=
 postW_of (r:=l.row.toRowW) (X:=(true==true))
  (show WShape.has [] (.bool true) .bool=true by first | rfl | decide | simp [WShape.has,WShape.arms,WShape.armsAll])
  (show (WTm.eq .res (.lit (.bool true))).value [] { args:=args,res:=some (.bool true),after:=args }=some (.bool (true==true)) from w_eq_bool (w_res rfl) w_lit) rfl
theorem attach_call{l:OpenLaw}{n:Nat}{q:Program}{loose:List Str}{XP:(Str->Option Value)->Heap->Prop}{YP:World->Heap->Prop}{d:DefRec}
  (hn:l.most=some n) (hdf:d.params.defaults=[])
  (call:∀ (w:World) (s₀ s₁:Shared) (mg mb:Str->Option Value) (fa:Addr) (o:Obj) (pm cd doc:Value) (a:Addr) (vs:List Value) (ns:List Int),
   Ground q loose [] XP w s₀ mg mb s₁.heap->YP w s₁.heap ->
   s₁.heap.get? fa=some o->o.data = .func (docDef d.name d.params d.body d.scope pm cd doc)->s₁.heap.CodeRec cd d.name->mg d.name=some (.ref fa) ->
   s₁.heap.get? a=some { cls := .type "list", data := .seq vs.toArray }->IntsAre vs ns->ns.length<=n->s₁.gens = #[] ->
   codeAny (model l.prog w) callerA (.call (.ref fa) ⟨[.ref a],[]⟩) (fun r s'=>r = .ok (.ret (.bool true))/\OldK s₁.heap s'.heap/\s'.os=s₁.os/\AllBare s'.gens) s₁) :
  WalkO q loose XP YP l.row.toRowW d [] (fun f vs=>PySem.call f vs):=by
 intro w s₀ s₁ mg mb G Y fa o pm cd doc dV kV ho hd hcd hD hmg hg args vals as hpre hlay hrd hwl hlo
 obtain rfl:dV = .none:=Dflts.none hD hdf
 obtain rfl:kV = .none:=Dflts.noKw hD
 obtain ⟨a,vs,ns,rfl,rfl,hobj,hints,hlen⟩:=aUk hn hpre hwl
 refine enter_call (codeAny_mono (call w s₀ s₁ mg mb fa o pm cd doc a vs ns G Y ho (fd_plain hd) hcd hmg hobj hints hlen hg) fun r s' hq=>?_)
 obtain ⟨rfl,h2,h3,h4⟩:=hq
 exact ⟨.inl ⟨.bool true,.bool true,[],rfl,fun _=>rfl,.bool true,aUl l _,fun _=>⟨List.Pairwise.nil,fun _ hm=>(nomatch hm)⟩⟩,h2,h3,h4⟩
section
variable{prog:Program}{w:World}{A:Around}{E:Value->Shared->Prop}{s:Shared}{K:Frag}
end
end Att
namespace L2
open PySem PySem.Spec PyProof.Rows
theorem vals_ints:∀ {vs:List Value} {ns:List Int},IntsAre vs ns->Vals (ns.map V.int) vs
 | _,_,.nil => .nil
 | _,_,.cons n t h => .cons ⟨t,rfl⟩ (vals_ints h)
def Only(H:Hp):Prop:=∀ b,H b=none\/∃ o xs,H b=some (.frz o (.lst xs))
theorem aWe{P:Program}{w:World}{K:PySem.W.Frag}{mg mb:Str->Option Value}{CX:CXT}{k:Nat}{fa a:Addr}{fd:FuncData}{x:Str}{sp:Sp}{s₁:Shared}{vs:List Value}{ns:List Int}
  (KX:K.In s₁.heap) (hns:s₁.heap.Ns mainGlobals mg) (hb:s₁.heap.Ns builtinsNs mb) (hbb:∀ x:Str,x ≠ "__name__" -> mb x=bootBuiltins x) (hlim:s₁.heap.NoLimit) (hg:s₁.gens = #[])
  (ha:s₁.heap.get? a=some { cls := .type "list", data := .seq vs.toArray }) (hi:IntsAre vs ns) (hl:ns.length<=sizeLine) (hr:Room k callerA)
  (F:∀ base:Heap,K.In base->base.Ns mainGlobals mg->FnOk P w K mg base CX k fa fd [x] sp) (hbind:∀ (s:Shared) (u:Value),BindsTo s fd ⟨[u],[]⟩ [(x,u)])
  (hsp:∀ H:Hp,Only H->SqL K H a (ns.map V.int)->sp [.ref a] H (fun v _=>v = .bl true) fun _ _ _=>False)
  (hCX:∀ H e s',CX [] H s₁ (fun _ _ _=>False) e s'->False) :
  codeAny (model P w) callerA (.call (.ref fa) ⟨[.ref a],[]⟩) (fun r s'=>r = .ok (.ret (.bool true))/\OldK s₁.heap s'.heap/\s'.os=s₁.os/\AllBare s'.gens) s₁:=by
 have rv:=vals_ints hi
 have lenV:=hi.length
 have core:∀ H:Hp,Only H->SqL K H a (ns.map V.int)->HOk P w H s₁.heap->(∀ b,H b≠none->b=a)->(H a≠none->K.lookup a=none) ->
   codeAny (model P w) callerA (.call (.ref fa) ⟨[.ref a],[]⟩) (fun r s'=>r = .ok (.ret (.bool true))/\OldK s₁.heap s'.heap/\s'.os=s₁.os/\AllBare s'.gens) s₁:=by
  intro H hO hS hok hA hK
  have base_of:∀ {b:Addr} {o:Obj},s₁.heap.get? b=some o->H b=none->(aMg s₁.heap H).get? b=some o:=fun e n=>aW0 e n
  have noA:∀ {b:Addr} {o:Obj} {es:Array DictEntry} {ep:Nat},s₁.heap.get? b=some o->o.data = .dict es ep->H b=none:=fun {b o es ep} e d=>by
   cases q:H b with
   | none=>rfl
   | some u =>
    have e':b=a:=hA b (by rw [q];simp)
    subst e'
    rw [ha] at e;cases e
    have d':Data.seq vs.toArray _=Data.dict es ep:=d
    cases d'
  have nsK:∀ {b:Addr} {m:Str->Option Value},s₁.heap.Ns b m->(aMg s₁.heap H).Ns b m:=fun {b m} ⟨o,es,ep,e,d,r⟩=>⟨o,es,ep,base_of e (noA e d),d,r⟩
  have hKb:K.In (aMg s₁.heap H):=fun b o e=>base_of (KX b o e) (by
   cases q:H b with
   | none=>rfl
   | some u =>
    have e':b=a:=hA b (by rw [q];simp)
    subst e'
    rw [hK (by rw [q];simp)] at e;cases e)
  have hM:Mod K mg (aMg s₁.heap H):=⟨hKb,nsK hns,⟨mb,nsK hb,hbb⟩,let ⟨mc,h1,h2⟩:=hlim;⟨mc,nsK h1,h2⟩⟩
  have e0:Env0 P w K mg (aMg s₁.heap H) callerA [] s₁ H:=⟨rfl,hM,fun b o e=>aZi e,Nat.le_of_eq (aU5 _ _),trivial,fun b hb=>absurd (show b∈([]:List Addr) from hb) (by simp),hok,.of_eq hg⟩
  refine codeAny_mono ((F _ hKb (nsK hns)).run callerA [] s₁ H ⟨[.ref a],[]⟩ [.ref a] [.ref a] _ _ hr e0 (hbind s₁ (.ref a)) (.cons rfl .nil) (hsp H hO hS)) fun r s' h=>?_
  cases r with
  | error e=>exact (hCX H e s' h).elim
  | ok fl =>
   cases fl with
   | next=>exact False.elim h
   | brk=>exact False.elim h
   | cont=>exact False.elim h
   | ret u =>
    obtain ⟨v,H',os,bare,un,hok',r',q⟩:=h
    have q':v = .bl true:=q
    subst q'
    obtain rfl:u=Value.bool true:=r'
    refine ⟨rfl,OldK.of_keep fun b o e=>?_,os,bare⟩
    cases q:H b with
    | none=>exact un.keep b o e q (by intro z;exact absurd (show b∈([]:List Addr) from z) (by simp)) (by simp)
    | some u =>
     rcases hO b with z | ⟨ob,xs,z⟩
     ·rw [q] at z;cases z
     ·have z2:=un.frzs b ob _ z
      obtain ⟨e1,_⟩:=hok b _ z
      obtain ⟨e2,_⟩:=hok' b _ z2
      rw [e] at e1;cases e1
      exact e2
 cases hk:K.lookup a with
 | some o =>
  have e:=KX a o hk
  rw [ha] at e
  cases e
  refine core (fun _=>none) (fun _ => .inl rfl) (.inr ⟨_,vs.toArray,_,hk,rfl,rfl,rfl,by rw [List.size_toArray,lenV];exact hl,by simpa using rv⟩) (fun b u z=>by have z':(none:Option HO)=some u:=z;cases z') (fun b z=>absurd rfl z) fun z=>absurd rfl z
 | none =>
  refine core (fun b=>if b=a then some (.frz { cls := .type "list", data := .seq vs.toArray } (.lst (ns.map V.int))) else none) (fun b=>?_) (.inl (.inr ⟨{ cls := .type "list", data := .seq vs.toArray },if_pos rfl⟩)) (fun b u z=>?_) (fun b z=>?_) fun _=>hk
  ·by_cases hb:b=a
   ·exact .inr ⟨_,_,if_pos hb⟩
   ·exact .inl (if_neg hb)
  ·by_cases hb:b=a
   ·have z':=(if_pos hb).symm.trans z
    cases z'
    subst hb
    exact ⟨ha,by rw [List.length_map];exact hl,vs,_,rv,ha⟩
   ·have z':=(if_neg hb).symm.trans z
    cases z'
  ·by_cases hb:b=a
   ·exact hb
   ·exact absurd (if_neg hb) z
end L2
namespace L2
open PySem PySem.Spec PyProof.Rows
theorem walk_of{l:PySem.W.OpenLaw}{n k:Nat}{q:Program}{loose:List Str}{XP:(Str->Option Value)->Heap->Prop}{YP:World->Heap->Prop}{d:DefRec}{K:Params->PySem.W.Frag}{CX:World->CXT}{sp:World->Sp}{x:Str}
  (hn:l.most=some n) (hn2:n<=sizeLine) (hdf:d.params.defaults=[]) (hr:Room k callerA)
  (hY:∀ (w:World) (h:Heap),YP w h->(K w.params).In h)
  (F:∀ (w:World) (mg:Str->Option Value) (fa:Addr) (h:Heap),(K w.params).In h->h.Ns mainGlobals mg->mg d.name=some (.ref fa) ->
   ∃ fd:FuncData,(∀ (s:Shared) (u:Value),BindsTo s fd ⟨[u],[]⟩ [(x,u)]) /\
    ∀ base:Heap,(K w.params).In base->base.Ns mainGlobals mg->FnOk l.prog w (K w.params) mg base (CX w) k fa fd [x] (sp w))
  (hsp:∀ (w:World) (H:Hp) (a:Addr) (ns:List Int),ns.length<=n->Only H->SqL (K w.params) H a (ns.map V.int)->sp w [.ref a] H (fun v _=>v = .bl true) fun _ _ _=>False)
  (hCX:∀ (w:World) (H:Hp) (s:Shared) (e:Value) (s':Shared),CX w [] H s (fun _ _ _=>False) e s'->False) :
  PySem.W.WalkO q loose XP YP l.row.toRowW d [] (fun f vs=>PySem.call f vs):=by
 refine Att.attach_call hn hdf fun w s₀ s₁ mg mb fa o pm cd doc a vs ns G Y ho hd hcd hmg hobj hints hlen hg=>?_
 have KX:=hY w _ Y
 obtain ⟨fd,hb,hF⟩:=F w mg fa _ KX G.T.g hmg
 exact aWe KX G.T.g G.T.b G.T.builtins G.T.nolimit hg hobj hints (Nat.le_trans hlen hn2) hr hF hb (fun H hO hS=>hsp w H a ns hlen hO hS) fun H e s'=>hCX w H s₁ e s'
end L2
namespace L2
open PySem PySem.Spec PyProof.Rows
def cP(s:Stmt):Arguments:=match s with
 | .FunctionDef _ a _ _ _ _ _ _ _ _=>a
 | _=>{ posonlyargs:=[],args:=[],vararg:=none,kwonlyargs:=[],kw_defaults:=[],kwarg:=none,defaults:=[] }
def cA(s:Stmt):List Stmt:=match s with
 | .FunctionDef _ _ b _ _ _ _ _ _ _=>b
 | _=>[]
def aF(s:Stmt):Scope:=match s with
 | .FunctionDef _ _ _ _ _ _ sc _ _ _=>sc
 | _=>{ kind := .function,names:=[],isGenerator:=false,isCoroutine:=false }
abbrev CX0:CXT:=fun _ _ _ _ _ _=>False
abbrev E0:XK:=fun _ _ _=>False
theorem aEa{X:Cx}:aAl CX0 X E0:=fun _ _ _ _ _ _ _ h=>h.elim
structure Fun(K:PySem.W.Frag)(x qual:Str)(st:Stmt)(f:Addr)(fd:FuncData):Prop where
 ex:∃ (oc:Value) (od:Option Addr) (kV doc pm:Value) (an:Option Addr) (cdv ct:Value) (osl:Array (Option Value)),
  fd=PySem.W.fnOf x qual (cP st) (cA st) (aF st) .none kV doc pm an cdv ct/\K.lookup f=some ⟨oc,od,.func fd,osl⟩/\PySem.W.codeIn K cdv qual=true
 kp:PySem.W.keepIn K (.ref f)=true
section
variable{P:Program}{w:World}{K:PySem.W.Frag}{mg:Str->Option Value}{base:Heap}
theorem Fun.ok{x qual:Str}{st:Stmt}{f:Addr}{fd:FuncData}{N ps:List Str}{k:Nat}{sp:Sp}(F:Fun K x qual st f fd)(S:FnScope N ps (aF st))(len:∀ vs H Q E,sp vs H Q E->vs.length=ps.length)
  (hbody:∀ (cdv:Value) (A:Around) (outer:List Env) (s:Shared) (H:Hp) (vs:List V) (Q:VK) (E:XK),Room k (A.deeper (envOfC qual (aF st) s.heap.objs.size f cdv))->sp vs H Q E ->
   ∃ t,PSs (aIk CX0 P w K mg base N qual (aF st) f cdv A outer s H E).nox (cA st) t/\t { nx:=fun _ H'=>Q .non H',rt:=Q } (start N vs) H):FnOk P w K mg base CX0 (k+1) f fd ps sp:=by
 obtain ⟨oc,od,kV,doc,pm,an,cdv,ct,osl,rfl,lk,hcd⟩:=F.ex
 refine bCn lk hcd S len fun A outer s H vs Q E hr hsp=>?_
 obtain ⟨t,h,q⟩:=hbody cdv A outer s H vs Q E hr hsp
 exact ⟨t,h.nox,q⟩
theorem Fun.binds{x qual:Str}{st:Stmt}{f:Addr}{fd:FuncData}{ps:List Str}(F:Fun K x qual st f fd)
  (h:∀ (kV doc pm:Value) (an:Option Addr) (cdv ct:Value) (us:List Value),us.length=ps.length->bindArgs (PySem.W.fnOf x qual (cP st) (cA st) (aF st) .none kV doc pm an cdv ct) ⟨us,[]⟩=pure (ps.zip us)):Binds K fd ps []:=by
 obtain ⟨oc,od,kV,doc,pm,an,cdv,ct,osl,rfl,lk,hcd⟩:=F.ex
 exact .all (h kV doc pm an cdv ct)
theorem bEj{x qual:Str}{st:Stmt}{f:Addr}{oc:Value}{od an:Option Addr}{osl:Array (Option Value)}{kV doc pm cdv ct:Value}(l:K.lookup f=some ⟨oc,od,.func (PySem.W.fnOf x qual (cP st) (cA st) (aF st) .none kV doc pm an cdv ct),osl⟩)
  (c:PySem.W.codeIn K cdv qual=true) (k:PySem.W.keepIn K (.ref f)=true):Fun K x qual st f (PySem.W.fnOf x qual (cP st) (cA st) (aF st) .none kV doc pm an cdv ct):=⟨⟨oc,od,kV,doc,pm,an,cdv,ct,osl,rfl,l,c⟩,k⟩
end
section
variable{X:Cx}
theorem pv(i:Nat){x:Str}{pos:Pos}(hN:X.N[i]?=some x:=by rfl)(hv:Vis X.env.scope x:=by first | exact Or.inl rfl | exact Or.inr (Or.inl rfl) | exact Or.inr (Or.inr rfl))(hd:(x==("__debug__" : Str))=false:=by decide)
  (hcd:(x==("__classdict__" : Str))=false:=by decide):PE X (.Name x pos) (bHc i):=yD hN hv hd hcd
end
def bA(H H':Hp):Prop:=∀ b o,H b=some o->H' b=some o
theorem bA.refl(H:Hp):bA H H:=fun _ _ h=>h
theorem bA.trans{H H1 H2:Hp}(a:bA H H1)(b:bA H1 H2):bA H H2:=fun c o h=>b c o (a c o h)
theorem bA.free{H H':Hp}(e:bA H H'){l:Addr}(h:H' l=Option.none):H l=Option.none:=by
 cases q:H l with
 | none=>rfl
 | some o =>
  rw [e l o q] at h
  cases h
theorem bA.seq{K:PySem.W.Frag}{H H':Hp}{a:Addr}{xs:List V}(e:bA H H')(h:SqL K H a xs):SqL K H' a xs:=by
 rcases h with (h | ⟨o,h⟩) | h
 ·exact .inl (.inl (e _ _ h))
 ·exact .inl (.inr ⟨o,e _ _ h⟩)
 ·exact .inr h
end L2
namespace L2
open PySem PySem.Spec PyProof.Rows
section
variable{κ:Type}[DecidableEq κ]
def aEb(kvs:List (κ × V))(k:κ):Option V:=(kvs.find? fun kv=>decide (kv.1=k)).map (·.2)
def putK(kvs:List (κ × V))(k:κ)(v:V):List (κ × V) :=
 if (kvs.any fun kv=>decide (kv.1=k))=true then kvs.map (fun kv=>if kv.1=k then (kv.1,v) else kv) else kvs++[(k,v)]
theorem aAm{p:κ × V}{r:List (κ × V)}{k:κ}(e:p.1=k):aEb (p :: r) k=some p.2:=by simp [aEb,List.find?_cons,e]
theorem aAn{p:κ × V}{r:List (κ × V)}{k:κ}(e:¬ p.1=k):aEb (p :: r) k=aEb r k:=by simp [aEb,List.find?_cons,e]
theorem aOe(k:κ):∀ kvs:List (κ × V),(kvs.any fun kv=>decide (kv.1=k))=(aEb kvs k).isSome
 | []=>rfl
 | p :: r=>by
  rw [List.any_cons]
  by_cases e:p.1=k
  ·simp only [aAm e,decide_eq_true e,Bool.true_or,Option.isSome_some]
  ·rw [aAn e,decide_eq_false e,Bool.false_or];exact aOe k r
theorem aAo(kvs:List (κ × V))(k:κ)(v:V):(putK kvs k v).length<=kvs.length+1:=by
 unfold putK
 split
 ·rw [List.length_map];omega
 ·rw [List.length_append,List.length_cons,List.length_nil];omega
theorem yC.isSome_eq{o:Option V}{u:Option Value}(r:yC o u):o.isSome=u.isSome:=by
 cases o with
 | none=>cases u with
  | none=>rfl
  | some _=>exact (show False from r).elim
 | some _=>cases u with
  | none=>exact (show False from r).elim
  | some _=>rfl
theorem yC.getD{o:Option V}{u:Option Value}{d:V}{d':Value}(r:yC o u)(rd:RelV d d'):RelV (o.getD d) (u.getD d'):=by
 cases o with
 | none=>cases u with
  | none=>exact rd
  | some _=>exact (show False from r).elim
 | some _=>cases u with
  | none=>exact (show False from r).elim
  | some _=>exact r
theorem KV.val{kvs:List (κ × V)}{vs:List (κ × Value)}(r:KV kvs vs)(k:κ):yC (aEb kvs k) (valueAt vs k):=by
 unfold KV at r
 induction r with
 | nil=>exact True.intro
 | @cons p q ps qs h t ih =>
  obtain ⟨h1,h2⟩:=h
  by_cases e:p.1=k
  ·have e':q.1=k:=h1.symm.trans e
   have b:valueAt (q :: qs) k=some q.2:=by simp [valueAt,List.find?_cons,e']
   rw [aAm e,b];exact h2
  ·have e':¬ q.1=k:=fun z=>e (h1.trans z)
   have b:valueAt (q :: qs) k=valueAt qs k:=by simp [valueAt,List.find?_cons,e']
   rw [aAn e,b];exact ih
theorem KV.any{kvs:List (κ × V)}{vs:List (κ × Value)}(r:KV kvs vs)(k:κ):(kvs.any fun kv=>decide (kv.1=k))=vs.any fun kv=>decide (kv.1=k):=by
 unfold KV at r
 induction r with
 | nil=>rfl
 | cons h t ih=>rw [List.any_cons,List.any_cons,ih,h.1]
theorem KV.repl{kvs:List (κ × V)}{vs:List (κ × Value)}(r:KV kvs vs)(k:κ){y:V}{u:Value}(ry:RelV y u) :
  KV (kvs.map fun kv=>if kv.1=k then (kv.1,y) else kv) (vs.map fun kv=>if kv.1=k then (kv.1,u) else kv):=by
 unfold KV at r ⊢
 induction r with
 | nil=>exact .nil
 | @cons p q ps qs h t ih =>
  rw [List.map_cons,List.map_cons]
  refine .cons ?_ ih
  obtain ⟨h1,h2⟩:=h
  by_cases e:p.1=k
  ·rw [if_pos e,if_pos (h1.symm.trans e)];exact ⟨h1,ry⟩
  ·rw [if_neg e,if_neg (fun z=>e (h1.trans z))];exact ⟨h1,h2⟩
theorem KV.put{kvs:List (κ × V)}{vs:List (κ × Value)}(r:KV kvs vs)(k:κ){y:V}{u:Value}(ry:RelV y u):KV (putK kvs k y) (stored vs k u):=by
 unfold putK stored
 rw [r.any k]
 by_cases e:(vs.any fun kv=>decide (kv.1=k))=true
 ·rw [if_pos e,if_pos e];exact r.repl k ry
 ·rw [if_neg e,if_neg e];exact Paired.snoc r ⟨rfl,ry⟩
theorem KV.length{kvs:List (κ × V)}{vs:List (κ × Value)}(r:KV kvs vs):kvs.length=vs.length:=Paired.length r
end
theorem aIl{P:Program}{w:World}{k:Key}{u:Value}(r:RelV (kV k) u):(eX P w).is k u=true:=by
 cases k with
 | inl i=>obtain ⟨t,e⟩:=(show ∃ t,u=Value.int i t from r);subst e;exact aO6 P w i t
 | inr x=>obtain ⟨t,e⟩:=(show ∃ t,u=Value.str x t from r);subst e;exact aO7 P w x t
theorem aL1{P:Program}{w:World}:∀ {ks:List Key} {us:List Value},Vals (ks.map kV) us->ItemsAre (eX P w) ks us
 | [],_,r=>by rw [List.map_nil] at r;cases r;exact .nil
 | k :: ks,_,r=>by
  rw [List.map_cons] at r
  cases r with
  | cons h t=>exact .cons (aIl h) (aL1 t)
abbrev KT(H:Hp):List (List Key × V)->List (List Key × Addr × Value)->Prop:=Paired fun p q=>p.1=q.1/\H q.2.1=some (.tup (p.1.map kV))/\RelV p.2 q.2.2
theorem KT.val{H:Hp}{kvs:List (List Key × V)}{xs:List (List Key × Addr × Value)}(r:KT H kvs xs)(k:List Key):yC (aEb kvs k) ((atKey xs k).map (·.2)):=by
 induction r with
 | nil=>exact True.intro
 | @cons p q ps qs h t ih =>
  obtain ⟨h1,_,h2⟩:=h
  by_cases e:p.1=k
  ·have e':q.1=k:=h1.symm.trans e
   have b:atKey (q :: qs) k=some q.2:=by simp [atKey,List.find?_cons,e']
   rw [aAm e,b];exact h2
  ·have e':¬ q.1=k:=fun z=>e (h1.trans z)
   have b:atKey (q :: qs) k=atKey qs k:=by simp [atKey,List.find?_cons,e']
   rw [aAn e,b];exact ih
theorem KT.repl{H:Hp}{kvs:List (List Key × V)}{xs:List (List Key × Addr × Value)}(r:KT H kvs xs)(k:List Key){y:V}{u:Value}(ry:RelV y u) :
  KT H (kvs.map fun kv=>if kv.1=k then (kv.1,y) else kv) (xs.map (putAt k u)):=by
 induction r with
 | nil=>exact .nil
 | @cons p q ps qs h t ih =>
  rw [List.map_cons,List.map_cons]
  refine .cons ?_ ih
  obtain ⟨h1,h2,h3⟩:=h
  unfold putAt
  by_cases e:p.1=k
  ·rw [if_pos e,if_pos (h1.symm.trans e)];exact ⟨h1,h2,ry⟩
  ·rw [if_neg e,if_neg (fun z=>e (h1.trans z))];exact ⟨h1,h2,h3⟩
theorem KT.put{H:Hp}{kvs:List (List Key × V)}{xs:List (List Key × Addr × Value)}(r:KT H kvs xs)(k:List Key){b:Addr}{y:V}{u:Value}(hb:H b=some (.tup (k.map kV)))(ry:RelV y u) :
  KT H (putK kvs k y) (storedH xs k b u):=by
 have e:(kvs.any fun kv=>decide (kv.1=k))=(atKey xs k).isSome:=by
  rw [aOe,(r.val k).isSome_eq,Option.isSome_map]
 unfold putK storedH
 rw [e]
 by_cases q:(atKey xs k).isSome=true
 ·rw [if_pos q,if_pos q];exact r.repl k ry
 ·rw [if_neg q,if_neg q];exact Paired.snoc r ⟨rfl,hb,ry⟩
theorem KT.keeps{H H':Hp}{kvs:List (List Key × V)}{xs:List (List Key × Addr × Value)}(r:KT H kvs xs)(ht:∀ b ys,H b=some (.tup ys)->H' b=some (.tup ys)):KT H' kvs xs :=
 Paired.mapP r fun _ _ z=>⟨z.1,ht _ _ z.2.1,z.2.2⟩
section
variable{P:Program}{w:World}{H:Hp}{h:Heap}{a:Addr}
theorem bCo{u:HO}(ok:HOk P w H h)(e:Rd H a u):iI P w H h a u:=e.ok ok
theorem aGq{kvs:List (Key × V)}(ok:HOk P w H h)(e:Rd H a (.dK kvs)):kvs.length<=sizeLine/\(a==sysModules)=false/\∃ vs,KV kvs vs/\h.DictOf (eX P w) a vs :=
 show iI P w H h a (.dK kvs) from bCo ok e
theorem aOf{kvs:List (Key × V)}(ok:HOk P w H h)(e:H a=some (.dK kvs)):kvs.length<=sizeLine/\(a==sysModules)=false/\∃ vs,KV kvs vs/\h.DictOf (eX P w) a vs:=aGq ok (.inl e)
theorem aG0{ks:List Key}(ok:HOk P w H h)(e:H a=some (.tup (ks.map kV))):(tupleKind (eX P w)).is h ks a:=by
 obtain ⟨_,its,r,o,h1,h2,n,h3⟩:=(show iI P w H h a (.tup (ks.map kV)) from ok a _ e)
 exact ⟨o,its.toArray,n,h1,h2,h3,by simpa using aL1 r⟩
theorem aIm{kvs:List (List Key × V)}(ok:HOk P w H h)(e:Rd H a (.dT kvs)):kvs.length<=sizeLine/\(a==sysModules)=false /\
  ∃ xs,KT H kvs xs/\h.DictOfH (tupleKind (eX P w)) a xs:=by
 obtain ⟨z,y,xs,r,o,es,ep,h1,h2,h3,h4,h5⟩:=(show iI P w H h a (.dT kvs) from bCo ok e)
 refine ⟨z,y,xs,r,o,es,ep,h1,h2,h3,h4,fun x hx=>?_,h5⟩
 have all:∀ {l:List (List Key × V)} {m:List (List Key × Addr × Value)},KT H l m->∀ x∈m,(tupleKind (eX P w)).is h x.1 x.2.1:=by
  intro l m q
  induction q with
  | nil=>intro x hx;exact nomatch hx
  | @cons p q ps qs hq t ih =>
   intro x hx
   rcases List.mem_cons.mp hx with e | hx
   ·subst e
    exact aG0 ok (by rw [<-hq.1];exact hq.2.1)
   ·exact ih x hx
 exact all r x hx
theorem bI0{kvs:List (List Key × V)}(ok:HOk P w H h)(e:H a=some (.dT kvs)):kvs.length<=sizeLine/\(a==sysModules)=false /\
  ∃ xs,KT H kvs xs/\h.DictOfH (tupleKind (eX P w)) a xs:=aIm ok (.inl e)
end
def aCr(H:Hp)(a:Addr)(y:V)(r:Option V):Prop :=
 (∃ kvs k,Rd H a (.dK kvs)/\y=kV k/\r=aEb kvs k)\/∃ kvs k b,Rd H a (.dT kvs)/\y = .ref b/\H b=some (.tup (k.map kV))/\r=aEb kvs k
def aMr(H:Hp)(a:Addr)(y v:V)(H':Hp):Prop :=
 (∃ kvs k,H a=some (.dK kvs)/\y=kV k/\kvs.length < sizeLine/\H'=upd H a (.dK (putK kvs k v))) \/
 ∃ kvs k b,H a=some (.dT kvs)/\y = .ref b/\H b=some (.tup (k.map kV))/\kvs.length < sizeLine/\H'=upd H a (.dT (putK kvs k v))
theorem aCr.k{H:Hp}{a:Addr}{kvs:List (Key × V)}{k:Key}(e:H a=some (.dK kvs)):aCr H a (kV k) (aEb kvs k) := .inl ⟨kvs,k,.inl e,rfl,rfl⟩
theorem aCr.t{H:Hp}{a b:Addr}{kvs:List (List Key × V)}{k:List Key}(e:H a=some (.dT kvs))(eb:H b=some (.tup (k.map kV))):aCr H a (.ref b) (aEb kvs k) := .inr ⟨kvs,k,b,.inl e,rfl,eb,rfl⟩
theorem aMr.k{H:Hp}{a:Addr}{kvs:List (Key × V)}{k:Key}{v:V}(e:H a=some (.dK kvs))(hl:kvs.length < sizeLine):aMr H a (kV k) v (upd H a (.dK (putK kvs k v))) := .inl ⟨kvs,k,e,rfl,hl,rfl⟩
theorem aMr.t{H:Hp}{a b:Addr}{kvs:List (List Key × V)}{k:List Key}{v:V}(e:H a=some (.dT kvs))(eb:H b=some (.tup (k.map kV)))(hl:kvs.length < sizeLine) :
  aMr H a (.ref b) v (upd H a (.dT (putK kvs k v))) := .inr ⟨kvs,k,b,e,rfl,eb,hl,rfl⟩
section
variable{X:Cx}{pins:List (Addr × Obj)}{σ:St}{H:Hp}{s:Shared}{a:Addr}{y v:V}{u r:Value}{o:Option V}{A:Around}{E:Value->Shared->Prop}
theorem Inv.big(I:Inv X pins σ H s):sysModules < s.heap.objs.size:=by
 have h:mainGlobals < s.heap.objs.size:=(I.mod.glob.keeps I.bk).lt
 exact Nat.lt_trans (by decide) h
theorem aUm{Q:Value->Shared->Prop}(hu:A.units+1 < cLine)(I:Inv X pins σ H s)(g:aCr H a y (some v))(ry:RelV y u)(h:∀ w' s',Inv X pins σ H s'->RelV v w'->Q w' s') :
  wpAny (model X.prog X.w) A (getItem (.ref a) u) Q E s:=by
 rcases g with ⟨kvs,k,e,ey,l⟩ | ⟨kvs,k,b,e,ey,eb,l⟩
 ·subst ey
  obtain ⟨z,hd,vs,rel,dd⟩:=aGq I.hok e
  obtain ⟨w',hw,rw'⟩:=yC.some_of (v:=v) (o:=valueAt vs k) (by rw [l];exact rel.val k)
  exact wpAny_getItem_of (aIl ry) dd.mapOf hw (h w' _ (I.tok _) rw')
 ·subst ey
  cases (show u=Value.ref b from ry)
  obtain ⟨z,hd,xs,rel,dd⟩:=aIm I.hok e
  obtain ⟨w',hw,rw'⟩:=yC.some_of (v:=v) (o:=(atKey xs k).map (·.2)) (by rw [l];exact rel.val k)
  obtain ⟨p,hp,hp2⟩:=Option.map_eq_some_iff.mp hw
  refine wpAny_getItem_heap (tupleKind_room_in1 hu) (aG0 I.hok eb) dd hp ?_
  rw [hp2]
  exact h w' _ (I.tok _) rw'
theorem bLp{Q:Value->Shared->Prop}(hu:A.units+1 < cLine)(I:Inv X pins σ H s)(g:aCr H a y o)(ry:RelV y u)(h:∀ s',Inv X pins σ H s'->Q (.bool o.isSome) s') :
  wpAny (model X.prog X.w) A (compareOp .In u (.ref a)) Q E s:=by
 rcases g with ⟨kvs,k,e,ey,l⟩ | ⟨kvs,k,b,e,ey,eb,l⟩
 ·subst ey
  obtain ⟨z,hd,vs,rel,dd⟩:=aGq I.hok e
  refine wpAny_in_of (aIl ry) hd dd.mapOf ?_
  rw [<-(rel.val k).isSome_eq,<-l]
  exact h _ (I.tok _)
 ·subst ey
  cases (show u=Value.ref b from ry)
  obtain ⟨z,hd,xs,rel,dd⟩:=aIm I.hok e
  refine wpAny_in_heap (tupleKind_room_in1 hu) (aG0 I.hok eb) hd dd ?_
  have q:=(rel.val k).isSome_eq
  rw [Option.isSome_map] at q
  rw [<-q,<-l]
  exact h _ (I.tok _)
theorem bA5{Q:Value->Shared->Prop}(hu:A.units+1 < cLine)(I:Inv X pins σ H s)(g:aCr H a y o)(ry:RelV y u)(h:∀ s',Inv X pins σ H s'->Q (.bool (!o.isSome)) s') :
  wpAny (model X.prog X.w) A (compareOp .NotIn u (.ref a)) Q E s:=by
 rcases g with ⟨kvs,k,e,ey,l⟩ | ⟨kvs,k,b,e,ey,eb,l⟩
 ·subst ey
  obtain ⟨z,hd,vs,rel,dd⟩:=aGq I.hok e
  refine wpAny_notIn_of (aIl ry) hd dd.mapOf ?_
  rw [<-(rel.val k).isSome_eq,<-l]
  exact h _ (I.tok _)
 ·subst ey
  cases (show u=Value.ref b from ry)
  obtain ⟨z,hd,xs,rel,dd⟩:=aIm I.hok e
  refine wpAny_notIn_heap (tupleKind_room_in1 hu) (aG0 I.hok eb) hd dd ?_
  have q:=(rel.val k).isSome_eq
  rw [Option.isSome_map] at q
  rw [<-q,<-l]
  exact h _ (I.tok _)
theorem aMs{h':Heap}{t':Nat}{ob:HO}(I:Inv X pins σ H s)(mu:Mut (H a))(hs:Heap.SameBut a s.heap h')(he:∃ q,h'.get? a=some q)(new:iI X.prog X.w (upd H a ob) h' a ob) :
  Inv X pins σ (upd H a ob) { s with heap:=h',toks:=t' } :=
 I.write (x:=a) (e:=a) mu (.inl rfl) (fun b q hb z=>(hs.2 b hb).trans z) he new
theorem aWf{P:Program}{w:World}{H':Hp}{h':Heap}{kvs:List (Key × V)}{vs:List (Key × Value)}(z:kvs.length<=sizeLine)(hd:(a==sysModules)=false)(rel:KV kvs vs)(dd:h'.DictOf (eX P w) a vs) :
  iI P w H' h' a (.dK kvs):=⟨z,hd,vs,rel,dd⟩
theorem aUn{H':Hp}{Q:Unit->Shared->Prop}(hu:A.units+1 < cLine)(I:Inv X pins σ H s)(g:aMr H a y v H')(ry:RelV y u)(rv:RelV v r)(h:∀ s',Inv X pins σ H' s'->Q () s') :
  wpAny (model X.prog X.w) A (setItem (.ref a) u r) Q E s:=by
 rcases g with ⟨kvs,k,e,ey,l,eH⟩ | ⟨kvs,k,b,e,ey,eb,l,eH⟩
 ·subst ey eH
  obtain ⟨z,hd,vs,rel,dd⟩:=aOf I.hok e
  have hz:vs.length<=sizeLine:=by rw [<-rel.length];exact z
  have hl:(putK kvs k v).length<=sizeLine:=by have:=aAo kvs k v;omega
  refine wpAny_setItem_pairs (hsz:=hz) (aIl ry) dd fun h' dd' hs=>h _ ?_
  have he:∃ q,h'.get? a=some q:=let ⟨q,_,_,hq,_⟩:=dd';⟨q,hq⟩
  exact aMs I (by rw [e];exact True.intro) hs he (aWf hl hd (rel.put k rv) dd')
 ·subst ey eH
  cases (show u=Value.ref b from ry)
  obtain ⟨z,hd,xs,rel,dd⟩:=bI0 I.hok e
  have hz:xs.length<=sizeLine:=by rw [<-Paired.length rel];exact z
  have hl:(putK kvs k v).length<=sizeLine:=by have:=aAo kvs k v;omega
  refine wpAny_setItem_heap (hsz:=hz) (tupleKind_room_in1 hu) (aG0 I.hok eb) dd fun h' dd' hs=>h _ ?_
  obtain ⟨q,es,ep,hq,h2,h3,h4,_,h5⟩:=dd'
  refine aMs I (by rw [e];exact True.intro) hs ⟨q,hq⟩ ⟨hl,hd,_,(rel.put k eb rv).keeps fun c ys ec=>?_,q,es,ep,hq,h2,h3,h4,h5⟩
  rw [bM (bHb ec e (fun z=>nomatch z))]
  exact ec
end
section
variable{X:Cx}{pins:List (Addr × Obj)}{σ:St}{H:Hp}{s:Shared}{a:Addr}{kvs:List (Key × V)}{k:Key}{u:Value}{A:Around}{E:Value->Shared->Prop}
theorem bI1{Q:Value->Shared->Prop}(I:Inv X pins σ H s)(e:Rd H a (.dK kvs))(h:∀ t s',Inv X pins σ H s'->Q (.int kvs.length t) s'):wpAny (model X.prog X.w) A (call (.builtin "len") [.ref a]) Q E s:=by
 obtain ⟨z,hd,vs,rel,dd⟩:=aGq I.hok e
 refine call_len_dict hd dd (by rw [<-rel.length];rw [sizeLine_eq] at z;omega) ?_
 rw [<-rel.length]
 exact h _ _ (I.tok _)
end
theorem aOg{X:Cx}{pins:List (Addr × Obj)}{σ:St}{H:Hp}{s:Shared}{a:Addr}{y:V}{o:Option V}(I:Inv X pins σ H s)(g:aCr H a y o):s.TypeIs (.ref a) "dict" := by
 rcases g with ⟨kvs,k,e,_,_⟩ | ⟨kvs,k,b,e,_,_,_⟩
 ·obtain ⟨_,_,vs,_,dd⟩:=aGq I.hok e
  exact dd.typeIs
 ·obtain ⟨_,_,xs,_,dd⟩:=aIm I.hok e
  exact dd.typeIs
def sDPut(td ty tv:TE):TS:=fun D σ H=>tv σ H fun v H1=>td σ H1 fun x H2=>ty σ H2 fun y H3=>∃ a H4,x = .ref a/\aMr H3 a y v H4/\D.nx σ H4
section
variable{X:Cx}{o i e value:Expr}{pos pos' tpos:Pos}{td ty tv:TE}
end
theorem aOh{P:Program}{w:World}{H:Hp}(h:Heap)(hb:sysModules < h.objs.size):iI P w H (h.push { cls := .type "dict", data := .dict #[] }) h.objs.size (.dK []) :=
 ⟨Nat.zero_le _,beq_eq_false_iff_ne.mpr (Ne.symm (Nat.ne_of_lt hb)),[],.nil,Heap.DictOf.new h⟩
def bEk:TE:=fun _ H Q=>∀ p,H p=none->Q (.ref p) (upd H p (.dK []))
section
variable{X:Cx}{pos:Pos}
theorem aWg:PE X (.Dict [] [] pos) bEk:=fun pins s σ H Q I h =>
 wpAny_Dict_empty ⟨.ref s.heap.objs.size,_,I.laid (a:=s.heap.objs.size) (o := .dK []) (t':=s.toks) (fun _ _ q=>Heap.get?_push_of_some _ q) (Nat.le_refl _) (aOh s.heap I.big),rfl,h _ (I.hok.fresh (Nat.le_refl _))⟩
end
def aR2:List (TE × TE)->St->Hp->(List (V × V)->Hp->Prop)->Prop
 | [],_,H,Q=>Q [] H
 | (tk,tv) :: r,σ,H,Q=>tk σ H fun x H1=>tv σ H1 fun y H2=>aR2 r σ H2 fun ps H3=>Q ((x,y) :: ps) H3
abbrev VV:List (V × V)->List (Value × Value)->Prop:=Paired fun p q=>RelV p.1 q.1/\RelV p.2 q.2
def PPs(X:Cx)(pos:Pos)(keys:List (Option Expr))(values:List Expr)(trs:List (TE × TE)):Prop :=
 ∀ (pins:List (Addr × Obj)) (s:Shared) (σ:St) (H:Hp) (Q:List (V × V)->Hp->Prop),Inv X pins σ H s->aR2 trs σ H Q ->
  wpAny (model X.prog X.w) X.A (evalPairs (pairTrees keys values X.env pos)) (fun vs s'=>∃ ps H',Inv X pins σ H' s'/\VV ps vs/\Q ps H') X.xe s
theorem aS6{X:Cx}{pos:Pos}:PPs X pos [] [] []:=fun pins s σ H Q I h=>pairTrees_nil_walk ⟨[],H,I,.nil,h⟩
theorem aOi{X:Cx}{pos:Pos}{k v:Expr}{ks:List (Option Expr)}{vs:List Expr}{tk tv:TE}{trs:List (TE × TE)}(hk:PE X k tk)(hv:PE X v tv)(hr:PPs X pos ks vs trs) :
  PPs X pos (some k :: ks) (v :: vs) ((tk,tv) :: trs):=fun pins s σ H Q I h =>
 pairTrees_cons_walk (thn (hk pins s σ H _ I h) fun u s1 ⟨x,H1,I1,rx,q1⟩=>thn (hv pins s1 σ H1 _ I1 q1) fun w2 s2 ⟨y,H2,I2,ry,q2⟩ =>
  thn (hr pins s2 σ H2 _ I2 q2) fun ws s3 ⟨ps,H3,I3,rel,q3⟩=>⟨(x,y) :: ps,H3,I3,.cons ⟨rx,ry⟩ rel,q3⟩)
def aDj(kvs more:List (Key × V)):List (Key × V):=more.foldl (fun acc kv=>putK acc kv.1 kv.2) kvs
theorem KV.merge:∀ {more:List (Key × V)} {rs:List (Key × Value)} {kvs:List (Key × V)} {vs:List (Key × Value)},KV more rs->KV kvs vs->KV (aDj kvs more) (merged vs rs):=by
 intro more rs kvs vs r
 unfold KV at r
 induction r generalizing kvs vs with
 | nil=>intro q;exact q
 | @cons p q ps qs h t ih =>
  intro r0
  have e:KV (putK kvs p.1 p.2) (stored vs q.1 q.2):=by
   have:=r0.put p.1 h.2
   rw [<-h.1];exact this
  exact ih e
theorem aCu:∀ (more kvs:List (Key × V)),(aDj kvs more).length<=kvs.length+more.length
 | [],kvs=>by show kvs.length<=kvs.length+0;omega
 | p :: r,kvs=>by
  have h1:=aCu r (putK kvs p.1 p.2)
  have h2:=aAo kvs p.1 p.2
  show (aDj (putK kvs p.1 p.2) r).length<=_
  rw [List.length_cons];omega
theorem aIn{P:Program}{w:World}:∀ {kvs:List (Key × V)} {ws:List (Value × Value)},VV (kvs.map fun kv=>(kV kv.1,kv.2)) ws->∃ rs,Carries (eX P w) ws rs/\KV kvs rs
 | [],_,r=>by rw [List.map_nil] at r;cases r;exact ⟨[],True.intro,.nil⟩
 | p :: kvs,_,r=>by
  rw [List.map_cons] at r
  cases r with
  | @cons a b as bs h t =>
   obtain ⟨rs,c,q⟩:=aIn (P:=P) (w:=w) t
   obtain ⟨b1,b2⟩:=b
   exact ⟨(p.1,b2) :: rs,⟨aIl h.1,rfl,c⟩,.cons ⟨rfl,h.2⟩ q⟩
def bI2(trs:List (TE × TE)):TE:=fun σ H Q=>∀ p,H p=none->aR2 trs σ (upd H p (.dK [])) fun ps H2=>H2 p=some (.dK [])/\∃ kvs:List (Key × V),ps=kvs.map (fun kv=>(kV kv.1,kv.2))/\kvs.length<=15/\Q (.ref p) (upd H2 p (.dK (aDj [] kvs)))
theorem aS7{X:Cx}{pos:Pos}{keys:List (Option Expr)}{values:List Expr}{trs:List (TE × TE)}(h:PPs X pos keys values trs)(hall:keys.all (·.isSome)=true)(hl:keys.length=values.length)(h0:keys≠[])
  (h15:keys.length<=15):PE X (.Dict keys values pos) (bI2 trs):=by
 intro pins s σ H Q I q
 have hn:=I.hok.fresh (Nat.le_refl s.heap.objs.size)
 have I1:=I.laid (a:=s.heap.objs.size) (o := .dK []) (h':=s.heap.push { cls := .type "dict", data := .dict #[] }) (t':=s.toks) (fun _ _ q=>Heap.get?_push_of_some _ q) (Nat.le_refl _) (aOh s.heap I.big)
 refine wpAny_Dict_walk (knd:=eX X.prog X.w) hall hl h0 h15 (thn (h pins _ σ _ _ I1 (q _ hn)) fun ws s2 ⟨ps,H2,I2,rel,e,kvs,ep,lk,q2⟩=>?_)
 subst ep
 obtain ⟨rs,c,rk⟩:=aIn (P:=X.prog) (w:=X.w) rel
 obtain ⟨z,hd,vs0,r0,dd⟩:=aOf I2.hok e
 cases r0
 refine ⟨rs,c,dd,fun h' dd' hs=>⟨.ref s.heap.objs.size,_,?_,rfl,q2⟩⟩
 have hz:(aDj [] kvs).length<=sizeLine:=by
  have h1:=aCu kvs []
  rw [List.length_nil] at h1
  rw [sizeLine_eq];omega
 have he:∃ q,h'.get? s.heap.objs.size=some q:=let ⟨q,_,_,hq,_⟩:=dd';⟨q,hq⟩
 exact aMs I2 (by rw [e];exact True.intro) hs he (aWf hz hd (rk.merge .nil) dd')
structure M1(X:Cx)(o:Expr)(m:Str)(apos:Pos)(e:Expr)(cpos:Pos):Prop where
 base:attributeBase o m X.env (eval o X.env)=eval o X.env
 few:((backTo cpos (starEach [e] X.env)).all (fun x => !x.1)&&(backToKw cpos (keywordEach [] X.env)).all (fun x=>x.1.isSome)
  && decide (([e]:List Expr).length+([]:List Keyword).length+(if ([]:List Keyword).isEmpty then 0 else 1) < 30))=true
 line:(apos.endLine==cpos.line)=true
 trees:backTo cpos (starEach [e] X.env)=[(false,eval e X.env)]
def IsD(H:Hp)(a:Addr):Prop:=(∃ kvs,Rd H a (.dK kvs))\/∃ kvs,Rd H a (.dT kvs)
theorem bEl{X:Cx}{pins:List (Addr × Obj)}{σ:St}{H:Hp}{s:Shared}{a:Addr}(I:Inv X pins σ H s)(d:IsD H a) :
  s.TypeIs (.ref a) "dict" /\ (∀ b,Value.ref a = .ref b->∃ ob,s.heap.get? b=some ob/\ob.dict=none)/\(a==sysModules)=false:=by
 rcases d with ⟨kvs,e⟩ | ⟨kvs,e⟩
 ·obtain ⟨_,hd,vs,_,dd⟩:=aGq I.hok e
  refine ⟨dd.typeIs,fun b q=>?_,hd⟩
  cases q
  obtain ⟨ob,_,_,h1,h2,_⟩:=dd
  exact ⟨ob,h1,h2.2.1⟩
 ·obtain ⟨_,hd,xs,_,dd⟩:=aIm I.hok e
  refine ⟨dd.typeIs,fun b q=>?_,hd⟩
  cases q
  obtain ⟨ob,_,_,h1,h2,_⟩:=dd
  exact ⟨ob,h1,h2.2.1⟩
section
variable{X:Cx}{pins:List (Addr × Obj)}{σ:St}{H:Hp}{s:Shared}{a:Addr}{y d:V}{u r:Value}{o:Option V}{A:Around}{E:Value->Shared->Prop}
theorem bEm{Q:Value->Shared->Prop}(hu:A.units+1 < cLine)(I:Inv X pins σ H s)(g:aCr H a y o)(ry:RelV y u)(h:∀ w' s',Inv X pins σ H s'->RelV (o.getD .non) w'->Q w' s') :
  wpAny (model X.prog X.w) A (call (.builtin "dict.get") [.ref a,u]) Q E s:=by
 rcases g with ⟨kvs,k,e,ey,l⟩ | ⟨kvs,k,b,e,ey,eb,l⟩
 ·subst ey
  obtain ⟨z,hd,vs,rel,dd⟩:=aGq I.hok e
  refine call_meetsIn PySem.F.slot_dict_get dd.typeIs PySem.F.entry_dict_get (PySem.F.args_dict_get_2 _ _) (meets_dict_get (eX X.prog X.w) a (aIl ry) hd) ⟨_,dd.mapOf,h _ _ (I.tok _) ?_⟩
  rw [l]
  exact (rel.val k).getD rfl
 ·subst ey
  cases (show u=Value.ref b from ry)
  obtain ⟨z,hd,xs,rel,dd⟩:=aIm I.hok e
  refine call_meetsIn PySem.F.slot_dict_get dd.typeIs PySem.F.entry_dict_get (PySem.F.args_dict_get_2 _ _) (meetsH_dict_get (tupleKind (eX X.prog X.w)) a b hd) ⟨tupleKind_room_in1 hu,k,xs,aG0 I.hok eb,dd,h _ _ (I.tok _) ?_⟩
  rw [l]
  exact (rel.val k).getD rfl
end
def bEn(td ty:TE):TE:=fun σ H Q=>td σ H fun x H1=>∃ a,x = .ref a/\IsD H1 a/\ty σ H1 fun y H2=>∃ o,aCr H2 a y o/\Q (o.getD .non) H2
section
variable{X:Cx}{o e f:Expr}{apos cpos:Pos}{td ty tx:TE}
theorem aWh(hu:X.A.units+1 < cLine)(ho:PE X o td)(he:PE X e ty)(m:M1 X o "get" apos e cpos):PE X (.Call (.Attribute o "get" apos) [e] [] cpos) (bEn td ty):=by
 intro pins s σ H Q I h
 refine wpAny_Call_method m.base m.few m.line PySem.F.plainAttrs_dict PySem.F.slot_dict_get PySem.F.type_dict_get (thn (ho pins s σ H _ I h) fun u s1 ⟨x,H1,I1,rx,a,ex,d,q1⟩=>?_)
 subst ex
 obtain rfl:u=Value.ref a:=rx
 obtain ⟨t1,t2,_⟩:=bEl I1 d
 refine ⟨t1,t2,?_⟩
 rw [m.trees]
 refine Calls.callWith_builtin rfl (Calls.evalArgs_plain (Calls.spliced_cons (thn (he pins s1 σ H1 _ I1 q1) fun iv s2 ⟨y,H2,I2,ry,ov,g,q2⟩=>Calls.spliced_nil ?_)))
 exact bEm hu I2 g ry fun w' s3 I3 rw'=>⟨_,H2,I3,rw',q2⟩
end
section
variable{X:Cx}{pins:List (Addr × Obj)}{σ:St}{H:Hp}{s:Shared}{a:Addr}{kvs:List (Key × V)}{A:Around}{E:Value->Shared->Prop}
end
section
variable{X:Cx}{pins:List (Addr × Obj)}{σ:St}{H:Hp}{s:Shared}{a:Addr}{y:V}{u:Value}{A:Around}{E:Value->Shared->Prop}
end
end L2
set_option maxHeartbeats 1000000
open PySem.W (Frag findIn mroIn specialIn takesIn nsIn notCls keepIn kitOne kia_one fnOf codeIn mg_of makesIn emptyDict instObj Looks OpenLaw plainGet hasDictIn plainOver isFn mg_none_of WalkO InK)
open List (mem_cons_self mem_cons_of_mem map_cons getD_eq_getElem?_getD length_cons length_append drop_zero take_of_length_le length_drop length_map append_nil length_range flatten_cons length_take zip_cons_cons any_cons length_set nil_append forIn_nil forIn_cons lookup_cons mem_cons getElem?_cons_succ)
open Nat (zero_le succ_mul mod_lt ble le_of_ble_eq_true le_succ le_add_right not_lt_zero)
open Array (ext' getElem?_toList getD_eq_getD_getElem? toList_push)
open Int (toNat_natCast emod_nonneg emod_lt_of_pos toNat_of_nonneg)
open Option (getD_some map_some)
open Bool (and_eq_true or_eq_true)
variable{α β:Type}{c m newId F:String}{n np i q j x1 t' ep:Nat}{b:Bool}{l a C fa T I T_BASES A_Machine A_Again A_EarlyNo A_EarlyYes A_Lasting A_Settled:PySem.Addr}{tg e elt:PySem.Expr}{x qual name:PySem.Str}{z rk y:List Nat}{E Q Qf:PySem.Value->PySem.Shared->Prop}{S:List (List Nat)}{s:PySem.Shared}{ns:List Int}{w:PySem.World}{v:L2.V}{ws rs:List (List Nat × List Nat)}{H H' H1:L2.Hp}{vs dvs:List L2.V}{A B fp:List PySem.Addr}{o:L2.HO}{X Y:L2.Cx}{es elts:List PySem.Expr}{pos p0 pos' p2 p1 apos cpos dp px:PySem.Pos}{op:PySem.CmpOp}{gv:Int->Int->L2.V}{fd:PySem.FuncData}{ps N loose:List PySem.Str}{sm:PySem.Stmt}{h h' base:PySem.Heap}{items:Array PySem.Value}{M:PySem.Model}{env:PySem.Env}{body:List PySem.Stmt}{P prog:PySem.Program}{mg:PySem.Str->Option PySem.Value}{scope:PySem.Scope}{pins:List (PySem.Addr × PySem.Obj)}{te:L2.TE}{tt:L2.TT}{u dV oc:PySem.Value}{pl:PySem.Sem Bool}{osl:Array (Option PySem.Value)}{t_MOST_BOTTOM t_OUT t_LETTERS t_MOST_ROOMS t_MOST_LETTERS:PySem.Tok}{XP:(PySem.Str->Option PySem.Value)->PySem.Heap->Prop}
namespace Pu
inductive D where
 | non | bl (b:Bool) | int (i:Int) | str (s:List Nat) | tup (xs:List D) | lst (xs:List D)
 | dct (t:Bool) (ks vs:List D)
 | ins (c:String) (ns:List String) (xs:List D)
 | exn (c:String) (ns:List String) (xs:List D)
 | fn (f:String)
inductive R (α:Type) where
 | ok (a:α) | exc (x:D) | bad
@[inline] def R.bind{α β:Type}(r:R α)(f:α->R β):R β:=match r with
 | .ok a=>f a
 | .exc x => .exc x
 | .bad => .bad
theorem R.ok_of{r:R α}{f:α->R β}{b:β}(h:r.bind f = .ok b):∃ a,r = .ok a/\f a = .ok b:=by
 cases r with
 | ok a=>exact ⟨a,rfl,h⟩
 | exc x=>exact nomatch h
 | bad=>exact nomatch h
noncomputable section
open Classical in
def aO{α:Type}(c:Prop)(r:R α):R α:=if c then r else .bad
theorem aW{c:Prop}{r:R α}(h:c):aO c r=r:=if_pos h
theorem aK{c:Prop}{r:R α}{a:α}(h:aO c r = .ok a):c/\r = .ok a:=by
 unfold aO at h
 split at h
 ·exact ⟨by assumption,h⟩
 ·exact nomatch h
inductive OK where
 | l | d (t:Bool) (ks:List D) | i (n:Nat) (c:String) (ns:List String)
def ofK:OK->List D->D
 | .l,xs => .lst xs
 | .d t ks,xs => .dct t ks xs
 | .i _ c ns,xs => .ins c ns xs
inductive Sl where
 | v (d:D) | o (k:OK) (xs:List D)
abbrev PSt:=List (Option Sl)
abbrev Ex:=PSt->R D
inductive Fl where
 | nx (st:PSt) | rt (d:D) | bk (st:PSt) | ct (st:PSt)
abbrev Bd:=PSt->R Fl
@[irreducible] def big:Nat:=10000000
theorem jW:big=10000000:=by unfold big;rfl
theorem gG(h:n<=10000000):n<=big:=by rw [jW];exact h
theorem aR3(h:n < 10000000):n < big:=by rw [jW];exact h
theorem bA6{n:Int}(h:n<=10000000):n<=(big:Int):=by rw [jW];exact h
theorem bA7{n:Int}(h : -10000000<=n) : -(big:Int)<=n:=by rw [jW];exact h
def sIx(n d:Nat):Option Int->Nat
 | none=>d
 | some v=>if v < 0 then (v+(n:Int)).toNat else min v.toNat n
def ixN(n:Nat)(i:Int):Option Nat:=if 0<=i then (if i < n then some i.toNat else none) else if -(n:Int)<=i then some (i+n).toNat else none
def atI{α:Type}(xs:List α)(i:Int):Option α:=(ixN xs.length i).bind fun j=>xs[j]?
def cut{α:Type}(xs:List α)(lo hi:Option Int):List α:=(xs.drop (sIx xs.length 0 lo)).take (sIx xs.length xs.length hi - sIx xs.length 0 lo)
def rep{α:Type}(n:Nat)(xs:List α):List α:=(List.replicate n xs).flatten
def ofO{α:Type}:Option α->R α
 | some a => .ok a
 | none => .bad
abbrev Op2:=D->D->R D
def fJ:Op2
 | .int i,.int j => .ok (.int (i+j))
 | .str x,.str y=>aO (x.length+y.length<=big) (.ok (.str (x++y)))
 | .lst x,.lst y=>aO (x.length+y.length<=big) (.ok (.lst (x++y)))
 | _,_ => .bad
def aKi:Op2
 | .int i,.int j => .ok (.int (i - j))
 | _,_ => .bad
def aR4:Op2
 | .int i,.int j=>aO ((-18446744073709551616 < i/\i < 18446744073709551616)\/(-18446744073709551616 < j/\j < 18446744073709551616)) (.ok (.int (i * j)))
 | .str x,.int j=>aO (x.length * j.toNat<=big /\ -4611686018427387904<=j/\j < 4611686018427387904) (.ok (.str (rep j.toNat x)))
 | _,_ => .bad
def nW:Op2
 | .int i,.int j=>aO (0 < j/\j < 1073741824) (.ok (.int (i / j)))
 | _,_ => .bad
def pL:Op2
 | .int i,.int j=>aO (0 < j) (.ok (.int (i % j)))
 | _,_ => .bad
def aWi:Op2
 | .int i,.int j=>aO (0<=j/\j<=1000000/\i.natAbs < 18446744073709551616) (.ok (.int (i ^ j.toNat)))
 | _,_ => .bad
def aG1:D->R D
 | .int i => .ok (.int (-i))
 | _ => .bad
def aOj:D->Bool
 | .int _=>true
 | .str _=>true
 | _=>false
def keyOk(t:Bool)(d:D):Bool:=match d with
 | .int _ => !t
 | .str _ => !t
 | .tup xs=>t&&xs.all aOj
 | _=>false
mutual
def eqK:D->D->Bool
 | .int i,.int j=>i==j
 | .str x,.str y=>x==y
 | .tup x,.tup y=>aR5 x y
 | _,_=>false
def aR5:List D->List D->Bool
 | [],[]=>true
 | a :: x,b :: y=>eqK a b&&aR5 x y
 | _,_=>false
end
def aEc(ks vs:List D)(k:D):Option D:=((ks.zip vs).find? fun p=>eqK p.1 k).map (·.2)
def vP(ks:List D)(k:D):Bool:=ks.any fun x=>eqK x k
def aEd(ks:List D)(k:D):List D:=if vP ks k=true then ks else ks++[k]
def aIo(ks vs:List D)(k v:D):List D:=if vP ks k=true then (ks.zip vs).map (fun p=>if eqK p.1 k=true then v else p.2) else vs++[v]
def dIx:Op2
 | .dct t ks vs,k=>aO (keyOk t k=true) (ofO (aEc ks vs k))
 | .lst x,.int i=>ofO (atI x i)
 | .tup x,.int i=>ofO (atI x i)
 | .str x,.int i=>aO (x.length<=big) (ofO ((atI x i).map fun c => .str [c]))
 | _,_ => .bad
mutual
def eqD:D->D->Bool
 | .non,.non=>true
 | .bl a,.bl b=>a==b
 | .bl a,.int j=>(if a then (1:Int) else 0)==j
 | .int i,.bl b=>i==(if b then (1:Int) else 0)
 | .int i,.int j=>i==j
 | .str x,.str y=>x==y
 | .tup x,.tup y=>rB x y
 | .lst x,.lst y=>rB x y
 | _,_=>false
def rB:List D->List D->Bool
 | [],[]=>true
 | a :: x,b :: y=>eqD a b&&rB x y
 | _,_=>false
end
mutual
def dep:D->Nat
 | .tup x=>iC x+1
 | .lst x=>iC x+1
 | .non=>0
 | .bl _=>0
 | .int _=>0
 | .str _=>0
 | .dct _ _ _=>0
 | .ins _ _ _=>0
 | .exn _ _ _=>0
 | .fn _=>0
def iC:List D->Nat
 | []=>0
 | a :: x=>max (dep a) (iC x)
end
mutual
def plain:D->Bool
 | .tup x=>fK x
 | .lst x=>fK x
 | .non=>true
 | .bl _=>true
 | .int _=>true
 | .str _=>true
 | .dct _ _ _=>false
 | .ins _ _ _=>false
 | .exn _ _ _=>false
 | .fn _=>false
def fK:List D->Bool
 | []=>true
 | a :: x=>plain a&&fK x
end
def dEq:Op2:=fun a b=>aO (dep a<=64/\plain a=true/\plain b=true) (.ok (.bl (eqD a b)))
def dNe:Op2:=fun a b=>aO (dep a<=64/\plain a=true/\plain b=true) (.ok (.bl (!eqD a b)))
def dLe:Op2
 | .int i,.int j => .ok (.bl (decide (i<=j)))
 | _,_ => .bad
def dGt:Op2
 | .int i,.int j => .ok (.bl (decide (j < i)))
 | _,_ => .bad
def dGe:Op2
 | .int i,.int j => .ok (.bl (decide (j<=i)))
 | _,_ => .bad
def lF:D->R D
 | .dct false ks _ => .ok (.int ks.length)
 | .lst x => .ok (.int x.length)
 | .tup x => .ok (.int x.length)
 | .str x=>aO (x.length<=big) (.ok (.int x.length))
 | _ => .bad
def aEe:D->Bool
 | .ins _ _ _=>false
 | .exn _ _ _=>false
 | .fn _=>false
 | _=>true
def isN:D->Bool
 | .non=>true
 | _=>false
def bEo:D->Bool
 | .str _=>true
 | _=>false
def bEp:D->Bool
 | .bl _=>true
 | _=>false
def isIn:D->Bool
 | .bl _=>true
 | .int _=>true
 | _=>false
def bEq:D->Bool
 | .tup _=>true
 | _=>false
def bI3:D->Bool
 | .dct _ _ _=>true
 | _=>false
def aUo:D->Bool
 | .lst _=>true
 | _=>false
def gF(x y:List Nat)(lo:Nat):Option Nat:=(List.range' lo (x.length+1 - lo)).find? fun i=>decide (i+y.length<=x.length)&&((x.drop i).take y.length==y)
def rR:Option Nat->Int
 | some i=>i
 | none => -1
def tZ(x y:List Nat):List Nat:=(((x.dropWhile fun c=>y.contains c).reverse).dropWhile fun c=>y.contains c).reverse
abbrev Mop:=D->List D->R D
def aGr:Mop
 | .str x,[.str y] => .ok (.int (rR (gF x y 0)))
 | .str x,[.str y,.int i]=>aO (0<=i) (.ok (.int (rR (gF x y i.toNat))))
 | _,_ => .bad
def aIp:Mop
 | .str x,[.str y]=>(ofO (gF x y 0)).bind fun i => .ok (.int i)
 | _,_ => .bad
def aDk:Mop
 | .str x,[.str y]=>aO (x.length<=big) (.ok (.str (tZ x y)))
 | _,_ => .bad
def aL2:D->D->R D
 | .int i,.int j => .ok (.int (if j > i then j else i))
 | _,_ => .bad
def aL3:D->D->R D
 | .int i,.int j => .ok (.int (if j < i then j else i))
 | _,_ => .bad
def inD(x:D)(ys:List D):Bool:=ys.any fun y=>eqD y x
def dIn:D->D->R D
 | k,.dct t ks _=>aO (keyOk t k=true) (.ok (.bl (vP ks k)))
 | x,.lst ys=>aO (iC ys<=60/\plain x=true/\fK ys=true) (.ok (.bl (inD x ys)))
 | x,.tup ys=>aO (iC ys<=60/\plain x=true/\fK ys=true) (.ok (.bl (inD x ys)))
 | .str x,.str y => .ok (.bl (gF y x 0).isSome)
 | _,_ => .bad
def rT:D->D->R D
 | k,.dct t ks _=>aO (keyOk t k=true) (.ok (.bl (!vP ks k)))
 | x,.lst ys=>aO (iC ys<=60/\plain x=true/\fK ys=true) (.ok (.bl (!inD x ys)))
 | x,.tup ys=>aO (iC ys<=60/\plain x=true/\fK ys=true) (.ok (.bl (!inD x ys)))
 | .str x,.str y => .ok (.bl (!(gF y x 0).isSome))
 | _,_ => .bad
def dIs:D->D->R D
 | x,.non => .ok (.bl (isN x))
 | .bl a,.bl b => .ok (.bl (a==b))
 | _,_ => .bad
def aR6:D->D->R D
 | x,.non => .ok (.bl (!isN x))
 | .bl a,.bl b => .ok (.bl (!(a==b)))
 | _,_ => .bad
def aC(i:Nat):Ex:=fun st=>match st[i]? with
 | some (some (.v d)) => .ok d
 | _ => .bad
def fC(i:Nat):Ex:=fun st=>match st[i]? with
 | some (some (.v d)) => .ok d
 | some (some (.o k xs)) => .ok (ofK k xs)
 | _ => .bad
def eC(d:D):Ex:=fun _ => .ok d
def e2(op:Op2)(f g:Ex):Ex:=fun st=>(f st).bind fun x=>(g st).bind fun y=>op x y
def e1(op:D->R D)(f:Ex):Ex:=fun st=>(f st).bind op
def eB(p:D->Bool)(f:Ex):Ex:=fun st=>(f st).bind fun x=>aO (aEe x=true) (.ok (.bl (p x)))
def onB{α:Type}(d:D)(f:Bool->R α):R α:=match d with
 | .bl b=>f b
 | _ => .bad
theorem vQ{d:D}{f:Bool->R α}{a:α}(h:onB d f = .ok a):∃ b,d = .bl b/\f b = .ok a:=by
 cases d<;>first | exact ⟨_,rfl,h⟩ | exact nomatch h
def aDl(f g:Ex):Ex:=fun st=>(f st).bind fun x=>onB x fun b=>if b=true then g st else .ok (.bl false)
def eOr(f g:Ex):Ex:=fun st=>(f st).bind fun x=>onB x fun b=>if b=true then .ok (.bl true) else g st
def rC(f:Ex):Ex:=fun st=>(f st).bind fun x=>onB x fun b => .ok (.bl (!b))
def eIf(c f g:Ex):Ex:=fun st=>(c st).bind fun x=>onB x fun b=>if b=true then f st else g st
abbrev Exs:=PSt->R (List D)
def aN:Exs:=fun _ => .ok []
def aD(f:Ex)(r:Exs):Exs:=fun st=>(f st).bind fun x=>(r st).bind fun xs => .ok (x :: xs)
def aAp(r:Exs):Ex:=fun st=>(r st).bind fun xs=>aO (xs.length<=big) (.ok (.tup xs))
def pG(r:Exs):Ex:=fun st=>(r st).bind fun xs=>aO (xs.length<=big) (.ok (.lst xs))
def aP(p:List D->R D)(r:Exs):Ex:=fun st=>(r st).bind p
def eMt(m:Mop)(f:Ex)(r:Exs):Ex:=fun st=>(f st).bind fun x=>(r st).bind fun xs=>m x xs
def inI(d:D){α:Type}(f:Int->R α):R α:=match d with
 | .int i=>f i
 | _ => .bad
theorem aR7{d:D}{f:Int->R α}{a:α}(h:inI d f = .ok a):∃ i,d = .int i/\f i = .ok a:=by
 cases d<;>first | exact ⟨_,rfl,h⟩ | exact nomatch h
abbrev ExO:=PSt->R (Option Int)
def rD:ExO:=fun _ => .ok none
def gU(f:Ex):ExO:=fun st=>(f st).bind fun x=>inI x fun i => .ok (some i)
def dSl(x:D)(lo hi:Option Int):R D:=match x with
 | .lst xs => .ok (.lst (cut xs lo hi))
 | .str xs=>aO (xs.length<=big) (.ok (.str (cut xs lo hi)))
 | _ => .bad
def eSl(f:Ex)(lo hi:ExO):Ex:=fun st=>(f st).bind fun x=>(lo st).bind fun l=>(hi st).bind fun h=>dSl x l h
abbrev ItE:=PSt->R (List D)
def itE(f:Ex):ItE:=fun st=>(f st).bind fun x=>match x with
 | .lst xs => .ok xs
 | .tup xs => .ok xs
 | .str xs=>aO (xs.length<=big) (.ok (xs.map fun c => .str [c]))
 | _ => .bad
def pM(lo:Int)(n:Nat):List D:=(List.range n).map fun (k:Nat) => .int (lo+(k:Int))
def aHi(f:Ex):ItE:=fun st=>(f st).bind fun x=>inI x fun j=>aO (-(big:Int)<=j/\j<=(big:Int)) (.ok (pM 0 j.toNat))
abbrev Tg:=D->PSt->R PSt
def tgN(i:Nat):Tg:=fun d st => .ok (st.set i (some (.v d)))
def vR:List Nat->List D->PSt->R PSt
 | [],[],st => .ok st
 | i :: is,d :: ds,st=>vR is ds (st.set i (some (.v d)))
 | _,_,_ => .bad
def tgT(is:List Nat):Tg:=fun d st=>match d with
 | .tup xs=>vR is xs st
 | .lst xs=>vR is xs st
 | _ => .bad
def uT(tg:Tg)(c f:Ex)(st:PSt):List D->R (List D)
 | [] => .ok []
 | d :: ds=>(tg d st).bind fun s1=>(c s1).bind fun x=>onB x fun b=>if b=true then (f s1).bind fun y=>(uT tg c f st ds).bind fun ys => .ok (y :: ys) else uT tg c f st ds
def clr(is:List Nat)(st:PSt):PSt:=is.foldl (fun s i=>s.set i none) st
def dX(is:List Nat)(tg:Tg)(it:ItE)(c f:Ex):Ex:=fun st=>(it st).bind fun xs=>aO (xs.length<=big) ((uT tg c f (clr is st) xs).bind fun ys => .ok (.lst ys))
def gW:Ex:=fun _ => .ok (.bl true)
def aG2(r:R Fl)(f:PSt->R Fl):R Fl:=r.bind fun x=>match x with
 | .nx st=>f st
 | .rt d => .ok (.rt d)
 | .bk st => .ok (.bk st)
 | .ct st => .ok (.ct st)
def cY:Bd:=fun st => .ok (.nx st)
def aU(a b:Bd):Bd:=fun st=>aG2 (a st) b
def cO(i:Nat)(f:Ex):Bd:=fun st=>(f st).bind fun d => .ok (.nx (st.set i (some (.v d))))
def wU(i:Nat)(f:Ex):Bd:=fun st=>(f st).bind fun d=>match d with
 | .lst xs => .ok (.nx (st.set i (some (.o .l xs))))
 | _ => .bad
def aCs(i:Nat)(f:Ex):Bd:=fun st=>(f st).bind fun d=>match st[i]? with
 | some (some (.o .l xs))=>aO (xs.length < big) (.ok (.nx (st.set i (some (.o .l (xs++[d]))))))
 | _ => .bad
def aUp(i:Nat)(f:Ex):Bd:=fun st=>(f st).bind fun d=>match d with
 | .lst ys=>(match st[i]? with
  | some (some (.o .l xs))=>aO (xs.length+ys.length<=big) (.ok (.nx (st.set i (some (.o .l (xs++ys))))))
  | _ => .bad)
 | _ => .bad
def aOk(i:Nat)(t:Bool):Bd:=fun st => .ok (.nx (st.set i (some (.o (.d t []) []))))
def sDPut(i:Nat)(g f:Ex):Bd:=fun st=>(f st).bind fun d=>(g st).bind fun k=>match st[i]? with
 | some (some (.o (.d t ks) vs))=>aO (keyOk t k=true/\vs.length < big) (.ok (.nx (st.set i (some (.o (.d t (aEd ks k)) (aIo ks vs k d))))))
 | _ => .bad
def aL4(i:Nat)(c f:String)(e:Ex):Bd:=fun st=>(e st).bind fun d=>match st[i]? with
 | some (some (.o (.i n c' ns) xs))=>aO (c'=c/\f ∉ ns/\ns.length < 900) (.ok (.nx (st.set i (some (.o (.i n c' (ns++[f])) (xs++[d]))))))
 | _ => .bad
def nD(c f:String):D->R D
 | .ins c' ns xs=>aO (c'=c) (ofO ((ns.zip xs).lookup f))
 | _ => .bad
def fM(c m:String)(p:List D->R D)(dv:List D)(f:Ex)(r:Exs):Ex:=fun st=>(f st).bind fun x=>(r st).bind fun xs=>match x with
 | .ins c' ns _=>aO (c'=c/\m ∉ ns) (p (x :: (xs++dv)))
 | _ => .bad
def rW:Bd:=fun _ => .bad
def fz1(st:PSt)(i:Nat):PSt:=match st[i]? with
 | some (some (.o k xs))=>st.set i (some (.v (ofK k xs)))
 | _=>st
def sFz(is:List Nat)(b:Bd):Bd:=fun st=>b (is.foldl fz1 st)
def cL(f:Ex):Bd:=fun st=>(f st).bind fun d => .ok (.rt d)
def aIq(f:Ex):Bd:=fun st=>(f st).bind fun _ => .ok (.nx st)
def sIf(c:Ex)(a b:Bd):Bd:=fun st=>(c st).bind fun x=>onB x fun q=>if q=true then a st else b st
def forR(tg:Tg)(body:Bd):List D->PSt->R Fl
 | [],st => .ok (.nx st)
 | d :: ds,st=>(tg d st).bind fun s1=>(body s1).bind fun x=>match x with
  | .nx s2=>forR tg body ds s2
  | .ct s2=>forR tg body ds s2
  | .bk s2 => .ok (.nx s2)
  | .rt v => .ok (.rt v)
def pN(tg:Tg)(it:ItE)(body:Bd):Bd:=fun st=>(it st).bind fun xs=>forR tg body xs st
def uA(c:Ex)(body:Bd):Nat->PSt->R Fl
 | 0,_ => .bad
 | n+1,st=>(c st).bind fun x=>onB x fun q=>if q=true then (body st).bind fun x=>(match x with
  | .nx s2=>uA c body n s2
  | .ct s2=>uA c body n s2
  | .bk s2 => .ok (.nx s2)
  | .rt v => .ok (.rt v)) else .ok (.nx st)
def aDm(n:Nat)(c:Ex)(body:Bd):Bd:=fun st=>uA c body n st
def cF(np n:Nat)(b:Bd)(ds:List D):R D :=
 aO (ds.length=np) ((b (ds.map (fun d=>some (.v d))++List.replicate (n - np) none)).bind fun x=>match x with
  | .nx _ => .ok .non
  | .rt d => .ok d
  | _ => .bad)
def aL5(c:String)(np n:Nat)(b:Bd)(x:Nat)(ds:List D):R D :=
 aO (ds.length=np) ((b (some (.o (.i x c []) []) :: (ds.map (fun d=>some (.v d))++List.replicate (n - np - 1) none))).bind fun (fl:Fl)=>match fl with
  | .nx st=>(match (st[0]?:Option (Option Sl)) with
   | some (some (.o (.i y c' ns) xs))=>aO (y=x) (.ok (.ins c' ns xs))
   | _ => .bad)
  | _ => .bad)
open Classical in
def aMt(c:String)(np n:Nat)(b:Bd)(ds:List D):R D:=if h:∃ d,∀ x,aL5 c np n b x ds = .ok d then .ok (choose h) else .bad
theorem bA8{b:Bd}{ds:List D}{d:D}(h:∀ x,aL5 c np n b x ds = .ok d):aMt c np n b ds = .ok d:=by
 unfold aMt
 rw [dif_pos ⟨d,h⟩]
 have:=Classical.choose_spec (p:=fun d=>∀ x,aL5 c np n b x ds = .ok d) ⟨d,h⟩ 0
 rw [h 0] at this
 exact this.symm
theorem aS8{b:Bd}{ds:List D}{d:D}(h:aMt c np n b ds = .ok d)(x:Nat):aL5 c np n b x ds = .ok d:=by
 unfold aMt at h
 split at h
 ·rename_i e
  have:=Classical.choose_spec e x
  rw [this]
  exact h
 ·cases h
end
end Pu
variable{d:Pu.D}{ds xs ys dv ks:List Pu.D}{f g:Pu.Ex}{r:Pu.Exs}{p:List Pu.D->Pu.R Pu.D}{it:Pu.ItE}{L bd bd':Pu.Bd}
namespace Pu
@[simp] theorem bg1:1<=big:=gG (by decide)
@[simp] theorem bg3:3<=big:=gG (by decide)
@[simp] theorem bQ(a:α)(f:α->R β):(R.ok a).bind f=f a:=rfl
@[simp] theorem bGs(f:α->R β):(R.bad:R α).bind f = .bad:=rfl
@[simp] theorem aDn(b:Bool)(f:Bool->R α):onB (.bl b) f=f b:=rfl
@[simp] theorem bK8(i:Int)(f:Int->R α):inI (.int i) f=f i:=rfl
@[simp] theorem bK9(st:PSt)(f:PSt->R Fl):aG2 (.ok (.nx st)) f=f st:=rfl
@[simp] theorem bKa(d:D)(f:PSt->R Fl):aG2 (.ok (.rt d)) f = .ok (.rt d):=rfl
@[simp] theorem bKb(i:Nat)(st:PSt):aC i st=(match st[i]? with | some (some (.v d))=>R.ok d | _ => .bad):=rfl
@[simp] theorem bI4(i:Nat)(st:PSt):fC i st=(match st[i]? with | some (some (.v d))=>R.ok d | some (some (.o k xs)) => .ok (ofK k xs) | _ => .bad):=rfl
@[simp] theorem bMi(d:D)(st:PSt):eC d st = .ok d:=rfl
@[simp] theorem bI5(op:Op2)(f g:Ex)(st:PSt):e2 op f g st=(f st).bind fun x=>(g st).bind fun y=>op x y:=rfl
@[simp] theorem bMj(op:D->R D)(f:Ex)(st:PSt):e1 op f st=(f st).bind op:=rfl
@[simp] theorem bMk(p:D->Bool)(f:Ex)(st:PSt):eB p f st=(f st).bind fun x=>aO (aEe x=true) (.ok (.bl (p x))):=rfl
@[simp] theorem bA9(f g:Ex)(st:PSt):aDl f g st=(f st).bind fun x=>onB x fun b=>if b=true then g st else .ok (.bl false):=rfl
@[simp] theorem bEr(f g:Ex)(st:PSt):eOr f g st=(f st).bind fun x=>onB x fun b=>if b=true then .ok (.bl true) else g st:=rfl
@[simp] theorem aS9(f:Ex)(st:PSt):rC f st=(f st).bind fun x=>onB x fun b => .ok (.bl (!b)):=rfl
@[simp] theorem bLq(c f g:Ex)(st:PSt):eIf c f g st=(c st).bind fun x=>onB x fun b=>if b=true then f st else g st:=rfl
@[simp] theorem bKc(st:PSt):aN st = .ok []:=rfl
@[simp] theorem aWj(f:Ex)(r:Exs)(st:PSt):aD f r st=(f st).bind fun x=>(r st).bind fun xs => .ok (x :: xs):=rfl
@[simp] theorem bKd(r:Exs)(st:PSt):aAp r st=(r st).bind fun xs=>aO (xs.length<=big) (.ok (.tup xs)):=rfl
@[simp] theorem bAa(r:Exs)(st:PSt):pG r st=(r st).bind fun xs=>aO (xs.length<=big) (.ok (.lst xs)):=rfl
@[simp] theorem aWk(p:List D->R D)(r:Exs)(st:PSt):aP p r st=(r st).bind p:=rfl
@[simp] theorem bLr(m:Mop)(f:Ex)(r:Exs)(st:PSt):eMt m f r st=(f st).bind fun x=>(r st).bind fun xs=>m x xs:=rfl
@[simp] theorem bI6(st:PSt):rD st = .ok none:=rfl
@[simp] theorem bI7(f:Ex)(st:PSt):gU f st=(f st).bind fun x=>inI x fun i => .ok (some i):=rfl
@[simp] theorem bEs(f:Ex)(lo hi:ExO)(st:PSt):eSl f lo hi st=(f st).bind fun x=>(lo st).bind fun l=>(hi st).bind fun h=>dSl x l h:=rfl
@[simp] theorem bAb(f:Ex)(st:PSt):aHi f st=(f st).bind fun x=>inI x fun j=>aO (-(big:Int)<=j/\j<=(big:Int)) (.ok (pM 0 j.toNat)):=rfl
@[simp] theorem bI8(tg:Tg)(b:Bd)(st:PSt):forR tg b [] st = .ok (.nx st):=rfl
theorem aL6(tg:Tg)(b:Bd)(d:D)(ds:List D)(st:PSt):forR tg b (d :: ds) st=(tg d st).bind fun s1=>(b s1).bind fun x=>match x with
  | .nx s2=>forR tg b ds s2
  | .ct s2=>forR tg b ds s2
  | .bk s2 => .ok (.nx s2)
  | .rt v => .ok (.rt v):=rfl
theorem aGs(c:Ex)(b:Bd)(n:Nat)(st:PSt):uA c b (n+1) st=(c st).bind fun x=>onB x fun q=>if q=true then (b st).bind fun x=>(match x with
  | .nx s2=>uA c b n s2
  | .ct s2=>uA c b n s2
  | .bk s2 => .ok (.nx s2)
  | .rt v => .ok (.rt v)) else .ok (.nx st):=rfl
@[simp] theorem aWl(f:Ex)(st:PSt):itE f st=(f st).bind fun x=>match x with | .lst xs => .ok xs | .tup xs => .ok xs | .str xs=>aO (xs.length<=big) (.ok (xs.map fun c => .str [c])) | _ => .bad:=rfl
@[simp] theorem bGt(n:Nat)(c:Ex)(b:Bd)(st:PSt):aDm n c b st=uA c b n st:=rfl
@[simp] theorem bAc(i:Nat)(f:Ex)(st:PSt):aCs i f st=(f st).bind fun d=>match st[i]? with | some (some (.o .l xs))=>aO (xs.length < big) (.ok (.nx (st.set i (some (.o .l (xs++[d])))))) | _ => .bad:=rfl
@[simp] theorem aWm(i:Nat)(f:Ex)(st:PSt):wU i f st=(f st).bind fun d=>match d with | .lst xs => .ok (.nx (st.set i (some (.o .l xs)))) | _ => .bad:=rfl
@[simp] theorem bAd(i:Nat)(f:Ex)(st:PSt):aUp i f st=(f st).bind fun d=>match d with | .lst ys=>(match st[i]? with | some (some (.o .l xs))=>aO (xs.length+ys.length<=big) (.ok (.nx (st.set i (some (.o .l (xs++ys)))))) | _ => .bad) | _ => .bad:=rfl
@[simp] theorem aWn(i:Nat)(c f:String)(e:Ex)(st:PSt):aL4 i c f e st=(e st).bind fun d=>match st[i]? with | some (some (.o (.i n c' ns) xs))=>aO (c'=c/\f ∉ ns/\ns.length < 900) (.ok (.nx (st.set i (some (.o (.i n c' (ns++[f])) (xs++[d])))))) | _ => .bad:=rfl
@[simp] theorem aEf(c f c':String)(ns:List String)(xs:List D):nD c f (.ins c' ns xs)=aO (c'=c) (ofO ((ns.zip xs).lookup f)):=rfl
@[simp] theorem aWo(c m:String)(p:List D->R D)(dv:List D)(f:Ex)(r:Exs)(st:PSt):fM c m p dv f r st=(f st).bind fun x=>(r st).bind fun xs=>match x with | .ins c' ns _=>aO (c'=c/\m ∉ ns) (p (x :: (xs++dv))) | _ => .bad:=rfl
@[simp] theorem bI9(i:Nat)(t:Bool)(st:PSt):aOk i t st = .ok (.nx (st.set i (some (.o (.d t []) [])))):=rfl
@[simp] theorem bIa(i:Nat)(g f:Ex)(st:PSt):sDPut i g f st=(f st).bind fun d=>(g st).bind fun k=>match st[i]? with | some (some (.o (.d t ks) vs))=>aO (keyOk t k=true/\vs.length < big) (.ok (.nx (st.set i (some (.o (.d t (aEd ks k)) (aIo ks vs k d)))))) | _ => .bad:=rfl
@[simp] theorem bIb(ks vs:List D):lF (.dct false ks vs) = .ok (.int ks.length):=rfl
@[simp] theorem bLs(is:List Nat)(b:Bd)(st:PSt):sFz is b st=b (is.foldl fz1 st):=rfl
@[simp] theorem bLt(st:PSt)(i:Nat):fz1 st i=(match st[i]? with | some (some (.o k xs))=>st.set i (some (.v (ofK k xs))) | _=>st):=rfl
@[simp] theorem bKe(f:Ex)(st:PSt):aIq f st=(f st).bind fun _ => .ok (.nx st):=rfl
@[simp] theorem bKf(st:PSt)(f:PSt->R Fl):aG2 (.ok (.bk st)) f = .ok (.bk st):=rfl
@[simp] theorem bKg(st:PSt)(f:PSt->R Fl):aG2 (.ok (.ct st)) f = .ok (.ct st):=rfl
@[simp] theorem bIc(f:PSt->R Fl):aG2 .bad f = .bad:=rfl
@[simp] theorem bId(i:Int):aG1 (.int i) = .ok (.int (-i)):=rfl
@[simp] theorem bKh(x y:List Nat):aGr (.str x) [.str y] = .ok (.int (rR (gF x y 0))):=rfl
@[simp] theorem bKi(x y:List Nat)(i:Int):aGr (.str x) [.str y,.int i]=aO (0<=i) (.ok (.int (rR (gF x y i.toNat)))):=rfl
@[simp] theorem bIe(x y:List Nat):aIp (.str x) [.str y]=(ofO (gF x y 0)).bind fun i => .ok (.int i):=rfl
@[simp] theorem bIf(x y:List Nat):aDk (.str x) [.str y]=aO (x.length<=big) (.ok (.str (tZ x y))):=rfl
@[simp] theorem bCp(i:Nat):rR (some i)=i:=rfl
@[simp] theorem bCq:rR none = -1:=rfl
@[simp] theorem bGu(i j:Int):aL2 (.int i) (.int j) = .ok (.int (if j > i then j else i)):=rfl
@[simp] theorem bGv(i j:Int):aL3 (.int i) (.int j) = .ok (.int (if j < i then j else i)):=rfl
@[simp] theorem bKj(x y:List Nat):dIn (.str x) (.str y) = .ok (.bl (gF y x 0).isSome):=rfl
@[simp] theorem bEt(x y:List Nat):rT (.str x) (.str y) = .ok (.bl (!(gF y x 0).isSome)):=rfl
@[simp] theorem bLu(a b:Bool):dIs (.bl a) (.bl b) = .ok (.bl (a==b)):=rfl
@[simp] theorem bIg(x:List D):lF (.tup x) = .ok (.int x.length):=rfl
@[simp] theorem bKk(i j:Int):dGe (.int i) (.int j) = .ok (.bl (decide (j<=i))):=rfl
@[simp] theorem bIh(x y:List D):fJ (.lst x) (.lst y)=aO (x.length+y.length<=big) (.ok (.lst (x++y))):=rfl
@[simp] theorem bKl(x:List D)(l h:Option Int):dSl (.lst x) l h = .ok (.lst (cut x l h)):=rfl
@[simp] theorem bIi:aEe .non=true:=rfl
@[simp] theorem bKm(b:Bool):aEe (.bl b)=true:=rfl
@[simp] theorem bIj(b:Int):aEe (.int b)=true:=rfl
@[simp] theorem bIk(b:List Nat):aEe (.str b)=true:=rfl
@[simp] theorem bIl(b:List D):aEe (.tup b)=true:=rfl
@[simp] theorem bIm(b:List D):aEe (.lst b)=true:=rfl
@[simp] theorem bIn(t:Bool)(a b:List D):aEe (.dct t a b)=true:=rfl
@[simp] theorem bLv(i:Nat)(d:D)(st:PSt):tgN i d st = .ok (st.set i (some (.v d))):=rfl
@[simp] theorem bLw(is:List Nat)(xs:List D)(st:PSt):tgT is (.tup xs) st=vR is xs st:=rfl
@[simp] theorem bKn(is:List Nat)(xs:List D)(st:PSt):tgT is (.lst xs) st=vR is xs st:=rfl
@[simp] theorem bEu(st:PSt):vR [] [] st = .ok st:=rfl
@[simp] theorem bCr(i:Nat)(is:List Nat)(d:D)(ds:List D)(st:PSt):vR (i :: is) (d :: ds) st=vR is ds (st.set i (some (.v d))):=rfl
@[simp] theorem bKo(st:PSt):clr [] st=st:=rfl
@[simp] theorem bIo(i:Nat)(is:List Nat)(st:PSt):clr (i :: is) st=clr is (st.set i none):=rfl
@[simp] theorem bGw(tg:Tg)(c f:Ex)(st:PSt):uT tg c f st [] = .ok []:=rfl
theorem aIr(tg:Tg)(c f:Ex)(st:PSt)(d:D)(ds:List D):uT tg c f st (d :: ds)=(tg d st).bind fun s1=>(c s1).bind fun x=>onB x fun b=>if b=true then (f s1).bind fun y=>(uT tg c f st ds).bind fun ys => .ok (y :: ys) else uT tg c f st ds:=rfl
@[simp] theorem bIp(st:PSt):gW st = .ok (.bl true):=rfl
@[simp] theorem aWp(is:List Nat)(tg:Tg)(it:ItE)(c f:Ex)(st:PSt):dX is tg it c f st=(it st).bind fun xs=>aO (xs.length<=big) ((uT tg c f (clr is st) xs).bind fun ys => .ok (.lst ys)):=rfl
@[simp] theorem bIq(st:PSt):cY st = .ok (.nx st):=rfl
@[simp] theorem aSa(a b:Bd)(st:PSt):aU a b st=aG2 (a st) b:=rfl
@[simp] theorem bAe(i:Nat)(f:Ex)(st:PSt):cO i f st=(f st).bind fun d => .ok (.nx (st.set i (some (.v d)))):=rfl
@[simp] theorem aHv(f:Ex)(st:PSt):cL f st=(f st).bind fun d => .ok (.rt d):=rfl
@[simp] theorem aR8(c:Ex)(a b:Bd)(st:PSt):sIf c a b st=(c st).bind fun x=>onB x fun q=>if q=true then a st else b st:=rfl
@[simp] theorem bAf(tg:Tg)(it:ItE)(body:Bd)(st:PSt):pN tg it body st=(it st).bind fun xs=>forR tg body xs st:=rfl
@[simp] theorem bIr(i j:Int):fJ (.int i) (.int j) = .ok (.int (i+j)):=rfl
@[simp] theorem bIs(x y:List Nat):fJ (.str x) (.str y)=aO (x.length+y.length<=big) (.ok (.str (x++y))):=rfl
@[simp] theorem bIt(i j:Int):aKi (.int i) (.int j) = .ok (.int (i - j)):=rfl
@[simp] theorem bIu(i j:Int):aR4 (.int i) (.int j)=aO ((-18446744073709551616 < i/\i < 18446744073709551616)\/(-18446744073709551616 < j/\j < 18446744073709551616)) (.ok (.int (i * j))):=rfl
@[simp] theorem bIv(x:List Nat)(j:Int):aR4 (.str x) (.int j)=aO (x.length * j.toNat<=big /\ -4611686018427387904<=j/\j < 4611686018427387904) (.ok (.str (rep j.toNat x))):=rfl
@[simp] theorem bGx(i j:Int):nW (.int i) (.int j)=aO (0 < j/\j < 1073741824) (.ok (.int (i / j))):=rfl
@[simp] theorem bIw(i j:Int):pL (.int i) (.int j)=aO (0 < j) (.ok (.int (i % j))):=rfl
@[simp] theorem bIx(i j:Int):aWi (.int i) (.int j)=aO (0<=j/\j<=1000000/\i.natAbs < 18446744073709551616) (.ok (.int (i ^ j.toNat))):=rfl
@[simp] theorem bKp(i j:Int):dLe (.int i) (.int j) = .ok (.bl (decide (i<=j))):=rfl
@[simp] theorem bKq(i j:Int):dGt (.int i) (.int j) = .ok (.bl (decide (j < i))):=rfl
@[simp] theorem bLx(x y:D):dEq x y=aO (dep x<=64/\plain x=true/\plain y=true) (.ok (.bl (eqD x y))):=rfl
@[simp] theorem bLy(x y:D):dNe x y=aO (dep x<=64/\plain x=true/\plain y=true) (.ok (.bl (!eqD x y))):=rfl
@[simp] theorem bKr(i:Int):dep (.int i)=0:=by unfold dep;rfl
@[simp] theorem bKs(s:List Nat):dep (.str s)=0:=by unfold dep;rfl
@[simp] theorem bGy(i:Int):plain (.int i)=true:=by unfold plain;rfl
@[simp] theorem bGz(s:List Nat):plain (.str s)=true:=by unfold plain;rfl
@[simp] theorem bH0(x:List D):plain (.tup x)=fK x:=by conv=>lhs;unfold plain
@[simp] theorem bH1(x:List D):plain (.lst x)=fK x:=by conv=>lhs;unfold plain
@[simp] theorem bH2(t:Bool)(k v:List D):plain (.dct t k v)=false:=by unfold plain;rfl
@[simp] theorem bH3(c:String)(n:List String)(v:List D):plain (.ins c n v)=false:=by unfold plain;rfl
@[simp] theorem bH4(c:String)(n:List String)(v:List D):plain (.exn c n v)=false:=by unfold plain;rfl
@[simp] theorem bIy(f:String):plain (.fn f)=false:=by unfold plain;rfl
@[simp] theorem nJ(a:D)(x:List D):fK (a :: x)=(plain a&&fK x):=by conv=>lhs;unfold fK
@[simp] theorem aL7(a:D)(x:List D):iC (a :: x)=max (dep a) (iC x):=by conv=>lhs;unfold iC
@[simp] theorem bKt(i j:Int):eqD (.int i) (.int j)=(i==j):=by unfold eqD;rfl
@[simp] theorem bKu(i j:List Nat):eqD (.str i) (.str j)=(i==j):=by unfold eqD;rfl
@[simp] theorem bIz(x:List Nat):lF (.str x)=aO (x.length<=big) (.ok (.int x.length)):=rfl
@[simp] theorem bJ0(x:List D):lF (.lst x) = .ok (.int x.length):=rfl
@[simp] theorem bKv(x:List Nat)(i:Int):dIx (.str x) (.int i)=aO (x.length<=big) (ofO ((atI x i).map fun c => .str [c])):=rfl
@[simp] theorem bKw(x:List D)(i:Int):dIx (.tup x) (.int i)=ofO (atI x i):=rfl
@[simp] theorem bKx(x:List D)(i:Int):dIx (.lst x) (.int i)=ofO (atI x i):=rfl
@[simp] theorem bKy(x:List Nat)(l h:Option Int):dSl (.str x) l h=aO (x.length<=big) (.ok (.str (cut x l h))):=rfl
@[simp] theorem bMl(xs:List D):ofK .l xs = .lst xs:=rfl
@[simp] theorem bMm(t:Bool)(ks xs:List D):ofK (.d t ks) xs = .dct t ks xs:=rfl
@[simp] theorem bMn(n:Nat)(c:String)(ns:List String)(xs:List D):ofK (.i n c ns) xs = .ins c ns xs:=rfl
@[simp] theorem bJ1(a:α):ofO (some a) = .ok a:=rfl
@[simp] theorem gR{c:Prop}{r:R α}(h:c):aO c r=r:=aW h
@[simp] theorem aSb{b:Bd}  (h:ds.length=np):cF np n b ds=(b (ds.map (fun d=>some (.v d))++List.replicate (n - np) none)).bind fun x=>match x with
  | .nx _ => .ok .non
  | .rt d => .ok d
  | _ => .bad:=aW h
theorem bEv{xs:List α}{i:Int}(h0:0<=i)(h:i < xs.length):atI xs i=some (xs[i.toNat]'(by omega)):=by
 unfold atI ixN
 rw [if_pos h0,if_pos h]
 exact List.getElem?_eq_getElem (by omega)
theorem atI_nat{xs:List α}{i:Nat}(h:i < xs.length):atI xs (i:Int)=some xs[i]:=by
 rw [bEv (by omega) (by omega)]
 simp
end Pu
namespace Pu
def aOl:D->R D
 | .lst x => .ok (.lst x)
 | .tup x => .ok (.lst x)
 | _ => .bad
def bls:List D->R (List Bool)
 | [] => .ok []
 | .bl b :: r=>(bls r).bind fun x => .ok (b :: x)
 | _ :: _ => .bad
def zY:List D->R (List Int)
 | [] => .ok []
 | .int i :: r=>(zY r).bind fun x => .ok (i :: x)
 | _ :: _ => .bad
def aEg:List D->R (List (List Nat))
 | [] => .ok []
 | .str s :: r=>(aEg r).bind fun x => .ok (s :: x)
 | _ :: _ => .bad
def aHj:D->R D
 | .lst x=>(bls x).bind fun l => .ok (.bl (l.all id))
 | _ => .bad
def aIs:List Int->Int
 | []=>0
 | i :: r=>r.foldl (fun a b=>if b > a then b else a) i
noncomputable def aGt:D->R D
 | .lst x=>(zY x).bind fun l=>aO (0 < l.length) (.ok (.int (aIs l)))
 | _ => .bad
def aEh(sep:List Nat):List (List Nat)->List Nat
 | []=>[]
 | [x]=>x
 | x :: r=>x++sep++aEh sep r
noncomputable def aGu:Mop
 | .str sep,[.lst x]=>(aEg x).bind fun l=>aO ((l.map List.length).sum+l.length * sep.length<=big) (.ok (.str (aEh sep l)))
 | _,_ => .bad
theorem aWq:∀ {x:List D} {l:List Bool},bls x = .ok l->x=l.map D.bl
 | [],l,h=>by cases h;rfl
 | d :: x,l,h=>by
  cases d<;>first | (cases h;done) | skip
  obtain ⟨l',h1,h2⟩:=R.ok_of h
  cases h2
  rw [aWq h1];rfl
theorem wV:∀ {x:List D} {l:List Int},zY x = .ok l->x=l.map D.int
 | [],l,h=>by cases h;rfl
 | d :: x,l,h=>by
  cases d<;>first | (cases h;done) | skip
  obtain ⟨l',h1,h2⟩:=R.ok_of h
  cases h2
  rw [wV h1];rfl
theorem aOm:∀ {x:List D} {l:List (List Nat)},aEg x = .ok l->x=l.map D.str
 | [],l,h=>by cases h;rfl
 | d :: x,l,h=>by
  cases d<;>first | (cases h;done) | skip
  obtain ⟨l',h1,h2⟩:=R.ok_of h
  cases h2
  rw [aOm h1];rfl
theorem aSc:∀ (l:List Bool),bls (l.map D.bl) = .ok l
 | []=>rfl
 | b :: l=>by show (bls (l.map D.bl)).bind _=_;rw [aSc l];rfl
theorem aL8:∀ (l:List Int),zY (l.map D.int) = .ok l
 | []=>rfl
 | b :: l=>by show (zY (l.map D.int)).bind _=_;rw [aL8 l];rfl
theorem aL9:∀ (l:List (List Nat)),aEg (l.map D.str) = .ok l
 | []=>rfl
 | b :: l=>by show (aEg (l.map D.str)).bind _=_;rw [aL9 l];rfl
theorem aG3:∀ (r:List Int) (a:Int),a<=r.foldl (fun a b=>if b > a then b else a) a/\(∀ x∈r,x<=r.foldl (fun a b=>if b > a then b else a) a)/\(r.foldl (fun a b=>if b > a then b else a) a=a\/r.foldl (fun a b=>if b > a then b else a) a∈r)
 | [],a=>⟨Int.le_refl _,fun _ h=>(by cases h),.inl rfl⟩
 | b :: r,a=>by
  obtain ⟨h1,h2,h3⟩:=aG3 r (if b > a then b else a)
  rw [List.foldl_cons]
  have ha:a<=(if b > a then b else a):=by split<;>omega
  have hb:b<=(if b > a then b else a):=by split<;>omega
  refine ⟨Int.le_trans ha h1,fun x hx=>?_,?_⟩
  ·rcases List.mem_cons.mp hx with rfl | hx
   ·exact Int.le_trans hb h1
   ·exact h2 x hx
  ·rcases h3 with h3 | h3
   ·rw [h3]
    split
    ·exact .inr mem_cons_self
    ·exact .inl rfl
   ·exact .inr (mem_cons_of_mem _ h3)
theorem bAg{l:List Int}{m:Int}(hm:m∈l)(hx:∀ x∈l,x<=m):aIs l=m:=by
 cases l with
 | nil=>cases hm
 | cons i r =>
  obtain ⟨h1,h2,h3⟩:=aG3 r i
  have ha:aIs (i :: r)<=m:=by
   rcases h3 with h3 | h3
   ·exact hx _ (by show r.foldl _ i∈_;rw [h3];exact mem_cons_self)
   ·exact hx _ (mem_cons_of_mem _ h3)
  have hb:m<=aIs (i :: r):=by
   rcases List.mem_cons.mp hm with e | e
   ·rw [e];exact h1
   ·exact h2 _ e
  omega
def R.nox{α:Type}(r:R α):R α:=match r with
 | .exc _ => .bad
 | r=>r
@[simp] theorem bKz(a:α):(R.ok a).nox = .ok a:=rfl
def pNX(p:List D->R D):List D->R D:=fun ds=>R.nox (p ds)
def aWr:List (List String × List String × (String->Bd))->String->PSt->R Fl
 | [],_,_ => .bad
 | (yes,no,b) :: hs,c,st=>if c∈yes then (b c st).nox else if c∈no then aWr hs c st else .bad
def bLz(b:Bd)(hs:List (List String × List String × (String->Bd))):Bd:=fun st=>match b st with
 | .exc (.exn c [] [])=>aWr hs c st
 | .exc _ => .bad
 | r=>r
inductive NFl where
 | nx (xss:List (List D)) (st:PSt) | rt (d:D)
abbrev NB:=List (List D)->PSt->R NFl
def bM0(j:Nat)(f:Ex):NB:=fun xss st=>(f st).bind fun d => .ok (.nx xss (st.set j (some (.v d))))
def bM1(f:Ex):NB:=fun _ st=>(f st).bind fun d => .ok (.rt d)
def nIf(c:Ex)(a b:NB):NB:=fun xss st=>(c st).bind fun x=>onB x fun q=>if q=true then a xss st else b xss st
noncomputable def bM2(g f:Ex):NB:=fun xss st=>(g st).bind fun x=>inI x fun j=>(f st).bind fun d=>(ofO (ixN xss.length j)).bind fun k=>match xss[k]? with
 | some ys=>aO (ys.length < big) (.ok (.nx (xss.set k (ys++[d])) st))
 | none => .bad
def aWs(i:Nat):Bd:=fun st=>match st[i]? with
 | some (some (.o .l xs)) => .ok (.rt (.lst xs))
 | _ => .bad
def aEi(bd:Bd)(i:Nat):Bd:=fun st=>match bd st with
 | .ok (.nx s)=>aWs i s
 | _ => .bad
def aGv(l:List Int):List Int:=l.foldl (fun acc x=>if acc.any (· == x) then acc else acc++[x]) []
def atom:D->Bool
 | .non=>true
 | .bl _=>true
 | .int _=>true
 | .str _=>true
 | _=>false
def bJ2:D->Bool
 | .lst xs=>xs.all atom
 | _=>false
noncomputable section
def bEw:D->R D
 | .lst xs=>aO (xs.length<=big/\xs.all bJ2=true) (.ok (.lst xs))
 | _ => .bad
def unL:D->List D
 | .lst xs=>xs
 | _=>[]
open Classical in
def bMo(c:String)(np n:Nat)(b:Bd)(ds:List D):R D:=if h:∃ r,∀ x,aL5 c np n b x ds=r then choose h else .bad
end
noncomputable section
end
noncomputable section
end
def aHk:List Nat->List D->List D
 | c :: z,d :: ds => .tup [.str [c],d] :: aHk z ds
 | _,_=>[]
def bCs(f g:Ex):ItE:=fun st=>(f st).bind fun x=>(g st).bind fun y=>match x,y with
 | .str z,.lst ds => .ok (aHk z ds)
 | _,_ => .bad
noncomputable section
def aEj:D->R D
 | .int n=>aO (-(big:Int)<=n/\n<=(big:Int)) (.ok (.lst (pM 0 n.toNat)))
 | _ => .bad
def aR9(i:Nat)(g f:Ex):Bd:=fun st=>(g st).bind fun k=>(f st).bind fun d=>aO (aOj k=true/\atom d=true) (.ok (.nx (st.set i (some (.o (.d false [k]) [d])))))
end
noncomputable section
def aUq:Op2
 | .int i,.int j=>aO (0<=j/\j<=1000000/\i.natAbs < 18446744073709551616) (.ok (.int (i * 2 ^ j.toNat)))
 | _,_ => .bad
def aWt:Op2
 | .int i,.int j=>aO (0<=j) (.ok (.int (i / 2 ^ j.toNat)))
 | _,_ => .bad
def aUr:Op2
 | .int i,.int j=>aO (0<=i/\0<=j) (.ok (.int ((i.toNat &&& j.toNat:Nat):Int)))
 | _,_ => .bad
def dOr:Op2
 | .int i,.int j=>aO (0<=i/\0<=j) (.ok (.int ((i.toNat ||| j.toNat:Nat):Int)))
 | _,_ => .bad
def aLa:Mop
 | .lst xs,[.int k]=>(zY xs).bind fun l=>(ofO (l.findIdx? fun i=>i==k)).bind fun n=>aO (xs.length<=big) (.ok (.int (n:Int)))
 | _,_ => .bad
end
def aWu(i:Int):Nat:=if i=0 then 0 else i.natAbs.log2+1
def aSd:D->R D
 | .int i => .ok (.int (aWu i:Nat))
 | _ => .bad
noncomputable def aAq:D->R D
 | .dct false ks _=>aO (ks.length<=big) (.ok (.lst ks))
 | _ => .bad
noncomputable def aG4:D->R D
 | .dct false ks ds=>aO (ks.length<=big) (.ok (.lst (List.zipWith (fun k d => .tup [k,d]) ks ds)))
 | _ => .bad
def aCv(bd:Bd)(f:Ex):Bd:=fun st=>match bd st with
 | .ok (.nx s)=>(f s).bind fun d=>match d with
  | .lst xs => .ok (.rt (.lst xs))
  | _ => .bad
 | _ => .bad
def aMu:Op2
 | .int i,.int j => .ok (.bl (decide (i < j)))
 | _,_ => .bad
noncomputable def fD:Op2
 | .int i,.int j=>aO ((-18446744073709551616 < i/\i < 18446744073709551616)\/(-18446744073709551616 < j/\j < 18446744073709551616)) (.ok (.int (i * j)))
 | _,_ => .bad
@[simp] theorem bJ3(i j:Int):aMu (.int i) (.int j) = .ok (.bl (decide (i < j))):=rfl
@[simp] theorem bH5(i j:Int):fD (.int i) (.int j)=aO ((-18446744073709551616 < i/\i < 18446744073709551616)\/(-18446744073709551616 < j/\j < 18446744073709551616)) (.ok (.int (i * j))):=rfl
end Pu
variable{nb:Pu.NB}
namespace Pu
noncomputable section
def aMv(l:List Int):List Int:=l.mergeSort fun a b=>decide (a<=b)
theorem aIt(l:List Int):(aMv l).Perm l:=List.mergeSort_perm _ _
theorem aOn(l:List Int):(aMv l).Pairwise (· <= ·):=by
 have h:=List.pairwise_mergeSort (le:=fun a b:Int=>decide (a<=b)) (fun a b c h1 h2=>by
  have:=of_decide_eq_true h1
  have:=of_decide_eq_true h2
  exact decide_eq_true (by omega)) (fun a b=>by
  rcases Int.le_total a b with h | h
  ·simp [h]
  ·simp [h]) l
 exact h.imp fun h=>of_decide_eq_true h
def aHw:D->R D
 | .lst x=>(zY x).bind fun l=>aO (l.length<=4000/\(aGv l).length < 64) (.ok (.lst ((aMv (aGv l)).map D.int)))
 | _ => .bad
end
end Pu
namespace Pu
noncomputable section
def aGw:D->D->D->R D
 | .dct t ks vs,k,x=>aO (keyOk t k=true) (if vP ks k=true then ofO (aEc ks vs k) else .ok x)
 | _,_,_ => .bad
def bEx(f g h:Ex):Ex:=fun st=>(f st).bind fun d=>(g st).bind fun k=>(h st).bind fun x=>aGw d k x
end
end Pu
namespace Pu
noncomputable section
def aRa(t:List (String × (List D->R D)))(i:Nat)(r:Exs):Ex:=fun st=>match st[i]? with
 | some (some (.v (.fn f)))=>(ofO (t.lookup f)).bind fun p=>(r st).bind p
 | _ => .bad
def aEk(ns:List Int):D->R D:=fun x=>aO (plain x=true) (.ok (.bl (!inD x (ns.map D.int))))
def aIu(r:Exs)(g:Ex):Ex:=fun st=>(r st).bind fun xs=>(g st).bind fun y=>inI y fun j=>aO (xs.length<=big/\xs.length * j.toNat<=big /\ -4611686018427387904<=j/\j < 4611686018427387904) (.ok (.lst (rep j.toNat xs)))
def aMw(i:Nat)(g f:Ex):Bd:=fun st=>(g st).bind fun k=>(f st).bind fun d=>aO (aOj k=true) (.ok (.nx (st.set i (some (.o (.d false [k]) [d])))))
end
end Pu
namespace Pu
@[irreducible] def huge:Nat:=2 ^ 9000
theorem bAh:huge=2 ^ 9000:=by unfold huge;rfl
noncomputable section
end
end Pu
namespace Pu
noncomputable section
def aLb(c:String):Ex:=fun _ => .ok (.ins c [] [])
def aIv(f g:Ex):Ex:=fun st=>match f st with
 | .bad=>g st
 | r=>r
theorem bEy{st:PSt}  (h:aIv f g st = .ok d):f st = .ok d\/g st = .ok d:=by
 unfold aIv at h
 split at h
 ·exact .inr h
 ·exact .inl h
def bAi(c:String):D->R D
 | .ins c' _ _=>aO (c'=c) (.ok (.bl true))
 | _ => .bad
def aWv(i j:Nat)(p:List D->R D)(f:Ex):Bd:=fun st=>(f st).bind fun x=>match st[j]? with
 | some (some (.o .l ys))=>(match ys.getLast? with
  | some d=>aO (ys.length<=big) ((p [x,d]).bind fun y => .ok (.nx ((st.set j (some (.o .l ys.dropLast))).set i (some (.v y)))))
  | none => .bad)
 | _ => .bad
end
end Pu
namespace Pu
noncomputable section
def aGx:Bd:=aU (sIf (e2 aMu (aC 1) (e1 lF (aC 0))) (cL (e2 pL (e2 dIx (aC 0) (aC 1)) (e2 aWi (eC (.int 10)) (eC (.int 30))))) (cY)) (aU (cO 2 (eC (.int 0))) (aU (sIf (e2 dGt (e1 lF (aC 0)) (eC (.int 0))) (cO 2 (e2 pL (e2 dIx (aC 0) (e2 pL (aC 1) (e1 lF (aC 0)))) (eC (.int 999983)))) (cY)) (cL (e2 pL (e2 fD (e2 fJ (e2 fJ (e2 fD (aC 2) (eC (.int 48271))) (e2 fD (eC (.int 7919)) (aC 1))) (eC (.int 11))) (e2 fJ (aC 1) (eC (.int 2)))) (eC (.int 2147483647))))))
def rE:List D->R D:=cF 2 3 aGx
def aGy:Bd:=aU (cO 3 (e2 pL (e2 fJ (aC 0) (e2 fD (eC (.int 15485863)) (aC 1))) (eC (.int 2147483629)))) (aU (cO 3 (e2 pL (e2 fD (e2 pL (e2 fD (aC 3) (aC 3)) (eC (.int 2147483647))) (eC (.int 69621))) (eC (.int 2147483629)))) (cL (e2 pL (e2 nW (e2 pL (e2 fD (aC 3) (aC 3)) (eC (.int 2147483587))) (eC (.int 32))) (aC 2))))
def cZ:List D->R D:=cF 3 4 aGy
def rY(st:PSt):R Fl:=(aU (aCs 2 (e2 pL (aC 0) (aC 3))) (cO 0 (e2 nW (aC 0) (aC 3)))) st
def aCw:Bd:=aU (wU 2 (pG (aN))) (aU (pN (tgN 3) (itE (aC 1)) (rY)) (sFz [2] (cL (aC 2))))
def dM:List D->R D:=cF 2 4 aCw
def nF:Bd:=cL (aDl (eB isIn (aC 0)) (rC (eB bEp (aC 0))))
def fV:List D->R D:=cF 1 1 nF
def nY:Bd:=sIf (eOr (rC (aP fV (aD (aC 0) (aN)))) (e1 (aEk [2,3]) (aC 0))) (rW) (cY)
def lG:List D->R D:=cF 1 1 nY
def nG:Bd:=cL (aDl (aP fV (aD (aC 0) (aN))) (aDl (e2 dGe (aC 0) (eC (.int 0))) (e2 aMu (aC 0) (aC 1))))
def eO:List D->R D:=cF 2 2 nG
def iK:Bd:=aU (aIq (aP lG (aD (aC 2) (aN)))) (aU (sIf (eOr (rC (aP eO (aD (aC 1) (aD (e2 fJ (eC (.int 6)) (eC (.int 1))) (aN))))) (e2 dEq (aC 1) (eC (.int 0)))) (rW) (cY)) (sIf (rC (aP eO (aD (aC 0) (aD (e2 fJ (aC 1) (eC (.int 1))) (aN))))) (rW) (cY)))
def dR:List D->R D:=cF 3 3 iK
def nZ:Bd:=aU (sIf (e2 dGt (aC 0) (aC 1)) (cL (eC (.int 7))) (cY)) (cL (e2 aL2 (aC 0) (eC (.int 0))))
def jX:List D->R D:=cF 2 2 nZ
def tE:Bd:=aU (sIf (e2 aMu (aC 0) (eC (.int 0))) (cL (eC (.int 7))) (cY)) (cL (e2 aL3 (aC 0) (aC 1)))
def oA:List D->R D:=cF 2 2 tE
def qI(st:PSt):R Fl:=(sIf (aDl (e2 dIn (aC 8) (aC 2)) (e2 rT (aC 8) (fC 3))) (aU (sDPut 3 (aC 8) (e2 fJ (e2 dIx (fC 3) (aC 6)) (aC 7))) (aCs 4 (aC 8))) (cY)) st
def qJ(st:PSt):R Fl:=(aU (cO 6 (e2 dIx (fC 4) (aC 5))) (aU (pN (tgT [7,8]) (bCs (eC (.str [97,98,99])) (e2 dIx (aC 0) (aC 6))) (qI)) (cO 5 (e2 fJ (aC 5) (eC (.int 1)))))) st
def qK(st:PSt):R D:=(e2 aMu (aC 5) (e1 lF (fC 4))) st
def rF:Bd:=aU (aR9 3 (aC 1) (eC (.str []))) (aU (wU 4 (pG (aD (aC 1) (aN)))) (aU (cO 5 (eC (.int 0))) (aU (aDm 100000 (qK) (qJ)) (sFz [3] (cL (aC 3))))))
def gY:List D->R D:=cF 3 9 rF
def pO:Bd:=cL (aDl (eB aUo (aC 0)) (aDl (e2 dGe (e1 lF (aC 0)) (eC (.int 1))) (e2 dLe (e1 lF (aC 0)) (aC 1))))
def eQ:List D->R D:=cF 2 2 pO
def aDo(st:PSt):R D:=(aP eO (aD (aC 3) (aD (aC 2) (aN)))) st
def aIw:Bd:=cL (aDl (e2 dEq (e1 lF (aC 0)) (aC 1)) (e1 aHj (dX [3] (tgN 3) (itE (aC 0)) gW (aDo))))
def aEm:List D->R D:=cF 3 4 aIw
def vU(st:PSt):R D:=(aP eQ (aD (aC 1) (aD (eC (.int 3)) (aN)))) st
def vV(st:PSt):R D:=(aP aEm (aD (aC 1) (aD (e1 lF (e2 dIx (aC 0) (eC (.int 0)))) (aD (e1 lF (aC 0)) (aN))))) st
def aAr:Bd:=aU (sIf (rC (aP eQ (aD (aC 0) (aD (eC (.int 8)) (aN))))) (cL (eC (.bl false))) (cY)) (aU (sIf (rC (e1 aHj (dX [1] (tgN 1) (itE (aC 0)) gW (vU)))) (cL (eC (.bl false))) (cY)) (cL (e1 aHj (dX [1] (tgN 1) (itE (aC 0)) gW (vV)))))
def uU:List D->R D:=cF 1 2 aAr
def vW(st:PSt):R D:=(aDl (aP fV (aD (aC 2) (aN))) (e2 dGe (aC 2) (eC (.int 0)))) st
def aAs:Bd:=aU (sIf (eOr (rC (eB aUo (aC 0))) (e2 dNe (e1 lF (aC 0)) (aC 1))) (cL (eC (.bl false))) (cY)) (cL (e1 aHj (dX [2] (tgN 2) (itE (aC 0)) gW (vW))))
def uV:List D->R D:=cF 2 3 aAs
def jY(st:PSt):R D:=(e1 aOl (aC 3)) st
def fW:Bd:=aU (sIf (rC (aP uU (aD (aC 1) (aN)))) (rW) (cY)) (aU (sIf (rC (aP uV (aD (aC 2) (aD (e1 lF (aC 1)) (aN))))) (rW) (cY)) (aU (aL4 0 "Machine" "steps" (dX [3] (tgN 3) (itE (aC 1)) gW (jY))) (aU (aL4 0 "Machine" "ranks" (e1 aOl (aC 2))) (aU (aL4 0 "Machine" "many" (e1 lF (aC 1))) (aL4 0 "Machine" "letters" (e1 lF (e2 dIx (aC 1) (eC (.int 0)))))))))
def fX:List D->R D:=aMt "Machine" 2 4 fW
def uB(st:PSt):R D:=(aRa [("room_from_on", jX),("room_up_to", oA)] 3 (aD (e2 aKi (e2 fD (aC 2) (aC 5)) (e2 fD (aC 8) (aC 1))) (aD (aC 1) (aN)))) st
def oE(st:PSt):R Fl:=(sDPut 4 (aC 5) (dX [8] (tgN 8) (aHi (aC 2)) gW (uB))) st
def oF(st:PSt):R D:=(eIf (e2 dEq (aC 5) (eC (.int 7))) (eC (.int 1)) (eC (.int 0))) st
def uC(st:PSt):R D:=(eMt aLa (aC 6) (aD (aC 9) (aN))) st
def oG(st:PSt):R D:=(dX [9] (tgN 9) (itE (e2 dIx (fC 4) (aC 5))) gW (uC)) st
def yF:Bd:=aU (aIq (aP dR (aD (aC 0) (aD (aC 1) (aD (aC 2) (aN)))))) (aU (aMw 4 (eC (.int 7)) (aIu (aD (eC (.int 7)) (aN)) (aC 2))) (aU (pN (tgN 5) (aHi (e2 fJ (aC 1) (eC (.int 1)))) (oE)) (aU (sFz [4] (cO 6 (e1 aAq (aP gY (aD (aC 4) (aD (aC 0) (aD (e1 aAq (aC 4)) (aN)))))))) (aU (cO 7 (dX [5] (tgN 5) (itE (aC 6)) gW (oF))) (cL (aP fX (aD (dX [5] (tgN 5) (itE (aC 6)) gW (oG)) (aD (aC 7) (aN)))))))))
def oH:List D->R D:=cF 4 10 yF
def aSe:Bd:=cL (aP oH (aD (aC 0) (aD (aC 1) (aD (aC 2) (aD (eC (.fn "room_up_to")) (aN))))))
def aHx:List D->R D:=cF 3 3 aSe
def aLc:Bd:=cL (aP oH (aD (aC 0) (aD (aC 1) (aD (aC 2) (aD (eC (.fn "room_from_on")) (aN))))))
def aC7:List D->R D:=cF 3 3 aLc
def aAt(st:PSt):R Fl:=(aU (cO 2 (e2 pL (aC 0) (aC 1))) (aU (cO 0 (aC 1)) (cO 1 (aC 2)))) st
def aAu(st:PSt):R D:=(e2 dGt (aC 1) (eC (.int 0))) st
def yG:Bd:=aU (aDm 100000 (aAu) (aAt)) (cL (aC 0))
def tH:List D->R D:=cF 2 3 yG
def aAv:Bd:=cL (pG (aD (aLb "EarlyNo") (aD (aLb "EarlyYes") (aD (aLb "Settled") (aD (aLb "Again") (aD (aLb "Lasting") (aN)))))))
def uW:List D->R D:=cF 0 0 aAv
def uD:Bd:=cL (eC (.str [101,97,114,108,121,32,110,111]))
def jZ:List D->R D:=cF 1 1 uD
def rZ:Bd:=cL (eC (.str [101,97,114,108,121,32,121,101,115]))
def jK:List D->R D:=cF 1 1 rZ
def uE:Bd:=cL (eC (.str [115,101,116,116,108,101,100]))
def kE:List D->R D:=cF 1 1 uE
def yH:Bd:=cL (eC (.str [97,103,97,105,110]))
def oJ:List D->R D:=cF 1 1 yH
def uF:Bd:=cL (eC (.str [108,97,115,116,105,110,103]))
def kI:List D->R D:=cF 1 1 uF
def aDp:Bd:=cL (e2 dEq (e2 aUr (e2 aWt (aC 0) (aC 1)) (eC (.int 1))) (eC (.int 1)))
def jB:List D->R D:=cF 2 2 aDp
def aEn(st:PSt):R D:=(aC 1) st
def aEo(st:PSt):R D:=(aP jB (aD (aC 0) (aD (aC 1) (aN)))) st
def aDq:Bd:=cL (dX [1] (tgN 1) (aHi (e1 aSd (aC 0))) (aEo) (aEn))
def dO:List D->R D:=cF 1 2 aDq
def aGz(st:PSt):R Fl:=(cO 1 (e2 dOr (aC 1) (e2 aUq (eC (.int 1)) (aC 2)))) st
def aG5:Bd:=aU (cO 1 (eC (.int 0))) (aU (pN (tgN 2) (itE (aC 0)) (aGz)) (cL (aC 1)))
def nM:List D->R D:=cF 1 3 aG5
def aAw(st:PSt):R Fl:=(sDPut 3 (aC 4) (e2 aUr (e2 dOr (aP nM (aD (e2 dIx (aC 0) (aC 4)) (aN))) (e2 aUq (eC (.int 1)) (aC 4))) (aC 1))) st
def aAx(st:PSt):R Fl:=(sIf (aP jB (aD (e2 dIx (fC 3) (aC 4)) (aD (aC 5) (aN)))) (sDPut 3 (aC 4) (e2 dOr (e2 dIx (fC 3) (aC 4)) (e2 dIx (fC 3) (aC 5)))) (cY)) st
def aAy(st:PSt):R Fl:=(pN (tgN 4) (itE (aC 2)) (aAx)) st
def yI:Bd:=aU (cO 2 (aP dO (aD (aC 1) (aN)))) (aU (aOk 3 false) (aU (pN (tgN 4) (itE (aC 2)) (aAw)) (aU (pN (tgN 5) (itE (aC 2)) (aAy)) (sFz [3] (cL (aC 3))))))
def oK:List D->R D:=cF 2 6 yI
def aAz:Bd:=cL (aP nM (aD (e1 aEj (e1 (nD "Machine" "many") (aC 0))) (aN)))
def uX:List D->R D:=cF 1 1 aAz
def aB0:Bd:=cL (e2 dIx (aP oK (aD (e1 (nD "Machine" "steps") (aC 0)) (aD (aP uX (aD (aC 0) (aN))) (aN)))) (aC 1))
def rG:List D->R D:=cF 2 2 aB0
def uY(st:PSt):R D:=(e2 dIx (e1 (nD "Machine" "ranks") (aC 0)) (aC 5)) st
def uZ(st:PSt):R D:=(aC 4) st
def vA(st:PSt):R D:=(e2 dEq (e2 dEq (e2 pL (aC 4) (eC (.int 2))) (eC (.int 0))) (aC 2)) st
def sE:Bd:=aU (cO 3 (e1 aHw (dX [5] (tgN 5) (itE (aP dO (aD (aC 1) (aN)))) gW (uY)))) (cL (dX [4] (tgN 4) (itE (aC 3)) (vA) (uZ)))
def mO:List D->R D:=cF 3 6 sE
def yJ:Bd:=aU (cO 2 (aP dO (aD (aC 1) (aN)))) (cL (eOr (e2 dGt (e1 lF (aC 2)) (eC (.int 1))) (e2 dIn (e2 dIx (aC 2) (eC (.int 0))) (e2 dIx (aC 0) (e2 dIx (aC 2) (eC (.int 0)))))))
def tK:List D->R D:=cF 2 3 yJ
def zZ(st:PSt):R D:=(aC 6) st
def aA0(st:PSt):R D:=(aP jB (aD (e2 dIx (aC 2) (aC 6)) (aD (aC 4) (aN)))) st
def aA1(st:PSt):R Fl:=(aU (cO 5 (aP nM (aD (dX [6] (tgN 6) (itE (aP dO (aD (e2 dIx (aC 2) (aC 4)) (aN)))) (aA0) (zZ)) (aN)))) (sIf (aDl (e2 rT (aC 5) (fC 3)) (aP tK (aD (aC 0) (aD (aC 5) (aN))))) (aCs 3 (aC 5)) (cY))) st
def vX:Bd:=aU (cO 2 (aP oK (aD (aC 0) (aD (aC 1) (aN))))) (aU (wU 3 (pG (aN))) (aU (pN (tgN 4) (itE (aP dO (aD (aC 1) (aN)))) (aA1)) (sFz [3] (cL (aC 3)))))
def qL:List D->R D:=cF 2 7 vX
def yK:Bd:=cL (aP qL (aD (e1 (nD "Machine" "steps") (aC 0)) (aD (aC 1) (aN))))
def jC:List D->R D:=cF 2 2 yK
def aEp(st:PSt):R D:=(e2 dIx (e1 (nD "Machine" "ranks") (aC 0)) (aC 2)) st
def aDr:Bd:=aU (sIf (e2 dEq (aC 1) (eC (.int 0))) (rW) (cY)) (cL (e1 aGt (dX [2] (tgN 2) (itE (aP dO (aD (aC 1) (aN)))) gW (aEp))))
def pP:List D->R D:=cF 2 3 aDr
def wW(st:PSt):R D:=(aC 5) st
def wX(st:PSt):R D:=(e2 dLe (e2 dIx (e1 (nD "Machine" "ranks") (aC 0)) (aC 5)) (aC 2)) st
def pQ(st:PSt):R D:=(aC 4) st
def pR(st:PSt):R D:=(e2 dEq (aP pP (aD (aC 0) (aD (aC 4) (aN)))) (aC 2)) st
def sH:Bd:=aU (cO 3 (aP nM (aD (dX [5] (tgN 5) (itE (aP dO (aD (aC 1) (aN)))) (wX) (wW)) (aN)))) (cY)
def aB1:Bd:=aCv sH (dX [4] (tgN 4) (itE (aP jC (aD (aC 0) (aD (aC 3) (aN))))) (pR) (pQ))
def oM:List D->R D:=cF 3 6 aB1
def vB(st:PSt):R Fl:=(aUp 3 (aP oM (aD (aC 0) (aD (aC 1) (aD (aC 4) (aN)))))) st
def sI:Bd:=aU (wU 3 (pG (aN))) (aU (pN (tgN 4) (itE (aP mO (aD (aC 0) (aD (aC 1) (aD (aC 2) (aN)))))) (vB)) (sFz [3] (cL (aC 3))))
def gM:List D->R D:=cF 3 5 sI
def pU:Bd:=aU (cO 1 (aP gY (aD (e1 (nD "Machine" "steps") (aC 0)) (aD (eC (.int 0)) (aD (e1 aEj (e1 (nD "Machine" "many") (aC 0))) (aN)))))) (cY)
def aA2:Bd:=aCv pU (e1 aG4 (aC 1))
def mQ:List D->R D:=cF 1 2 aA2
def aG6:Bd:=cL (e2 dEq (aP jC (aD (aC 0) (aD (aC 1) (aN)))) (pG (aD (aC 1) (aN))))
def aC8:List D->R D:=cF 2 2 aG6
def aIx:Bd:=aU (sIf (rC (aP jB (aD (aC 1) (aD (aC 2) (aN))))) (cL (eC .non)) (cY)) (cL (bEx (aP gY (aD (e1 (nD "Machine" "steps") (aC 0)) (aD (aC 2) (aD (aP dO (aD (aC 1) (aN))) (aN))))) (aC 3) (eC .non)))
def wY:List D->R D:=cF 4 4 aIx
def fG(st:PSt):R Fl:=(aU (cO 1 (e2 dIx (e2 dIx (e1 (nD "Machine" "steps") (aC 0)) (aC 1)) (eMt aGr (eC (.str [97,98,99])) (aD (aC 4) (aN))))) (aCs 3 (aC 1))) st
def dD:Bd:=aU (wU 3 (pG (aD (aC 1) (aN)))) (aU (pN (tgN 4) (itE (aC 2)) (fG)) (cY))
def pH:Bd:=aEi dD 3
def bC:List D->R D:=cF 3 5 pH
def aEq(st:PSt):R Fl:=(sIf (e2 rT (aC 5) (fM "Machine" "rooms_along" (bC) [] (aC 0) (aD (aC 2) (aD (aC 3) (aN))))) (aU (cO 3 (e2 fJ (aC 3) (aP wY (aD (aC 0) (aD (aC 1) (aD (aC 4) (aD (aC 5) (aN)))))))) (cO 4 (aC 5))) (cY)) st
def aDs:Bd:=aU (sIf (rC (aP aC8 (aD (aC 0) (aD (aC 1) (aN))))) (rW) (cY)) (aU (sIf (rC (aP jB (aD (aC 1) (aD (aC 2) (aN))))) (rW) (cY)) (aU (sIf (e2 dEq (aP dO (aD (aC 1) (aN))) (pG (aD (aC 2) (aN)))) (cL (e2 dIx (eC (.str [97,98,99])) (eMt aLa (e2 dIx (e1 (nD "Machine" "steps") (aC 0)) (aC 2)) (aD (aC 2) (aN))))) (cY)) (aU (cO 3 (eC (.str []))) (aU (cO 4 (aC 2)) (aU (pN (tgN 5) (itE (aP dO (aD (aC 1) (aN)))) (aEq)) (cL (e2 fJ (aC 3) (aP wY (aD (aC 0) (aD (aC 1) (aD (aC 4) (aD (aC 2) (aN)))))))))))))
def uG:List D->R D:=cF 3 6 aDs
def aH0(st:PSt):R D:=(aC 5) st
def aH1(st:PSt):R D:=(aP jB (aD (e2 dIx (aC 1) (eC (.int 0))) (aD (e2 dIx (aC 5) (eC (.int 0))) (aN)))) st
def aH2(st:PSt):R D:=(aP uG (aD (aC 0) (aD (aC 6) (aD (aC 3) (aN))))) st
def aG7:Bd:=aU (cO 2 (dX [5] (tgN 5) (itE (aP mQ (aD (aC 0) (aN)))) (aH1) (aH0))) (aU (cO 3 (e2 dIx (e2 dIx (aC 2) (eC (.int 0))) (eC (.int 0)))) (aU (cO 4 (e2 dIx (e2 dIx (aC 2) (eC (.int 0))) (eC (.int 1)))) (cL (aAp (aD (aC 4) (aD (dX [6] (tgN 6) (itE (aC 1)) gW (aH2)) (aN)))))))
def wZ:List D->R D:=cF 2 7 aG7
def kJ:Bd:=sIf (rC (aP eO (aD (aC 1) (aD (e1 (nD "Machine" "many") (aC 0)) (aN))))) (rW) (cY)
def cI:List D->R D:=cF 2 2 kJ
def aC9:Bd:=cL (aDl (eB bEo (aC 0)) (e2 dEq (eMt aDk (aC 0) (aD (eSl (eC (.str [97,98,99])) (rD) (gU (aC 1))) (aN))) (eC (.str []))))
def jN:List D->R D:=cF 2 2 aC9
def kO:Bd:=sIf (rC (aP jN (aD (aC 1) (aD (e1 (nD "Machine" "letters") (aC 0)) (aN))))) (rW) (cY)
def fB:List D->R D:=cF 2 2 kO
def sJ:Bd:=aU (aIq (fM "Machine" "check_room" (cI) [] (aC 0) (aD (aC 1) (aN)))) (aU (aIq (fM "Machine" "check_word" (fB) [] (aC 0) (aD (aC 2) (aN)))) (cL (e2 dIx (fM "Machine" "rooms_along" (bC) [] (aC 0) (aD (aC 1) (aD (aC 2) (aN)))) (e1 aG1 (eC (.int 1))))))
def jL:List D->R D:=cF 3 3 sJ
def aB2(st:PSt):R Fl:=(aU (cO 8 (e2 dIx (aP dO (aD (aC 7) (aN))) (eC (.int 0)))) (aU (cO 9 (aP wY (aD (aC 0) (aD (aC 2) (aD (aC 6) (aD (aC 8) (aN))))))) (sIf (e2 aR6 (aC 9) (eC .non)) (cL (aAp (aD (e2 dIx (aC 5) (eC (.int 0))) (aD (e2 dIx (e2 dIx (aC 5) (eC (.int 1))) (eC (.int 0))) (aD (aC 9) (aD (aP uG (aD (aC 0) (aD (aC 7) (aD (aC 8) (aN))))) (aN))))))) (cY)))) st
def aB3(st:PSt):R Fl:=(aU (cO 5 (aP wZ (aD (aC 0) (aD (pG (aD (aC 4) (aN))) (aN))))) (aU (cO 6 (fM "Machine" "after" (jL) [] (aC 0) (aD (eC (.int 0)) (aD (e2 dIx (aC 5) (eC (.int 0))) (aN))))) (pN (tgN 7) (itE (aC 3)) (aB2)))) st
def yL:Bd:=aU (cO 2 (aP rG (aD (aC 0) (aD (eC (.int 0)) (aN))))) (aU (cO 3 (aP gM (aD (aC 0) (aD (aC 2) (aD (aC 1) (aN)))))) (aU (pN (tgN 4) (itE (aP gM (aD (aC 0) (aD (aC 2) (aD (rC (aC 1)) (aN)))))) (aB3)) (cL (eC .non))))
def oN:List D->R D:=cF 2 10 yL
def vY:Bd:=cL (aP oN (aD (aC 1) (aD (eC (.bl true)) (aN))))
def mF:List D->R D:=cF 2 2 vY
def uH:Bd:=cL (aP oN (aD (aC 1) (aD (eC (.bl false)) (aN))))
def kW:List D->R D:=cF 2 2 uH
def aA3(st:PSt):R D:=(aC 3) st
def aA4(st:PSt):R D:=(e2 dNe (e2 dIx (e1 (nD "Machine" "ranks") (aC 0)) (aC 3)) (aC 2)) st
def vZ:Bd:=aU (cO 2 (aP pP (aD (aC 0) (aD (aC 1) (aN))))) (cL (aP nM (aD (dX [3] (tgN 3) (itE (aP dO (aD (aC 1) (aN)))) (aA4) (aA3)) (aN))))
def qM:List D->R D:=cF 2 4 vZ
def aG8:Bd:=cL (e2 dEq (e2 pL (aP pP (aD (aC 0) (aD (aC 1) (aN)))) (eC (.int 2))) (eC (.int 0)))
def xF:List D->R D:=cF 2 2 aG8
def aA5(st:PSt):R Fl:=(sIf (e2 dEq (aP xF (aD (aC 0) (aD (aC 5) (aN)))) (aP xF (aD (aC 0) (aD (aC 1) (aN))))) (aCs 3 (aC 5)) (aCs 2 (aC 5))) st
def aA6(st:PSt):R Fl:=(aU (aWv 4 3 qM (aC 0)) (pN (tgN 5) (itE (aP jC (aD (aC 0) (aD (aC 4) (aN))))) (aA5))) st
def aA7(st:PSt):R D:=(e2 dNe (fC 3) (pG (aN))) st
def wA:Bd:=aU (wU 2 (pG (aN))) (aU (wU 3 (pG (aD (aC 1) (aN)))) (aU (aDm 100000 (aA7) (aA6)) (sFz [2] (cL (aC 2)))))
def qN:List D->R D:=cF 2 6 wA
def aB4(st:PSt):R Fl:=(aU (cO 3 (aP qN (aD (aC 0) (aD (aC 2) (aN))))) (sIf (e2 dNe (aC 3) (pG (aN))) (aU (cO 4 (aP wZ (aD (aC 0) (aD (pG (aD (e2 dIx (aC 3) (eC (.int 0))) (aD (aC 2) (aN)))) (aN))))) (cL (aAp (aD (e2 dIx (aC 4) (eC (.int 0))) (aD (e2 dIx (e2 dIx (aC 4) (eC (.int 1))) (eC (.int 0))) (aD (eC (.str [])) (aD (e2 dIx (e2 dIx (aC 4) (eC (.int 1))) (eC (.int 1))) (aN)))))))) (cY))) st
def yM:Bd:=aU (pN (tgN 2) (itE (aP gM (aD (aC 0) (aD (aP rG (aD (aC 0) (aD (eC (.int 0)) (aN)))) (aD (aC 1) (aN)))))) (aB4)) (cL (eC .non))
def jD:List D->R D:=cF 2 5 yM
def wB:Bd:=aU (cO 2 (aP jD (aD (aC 1) (aD (eC (.bl false)) (aN))))) (cL (eIf (e2 aR6 (aC 2) (eC .non)) (aC 2) (aP jD (aD (aC 1) (aD (eC (.bl true)) (aN))))))
def mG:List D->R D:=cF 2 3 wB
def aB5:Bd:=cL (aP jD (aD (aC 1) (aD (eC (.bl false)) (aN))))
def rH:List D->R D:=cF 2 2 aB5
def wC:Bd:=cL (aP jD (aD (aC 1) (aD (eC (.bl true)) (aN))))
def mH:List D->R D:=cF 2 2 wC
def aEr(st:PSt):R D:=(aIv (fM "EarlyNo" "word" (jZ) [] (aC 1) aN) (aIv (fM "EarlyYes" "word" (jK) [] (aC 1) aN) (aIv (fM "Settled" "word" (kE) [] (aC 1) aN) (aIv (fM "Again" "word" (oJ) [] (aC 1) aN) (fM "Lasting" "word" (kI) [] (aC 1) aN))))) st
def aEs(st:PSt):R D:=(e2 dIs (aIv (fM "EarlyNo" "bar" (mF) [] (aC 1) (aD (aC 0) (aN))) (aIv (fM "EarlyYes" "bar" (kW) [] (aC 1) (aD (aC 0) (aN))) (aIv (fM "Settled" "bar" (mG) [] (aC 1) (aD (aC 0) (aN))) (aIv (fM "Again" "bar" (rH) [] (aC 1) (aD (aC 0) (aN))) (fM "Lasting" "bar" (mH) [] (aC 1) (aD (aC 0) (aN))))))) (eC .non)) st
def aDt:Bd:=cL (dX [1] (tgN 1) (itE (aP uW aN)) (aEs) (aEr))
def yN:List D->R D:=cF 1 2 aDt
def vC(st:PSt):R Fl:=(aU (sIf (eOr (rC (e1 (bAi "Machine") (aC 6))) (eOr (e2 dNe (e1 (nD "Machine" "letters") (aC 6)) (aC 4)) (e2 dGt (e1 (nD "Machine" "many") (aC 6)) (e2 fJ (e2 nW (aC 3) (aC 5)) (eC (.int 2)))))) (cL (eC (.bl false))) (cY)) (sIf (e2 rT (eC (.str [101,97,114,108,121,32,110,111])) (aP yN (aD (aC 6) (aN)))) (cL (eC (.bl false))) (cY))) st
def sO:Bd:=aU (cO 5 (aP tH (aD (aC 2) (aD (aC 3) (aN))))) (aU (pN (tgN 6) (itE (pG (aD (aC 0) (aD (aC 1) (aN))))) (vC)) (cL (eC (.bl true))))
def gO:List D->R D:=cF 5 7 sO
def aB6(st:PSt):R Fl:=(aU (sDPut 5 (aC 0) (e1 lF (aC 4))) (aU (cO 6 (e2 nW (e2 aKi (e2 fD (aC 2) (aC 0)) (aC 3)) (aC 1))) (aU (cO 4 (e2 fJ (aC 4) (e2 dIx (eC (.str [97,98,99])) (aC 6)))) (cO 0 (e2 aKi (e2 fD (aC 2) (aC 0)) (e2 fD (aC 6) (aC 1))))))) st
def aB7(st:PSt):R D:=(e2 rT (aC 0) (fC 5)) st
def yO:Bd:=aU (cO 4 (eC (.str []))) (aU (aOk 5 false) (aU (aDm 100000 (aB7) (aB6)) (cL (aAp (aD (eSl (aC 4) (rD) (gU (e2 dIx (fC 5) (aC 0)))) (aD (eSl (aC 4) (gU (e2 dIx (fC 5) (aC 0))) (rD)) (aN)))))))
def oO:List D->R D:=cF 4 7 yO
def wF:Bd:=aU (aIq (aP dR (aD (aC 0) (aD (aC 1) (aD (aC 2) (aN)))))) (aU (wU 3 (pG (aN))) (aU (sIf (e2 aMu (aC 0) (aC 1)) (aCs 3 (aP oO (aD (aC 0) (aD (aC 1) (aD (aC 2) (aD (eC (.int 0)) (aN))))))) (cY)) (aU (sIf (e2 dGt (aC 0) (eC (.int 0))) (aU (cO 4 (aP oO (aD (aC 0) (aD (aC 1) (aD (aC 2) (aD (eC (.int 1)) (aN))))))) (sIf (e2 rT (aC 4) (fC 3)) (aCs 3 (aC 4)) (cY))) (cY)) (sFz [3] (cL (aC 3))))))
def jO:List D->R D:=cF 3 5 wF
def aCx(st:PSt):R D:=(e2 dIx (eC (.str [97,98,99])) (aP cZ (aD (aC 0) (aD (e2 fJ (aC 1) (aC 4)) (aD (aC 3) (aN)))))) st
def aH3:Bd:=cL (eMt aGu (eC (.str [])) (aD (dX [4] (tgN 4) (aHi (aC 2)) gW (aCx)) (aN)))
def rJ:List D->R D:=cF 4 5 aH3
def uI(st:PSt):R D:=(e2 dIx (eC (.str [97,98,99])) (aC 12)) st
def uJ(st:PSt):R Fl:=(aU (cO 11 (e2 fJ (e2 dIx (aC 8) (eC (.int 0))) (e2 aR4 (e2 dIx (aC 8) (eC (.int 1))) (eC (.int 6))))) (aU (aCs 4 (aAp (aD (e2 fJ (eSl (aC 11) (rD) (gU (aP cZ (aD (aC 6) (aD (eC (.int 3)) (aD (eC (.int 14)) (aN))))))) (e2 dIx (aC 7) (eC (.int 0)))) (aD (e2 dIx (aC 7) (eC (.int 1))) (aN))))) (aCs 4 (aAp (aD (e2 fJ (eSl (aC 11) (rD) (gU (aP cZ (aD (aC 6) (aD (eC (.int 4)) (aD (eC (.int 14)) (aN))))))) (eSl (e2 dIx (aC 7) (eC (.int 0))) (rD) (gU (eC (.int 1))))) (aD (eSl (e2 dIx (aC 7) (eC (.int 1))) (rD) (gU (eC (.int 1)))) (aN))))))) st
def uK(st:PSt):R Fl:=(aU (cO 6 (aP rE (aD (aC 0) (aD (e2 fJ (aC 1) (aC 5)) (aN))))) (aU (cO 7 (aAp (aD (aP rJ (aD (aC 6) (aD (eC (.int 40)) (aD (aP cZ (aD (aC 6) (aD (eC (.int 1)) (aD (eC (.int 13)) (aN))))) (aD (aC 3) (aN)))))) (aD (aP rJ (aD (aC 6) (aD (eC (.int 80)) (aD (e2 fJ (eC (.int 1)) (aP cZ (aD (aC 6) (aD (eC (.int 2)) (aD (eC (.int 8)) (aN)))))) (aD (aC 3) (aN)))))) (aN))))) (aU (sIf (e2 dEq (e2 pL (aC 6) (eC (.int 2))) (eC (.int 1))) (aU (cO 9 (aP dM (aD (e2 nW (aC 6) (eC (.int 2))) (aD (pG (aD (eC (.int 13)) (aD (eC (.int 8)) (aN)))) (aN))))) (aU (cO 10 (eMt aGu (eC (.str [])) (aD (dX [12] (tgN 12) (itE (aP dM (aD (e2 nW (aC 6) (eC (.int 208))) (aD (aIu (aD (aC 3) (aN)) (e2 fJ (e2 fJ (e2 dIx (aC 9) (eC (.int 0))) (eC (.int 1))) (e2 dIx (aC 9) (eC (.int 1))))) (aN))))) gW (uI)) (aN)))) (cO 7 (aAp (aD (eSl (aC 10) (rD) (gU (e2 dIx (aC 9) (eC (.int 0))))) (aD (eSl (aC 10) (gU (e2 dIx (aC 9) (eC (.int 0)))) (rD)) (aN))))))) (cY)) (aU (aCs 4 (aC 7)) (pN (tgN 8) (itE (aC 2)) (uJ)))))) st
def aEt:Bd:=aU (wU 4 (pG (aN))) (aU (pN (tgN 5) (aHi (eC (.int 4))) (uK)) (sFz [4] (cL (aC 4))))
def tL:List D->R D:=cF 4 13 aEt
def aB8(st:PSt):R Fl:=(cO 2 (e2 fD (aC 2) (aC 0))) st
def aEu:Bd:=aU (cO 2 (eC (.int 1))) (aU (pN (tgN 3) (aHi (aC 1)) (aB8)) (cL (aC 2)))
def oR:List D->R D:=cF 2 4 aEu
def aA8(st:PSt):R Fl:=(cO 2 (e2 fJ (e2 fD (aC 2) (aC 1)) (eMt aIp (eC (.str [97,98,99])) (aD (aC 3) (aN))))) st
def aCy:Bd:=aU (cO 2 (eC (.int 0))) (aU (pN (tgN 3) (itE (aC 0)) (aA8)) (cL (aC 2)))
def mJ:List D->R D:=cF 2 4 aCy
def aEv:Bd:=aU (cO 2 (e2 aKi (aP oR (aD (aC 1) (aD (e1 lF (e2 dIx (aC 0) (eC (.int 1)))) (aN)))) (eC (.int 1)))) (aU (cO 3 (e2 fJ (e2 fD (aP mJ (aD (e2 dIx (aC 0) (eC (.int 0))) (aD (aC 1) (aN)))) (aC 2)) (aP mJ (aD (e2 dIx (aC 0) (eC (.int 1))) (aD (aC 1) (aN)))))) (cL (aAp (aD (aC 3) (aD (e2 fD (aP oR (aD (aC 1) (aD (e1 lF (e2 dIx (aC 0) (eC (.int 0)))) (aN)))) (aC 2)) (aN))))))
def tM:List D->R D:=cF 2 4 aEv
def yP:Bd:=aU (sIf (eOr (rC (eB bEq (aC 0))) (e2 dNe (e1 lF (aC 0)) (eC (.int 2)))) (cL (eC (.bl false))) (cY)) (cL (aDl (aP jN (aD (e2 dIx (aC 0) (eC (.int 0))) (aD (aC 1) (aN)))) (aDl (aP jN (aD (e2 dIx (aC 0) (eC (.int 1))) (aD (aC 1) (aN)))) (e2 dNe (e2 dIx (aC 0) (eC (.int 1))) (eC (.str []))))))
def jE:List D->R D:=cF 2 2 yP
def pW(st:PSt):R Fl:=(aU (sDPut 4 (e2 dIx (fC 3) (e1 aG1 (eC (.int 1)))) (e2 aKi (e1 lF (fC 3)) (eC (.int 1)))) (aUp 3 (eSl (fM "Machine" "rooms_along" (bC) [] (aC 0) (aD (e2 dIx (fC 3) (e1 aG1 (eC (.int 1)))) (aD (e2 dIx (aC 1) (eC (.int 1))) (aN)))) (gU (eC (.int 1))) (rD)))) st
def lH(st:PSt):R D:=(e2 rT (e2 dIx (fC 3) (e1 aG1 (eC (.int 1)))) (fC 4)) st
def aB9:Bd:=aU (aIq (fM "Machine" "check_room" (cI) [] (aC 0) (aD (aC 2) (aN)))) (aU (sIf (rC (aP jE (aD (aC 1) (aD (e1 (nD "Machine" "letters") (aC 0)) (aN))))) (rW) (cY)) (aU (wU 3 (fM "Machine" "rooms_along" (bC) [] (aC 0) (aD (aC 2) (aD (e2 dIx (aC 1) (eC (.int 0))) (aN))))) (aU (aOk 4 false) (aU (aDm 100000 (lH) (pW)) (aU (cO 5 (e2 dIx (fC 4) (e2 dIx (fC 3) (e1 aG1 (eC (.int 1)))))) (cL (aAp (aD (eSl (fC 3) (rD) (gU (aC 5))) (aD (eSl (fC 3) (gU (aC 5)) (gU (e1 aG1 (eC (.int 1))))) (aN))))))))))
def kY:List D->R D:=cF 3 6 aB9
def pX(st:PSt):R D:=(e2 dIx (e1 (nD "Machine" "ranks") (aC 0)) (aC 4)) st
def aBa:Bd:=aU (cO 3 (e2 dIx (fM "Machine" "walk" (kY) [] (aC 0) (aD (aC 1) (aD (aC 2) (aN)))) (eC (.int 1)))) (cL (e2 dEq (e2 pL (e1 aGt (dX [4] (tgN 4) (itE (aC 3)) gW (pX))) (eC (.int 2))) (eC (.int 0))))
def cU:List D->R D:=cF 3 5 aBa
def vD(st:PSt):R Fl:=(aU (cO 7 (aP tM (aD (aC 6) (aD (aC 4) (aN))))) (aU (sIf (e2 dNe (fM "Machine" "lets" (cU) [.int 0] (aC 0) (aD (aC 6) (aN))) (e2 dLe (e2 fD (e2 dIx (aC 7) (eC (.int 0))) (aC 3)) (e2 fD (aC 2) (e2 dIx (aC 7) (eC (.int 1)))))) (cL (eC (.bl false))) (cY)) (sIf (e2 dNe (fM "Machine" "lets" (cU) [.int 0] (aC 1) (aD (aC 6) (aN))) (e2 dGe (e2 fD (e2 dIx (aC 7) (eC (.int 0))) (aC 3)) (e2 fD (aC 2) (e2 dIx (aC 7) (eC (.int 1)))))) (cL (eC (.bl false))) (cY)))) st
def aA9:Bd:=aU (pN (tgN 6) (itE (aC 5)) (vD)) (cL (eC (.bl true)))
def mR:List D->R D:=cF 6 8 aA9
def aSf(st:PSt):R Fl:=(aU (cO 10 (e2 fJ (aC 10) (pG (aD (aC 11) (aD (aAp (aD (e2 fJ (e2 dIx (aC 11) (eC (.int 0))) (e2 aR4 (e2 dIx (aC 11) (eC (.int 1))) (eC (.int 2)))) (aD (e2 dIx (aC 11) (eC (.int 1))) (aN)))) (aN)))))) (sIf (eOr (rC (fM "Machine" "lets" (cU) [.int 0] (aC 7) (aD (aC 11) (aN)))) (rC (fM "Machine" "lets" (cU) [.int 0] (aC 8) (aD (aC 11) (aN))))) (cL (eC (.bl false))) (cY))) st
def aMx(st:PSt):R Fl:=(aU (cO 2 (aP rE (aD (aC 0) (aD (e2 fD (eC (.int 5)) (aC 1)) (aN))))) (aU (cO 3 (pG (aD (aP cZ (aD (aC 2) (aD (eC (.int 11)) (aD (eC (.int 6)) (aN))))) (aD (aP cZ (aD (aC 2) (aD (eC (.int 12)) (aD (eC (.int 420)) (aN))))) (aD (aP cZ (aD (aC 2) (aD (eC (.int 13)) (aD (eC (.int 2)) (aN))))) (aN)))))) (aU (sIf (e2 dEq (e2 pL (aC 2) (eC (.int 2))) (eC (.int 1))) (cO 3 (aP dM (aD (e2 nW (aC 2) (eC (.int 2))) (aD (pG (aD (eC (.int 6)) (aD (eC (.int 420)) (aD (eC (.int 2)) (aN))))) (aN))))) (cY)) (aU (cO 4 (e2 fJ (eC (.int 1)) (e2 dIx (aC 3) (eC (.int 0))))) (aU (cO 5 (e2 pL (e2 dIx (aC 3) (eC (.int 1))) (e2 fJ (aC 4) (eC (.int 1))))) (aU (cO 6 (e2 fJ (eC (.int 2)) (e2 dIx (aC 3) (eC (.int 2))))) (aU (cO 7 (aP aHx (aD (aC 5) (aD (aC 4) (aD (aC 6) (aN)))))) (aU (cO 8 (aP aC7 (aD (aC 5) (aD (aC 4) (aD (aC 6) (aN)))))) (aU (sIf (rC (aP gO (aD (aC 7) (aD (aC 8) (aD (aC 5) (aD (aC 4) (aD (aC 6) (aN)))))))) (cL (eC (.bl false))) (cY)) (aU (cO 9 (aP jO (aD (aC 5) (aD (aC 4) (aD (aC 6) (aN)))))) (aU (cO 10 (aP tL (aD (aC 0) (aD (e2 fJ (e2 fD (eC (.int 5)) (aC 1)) (eC (.int 1))) (aD (aC 9) (aD (aC 6) (aN))))))) (aU (pN (tgN 11) (itE (aC 9)) (aSf)) (sIf (rC (aP mR (aD (aC 7) (aD (aC 8) (aD (aC 5) (aD (aC 4) (aD (aC 6) (aD (aC 10) (aN))))))))) (cL (eC (.bl false))) (cY)))))))))))))) st
def bCt:Bd:=aU (pN (tgN 1) (aHi (e2 aL2 (eC (.int 2)) (e2 aL3 (e2 nW (e1 lF (aC 0)) (eC (.int 5))) (eC (.int 4))))) (aMx)) (cL (eC (.bl true)))
def aLd:List D->R D:=cF 1 12 bCt
end
end Pu
namespace Pu
@[simp] theorem bH6(x:D)(f:α->R β):(R.exc x:R α).bind f = .exc x:=rfl
@[simp] theorem bJ4:(R.bad:R α).nox = .bad:=rfl
@[simp] theorem bJ5(x:D):(R.exc x:R α).nox = .bad:=rfl
@[simp] theorem bJ6(x:D)(f:PSt->R Fl):aG2 (.exc x) f = .exc x:=rfl
@[simp] theorem bM3(p:List D->R D)(ds:List D):pNX p ds=(p ds).nox:=rfl
@[simp] theorem bL0(b:Bd)(hs:List (List String × List String × (String->Bd)))(st:PSt):bLz b hs st=(match b st with | .exc (.exn c [] [])=>aWr hs c st | .exc _ => .bad | r=>r):=rfl
@[simp] theorem bH7(yes no:List String)(b:String->Bd)(hs:List (List String × List String × (String->Bd)))(c:String)(st:PSt):aWr ((yes,no,b) :: hs) c st=if c∈yes then (b c st).nox else if c∈no then aWr hs c st else .bad:=rfl
@[simp] theorem aOo(x:List D):aHj (.lst x)=(bls x).bind fun l => .ok (.bl (l.all id)):=rfl
@[simp] theorem bH8(x:List D):aOl (.lst x) = .ok (.lst x):=rfl
@[simp] theorem bH9(x:List D):aOl (.tup x) = .ok (.lst x):=rfl
theorem aWw{x:List D}{l:List Bool}(h:x=l.map D.bl)(ht:∀ b∈l,b=true):aHj (.lst x) = .ok (.bl true):=by
 subst h
 rw [aOo,aSc]
 have:l.all id=true:=List.all_eq_true.mpr fun b hb=>by simp [ht b hb]
 simp [this]
end Pu
namespace Pu
@[simp] theorem bHa:aEg [] = .ok []:=rfl
@[simp] theorem bEz(s:List Nat)(r:List D):aEg (.str s :: r)=(aEg r).bind fun x => .ok (s :: x):=rfl
@[simp] theorem bL1(j:Nat)(f:Ex)(xss:List (List D))(st:PSt):bM0 j f xss st=(f st).bind fun d => .ok (.nx xss (st.set j (some (.v d)))):=rfl
@[simp] theorem bL2(f:Ex)(xss:List (List D))(st:PSt):bM1 f xss st=(f st).bind fun d => .ok (.rt d):=rfl
@[simp] theorem bM4(c:Ex)(a b:NB)(xss:List (List D))(st:PSt):nIf c a b xss st=(c st).bind fun x=>onB x fun q=>if q=true then a xss st else b xss st:=rfl
@[simp] theorem bL3(g f:Ex)(xss:List (List D))(st:PSt):bM2 g f xss st=(g st).bind fun x=>inI x fun j=>(f st).bind fun d=>(ofO (ixN xss.length j)).bind fun k=>match xss[k]? with
 | some ys=>aO (ys.length < big) (.ok (.nx (xss.set k (ys++[d])) st))
 | none => .bad:=rfl
end Pu
namespace Pu
def Ltr(m:Int)(x:List Nat):Prop:=∀ c∈x,97<=c/\(c:Int) < 97+m
end Pu
namespace Pu
theorem bJ{a b:Bd}{st st':PSt}{r:R Fl}(h:a st = .ok (.nx st'))(h2:b st'=r):aU a b st=r:=by
 rw [aSa,h]
 exact h2
theorem uL{a b:Bd}{st:PSt}{r:R Fl}(h:a st = .ok (.nx st))(h2:b st=r):aU a b st=r:=bJ h h2
theorem bF0{a b:Bd}{st:PSt}  (h:a st = .ok (.rt d)):aU a b st = .ok (.rt d):=by
 rw [aSa,h]
 rfl
theorem fY{b:Bd}  {d:D} (h:ds.length=np) (hb:b (ds.map (fun d=>some (.v d))++List.replicate (n - np) none) = .ok (.rt d)):cF np n b ds = .ok d:=by
 rw [aSb h,hb]
 rfl
theorem bF1{b:Bd}  {st:PSt} (h:ds.length=np) (hb:b (ds.map (fun d=>some (.v d))++List.replicate (n - np) none) = .ok (.nx st)):cF np n b ds = .ok .non:=by
 rw [aSb h,hb]
 rfl
end Pu
namespace Pu
theorem aOp(n:Nat):pM 0 n=(List.range n).map fun (k:Nat)=>D.int (k:Int):=by
 unfold pM
 refine List.map_congr_left fun k _=>?_
 rw [Int.zero_add]
theorem aCa{tg:Tg}{c f:Ex}{st:PSt}(g:D->D):∀ (ds:List D),(∀ d∈ds,∃ s1,tg d st = .ok s1/\c s1 = .ok (.bl true)/\f s1 = .ok (g d))->uT tg c f st ds = .ok (ds.map g)
 | [],_=>rfl
 | d :: ds,h=>by
  obtain ⟨s1,e1,e2,e3⟩:=h d mem_cons_self
  rw [aIr,e1]
  simp only [bQ,e2,aDn,if_true,e3,aCa g ds fun d hd=>h d (mem_cons_of_mem _ hd),map_cons]
end Pu
namespace Pu
theorem dN{st:PSt}  (h:f st = .ok d):cO i f st = .ok (.nx (st.set i (some (.v d)))):=by rw [bAe,h,bQ]
theorem aEw{st:PSt}  (h:f st = .ok (.lst xs)):wU i f st = .ok (.nx (st.set i (some (.o .l xs)))):=by rw [aWm,h,bQ]
theorem cX{st:PSt}  {x:R D} (h:r st = .ok ds) (hp:p ds=x):aP p r st=x:=by rw [aWk,h,bQ,hp]
theorem aR{op:Op2}  {st:PSt} {x y:D} {z:R D} (hf:f st = .ok x) (hg:g st = .ok y) (h:op x y=z):e2 op f g st=z:=by rw [bI5,hf,bQ,hg,bQ,h]
theorem bAj{c:Ex}{a b:Bd}{st:PSt}{r:R Fl}(h:c st = .ok (.bl true))(ha:a st=r):sIf c a b st=r:=by rw [aR8,h,bQ,aDn,if_pos rfl,ha]
theorem aHl{c:Ex}{a b:Bd}{st:PSt}{r:R Fl}(h:c st = .ok (.bl false))(hb:b st=r):sIf c a b st=r:=by rw [aR8,h,bQ,aDn,if_neg Bool.false_ne_true,hb]
theorem bJ7{st:PSt}{p q:Bool}(hf:f st = .ok (.bl p))(hg:p=false->g st = .ok (.bl q)):eOr f g st = .ok (.bl (p||q)):=by
 rw [bEr,hf,bQ,aDn]
 cases p with
 | true=>rfl
 | false=>rw [if_neg Bool.false_ne_true,hg rfl];rfl
theorem aG9{st:PSt}{p:Bool}(hf:f st = .ok (.bl p)):rC f st = .ok (.bl (!p)):=by rw [aS9,hf,bQ,aDn]
theorem wG{st:PSt}  (h:f st = .ok d):cL f st = .ok (.rt d):=by rw [aHv,h,bQ]
theorem wH{tg:Tg}   {st:PSt}  {r:R Fl} (h:it st = .ok xs) (hr:forR tg L xs st=r):pN tg it L st=r:=by rw [bAf,h,bQ,hr]
theorem bK{st:PSt}{d:D}  (h:f st = .ok d) (hr:r st = .ok ds):aD f r st = .ok (d :: ds):=by rw [aWj,h,bQ,hr,bQ]
theorem aBb{st:PSt}  (h:r st = .ok ds) (hl:ds.length<=1000:=by exact of_decide_eq_true rfl):pG r st = .ok (.lst ds):=by rw [bAa,h,bQ,aW (gG (Nat.le_trans hl (by decide)))]
theorem lW{i j:Int}(h:0 < j):pL (.int i) (.int j) = .ok (.int (i % j)):=aW h
theorem aCb{i j:Int}(h:0 < j/\j < 1073741824):nW (.int i) (.int j) = .ok (.int (i / j)):=aW h
theorem aIy(i j:Int):dEq (.int i) (.int j) = .ok (.bl (decide (i=j))):=by
 have:(i==j)=decide (i=j):=by by_cases h:i=j<;>simp [h]
 rw [<-this]
 exact aW ⟨zero_le 64,rfl,rfl⟩
theorem aMy{st:PSt}   (h:f st = .ok d) (hs:st[i]?=some (some (.o .l xs))) (hl:xs.length < 1000000):aCs i f st = .ok (.nx (st.set i (some (.o .l (xs++[d]))))):=by
 rw [bAc,h,bQ,hs]
 exact aW (aR3 (Nat.lt_trans hl (by decide)))
theorem aSg{st:PSt}  (h:f st = .ok (.int n)) (hn:n<=1000000):aHi f st = .ok ((List.range n).map fun (k:Nat)=>D.int (k:Int)):=by
 rw [bAb,h,bQ,<-aOp]
 exact aW ⟨bA7 (by omega),bA6 (by omega)⟩
theorem aMz{E C:Ex}{is:List Nat}{tg:Tg}  {st:PSt}  (h:it st = .ok xs) (hl:xs.length<=1000000) (hc:uT tg C E (clr is st) xs = .ok ys):dX is tg it C E st = .ok (.lst ys):=by
 rw [aWp,h,bQ,aW (gG (Nat.le_trans hl (by decide))),hc,bQ]
theorem pY{tg:Tg}  {d:D}  {st s1 s2:PSt} {r:R Fl} (ht:tg d st = .ok s1) (hL:L s1 = .ok (.nx s2)) (hr:forR tg L ds s2=r):forR tg L (d :: ds) st=r:=by
 rw [aL6,ht,bQ,hL]
 exact hr
theorem aIz{i:Int}  (h:atI xs i=some d):dIx (.lst xs) (.int i) = .ok d:=by
 show ofO (atI xs i)=_
 rw [h]
 rfl
theorem bM5{p q:Nat}(h:p < q):decide ((p:Int) < (q:Int))=true:=decide_eq_true (by omega)
theorem bM6{p q:Nat}(h:¬ p < q):decide ((p:Int) < (q:Int))=false:=decide_eq_false (by omega)
theorem aH4{st:PSt}  (h:f st = .ok (.lst xs)):itE f st = .ok xs:=by rw [aWl,h,bQ]
theorem bF2{st:PSt}  (h:f st = .ok (.lst ys)) (hs:st[i]?=some (some (.o .l xs))) (hl:xs.length+ys.length<=big):aUp i f st = .ok (.nx (st.set i (some (.o .l (xs++ys))))):=by
 rw [bAd,h,bQ]
 dsimp only
 rw [hs]
 exact aW hl
end Pu
namespace Pu
def good(m:Int)(x:List Nat):Bool:=x.all fun c=>decide (97<=c/\(c:Int) < 97+m)
theorem aJ0{m:Int}{x:List Nat}:good m x=true ↔ Ltr m x:=by
 unfold good Ltr
 simp
theorem aSh{m:Int}(hm:1<=m)(hm3:m<=3){c:Nat}:c∈cut [97,98,99] none (some m) ↔ 97<=c/\(c:Int) < 97+m:=by
 have h3:m=1\/m=2\/m=3:=by omega
 rcases h3 with rfl | rfl | rfl
 ·show c∈[97] ↔ _
  simp;omega
 ·show c∈[97,98] ↔ _
  simp;omega
 ·show c∈[97,98,99] ↔ _
  simp;omega
theorem aCz{α:Type}(p:α->Bool):∀ x:List α,x.dropWhile p=[] ↔ ∀ c∈x,p c=true
 | []=>by simp
 | a :: x=>by
  cases h:p a with
  | true=>rw [List.dropWhile_cons_of_pos h,aCz p x];simp [h]
  | false=>rw [List.dropWhile_cons_of_neg (by simp [h])];simp [h]
theorem takeWhile_all{α:Type}(p:α->Bool):∀ (x:List α) (c:α),c∈x.takeWhile p->p c=true
 | [],c,h=>by simp at h
 | a :: x,c,h=>by
  cases ha:p a with
  | true =>
   rw [List.takeWhile_cons_of_pos ha] at h
   rcases List.mem_cons.mp h with rfl | h
   ·exact ha
   ·exact takeWhile_all p x c h
  | false=>rw [List.takeWhile_cons_of_neg (by simp [ha])] at h;simp at h
theorem strip_nil(x y:List Nat):tZ x y=[] ↔ ∀ c∈x,c∈y:=by
 unfold tZ
 rw [List.reverse_eq_nil_iff,aCz]
 constructor
 ·intro h
  have h2:∀ c∈x.dropWhile (fun c=>y.contains c),c∈y:=fun c hc=>by simpa using h c (by simpa using hc)
  have h3:∀ c∈x.takeWhile (fun c=>y.contains c),c∈y:=fun c hc=>by
   simpa using takeWhile_all (fun c=>y.contains c) x c hc
  intro c hc
  rw [<-List.takeWhile_append_dropWhile (p:=fun c=>y.contains c) (l:=x)] at hc
  exact (List.mem_append.mp hc).elim (h3 c) (h2 c)
 ·intro h c hc
  rw [List.mem_reverse] at hc
  have:c∈x:=List.IsSuffix.subset (List.dropWhile_suffix _) hc
  simpa using h c this
theorem aJ1(x:List Nat)(m:Int)(hm:1<=m)(hm3:m<=3)(h:x.length<=1000000):jN [.str x,.int m] = .ok (.bl (good m x)):=by
 unfold jN aC9
 have e:(tZ x (cut [97,98,99] none (some m))==[])=good m x:=by
  rw [Bool.eq_iff_iff,beq_iff_eq,strip_nil,aJ0]
  exact ⟨fun z c hc=>(aSh hm hm3).mp (z c hc),fun z c hc=>(aSh hm hm3).mpr (z c hc)⟩
 simp [bEo,show x.length<=big from gG (by omega),e]
theorem aKj(x y:D)(m:Int)(p q:Bool)(hp:jN [x,.int m] = .ok (.bl p))(hq:jN [y,.int m] = .ok (.bl q))(hy:plain y=true)(hd:dep y<=64):jE [.tup [x,y],.int m] = .ok (.bl (p&&(q && !eqD y (.str [])))):=by
 unfold jE yP
 have g1:atI [x,y] 0=some x:=rfl
 have g2:atI [x,y] 1=some y:=rfl
 cases p<;>cases q<;>simp [bEq,g1,g2,hp,hq,hy,hd]
end Pu
namespace Pu
def nats(l:List Nat):List D:=l.map fun (x:Nat)=>D.int (x:Int)
structure Mch(S:List (List Nat))(rk:List Nat)(c:Nat):Prop where
 one:1<=S.length
 most:S.length<=8
 c1:1<=c
 c3:c<=3
 row:∀ r∈S,r.length=c/\∀ x∈r,x < S.length
 rks:rk.length=S.length
def stD(S:List (List Nat)):List D:=S.map fun r=>D.lst (nats r)
end Pu
namespace Pu
theorem aEx{E:Ex}{st:PSt}{v:Nat}{xs:List D}(hv:st[v]?=some (some (.v (.lst xs))))(hl:xs.length<=100000)(h:∀ d∈xs,E ((st.set j none).set j (some (.v d))) = .ok (.bl true)):e1 aHj (dX [j] (tgN j) (itE (aC v)) gW E) st = .ok (.bl true):=by
 have e:=aCa (tg:=tgN j) (c:=gW) (f:=E) (st:=st.set j none) (fun _=>D.bl true) xs fun d hd=>⟨_,rfl,rfl,h d hd⟩
 have e2:xs.map (fun _=>D.bl true)=(xs.map fun _=>true).map D.bl:=by simp
 simp [hv,show xs.length<=big from gG (by omega),e]
 rw [e2,<-aOo]
 exact aWw rfl fun b hb=>by obtain ⟨_,_,z⟩:=List.mem_map.mp hb;exact z.symm
theorem aUs{E:Ex}{st:PSt}{v:Nat}{xs:List D}(hv:st[v]?=some (some (.v (.lst xs))))(hl:xs.length<=100000)(h:∀ d∈xs,E ((st.set j none).set j (some (.v d))) = .ok d):dX [j] (tgN j) (itE (aC v)) gW E st = .ok (.lst xs):=by
 have e:=aCa (tg:=tgN j) (c:=gW) (f:=E) (st:=st.set j none) id xs fun d hd=>⟨_,rfl,rfl,h d hd⟩
 simp [hv,show xs.length<=big from gG (by omega),e]
theorem aLe(i:Int):fV [.int i] = .ok (.bl true):=by
 unfold fV nF
 simp [isIn,bEp]
theorem aLf{x:Nat}(h:x < n):eO [.int x,.int n] = .ok (.bl true):=by
 have hw:=aLe x
 unfold eO nG
 simp [hw,h]
theorem aLg(xs:List D)(m:Int):eQ [.lst xs,.int m] = .ok (.bl (decide (1<=(xs.length:Int))&&decide ((xs.length:Int)<=m))):=by
 unfold eQ pO
 by_cases h:1<=xs.length
 ·have h':(1:Int)<=xs.length:=by omega
  simp [aUo,h,h']
 ·have h':¬ (1:Int)<=xs.length:=by omega
  simp [aUo,h,h']
theorem fZ(r:List Nat):(nats r).length=r.length:=by unfold nats;simp
theorem vG(S:List (List Nat)):(stD S).length=S.length:=by unfold stD;simp
theorem aJ2{r:List Nat}  (h:d∈nats r):∃ x∈r,d = .int (x:Nat):=by
 obtain ⟨x,h1,h2⟩:=List.mem_map.mp h
 exact ⟨x,h1,h2.symm⟩
theorem aN0{S:List (List Nat)}  (h:d∈stD S):∃ r∈S,d = .lst (nats r):=by
 obtain ⟨x,h1,h2⟩:=List.mem_map.mp h
 exact ⟨x,h1,h2.symm⟩
theorem bF3(r:List Nat)(n:Nat)(h:∀ x∈r,x < n)(hl:r.length<=1000):aEm [.lst (nats r),.int r.length,.int n] = .ok (.bl true):=by
 have e:=aEx (E:=aDo) (st:=[some (.v (.lst (nats r))),some (.v (.int r.length)),some (.v (.int n)),none]) (j:=3) (v:=0) (xs:=nats r) rfl (by rw [fZ];omega) (fun d hd=>by
  obtain ⟨x,hx,rfl⟩:=aJ2 hd
  have:=h x hx
  simp [aDo,aLf this])
 refine fY rfl ?_
 unfold aIw
 have h1:e2 dEq (e1 lF (aC 0)) (aC 1) [some (.v (.lst (nats r))),some (.v (.int r.length)),some (.v (.int n)),none] = .ok (.bl true):=by simp [fZ]
 show cL _ [some (.v (.lst (nats r))),some (.v (.int r.length)),some (.v (.int n)),none]=_
 rw [aHv,bA9,h1]
 show (e1 aHj _ _).bind _=_
 rw [e]
 rfl
def mD(S:List (List Nat))(rk:List Nat)(c:Nat):D := .ins "Machine" ["steps", "ranks", "many", "letters"] [.lst (stD S),.lst (nats rk),.int S.length,.int c]
section
variable   {c:Nat}
theorem Mch.row0(M:Mch S rk c):∃ r T,S=r :: T/\r.length=c:=by
 cases S with
 | nil=>exact absurd M.one (by simp)
 | cons r T=>exact ⟨r,T,rfl,(M.row r mem_cons_self).1⟩
theorem Mch.at0(M:Mch S rk c):∃ r,r∈S/\atI (stD S) 0=some (.lst (nats r))/\r.length=c:=by
 obtain ⟨r,T,rfl,h⟩:=M.row0
 refine ⟨r,mem_cons_self,?_,h⟩
 have:=atI_nat (xs:=stD (r :: T)) (i:=0) (by simp [stD])
 simpa [stD] using this
theorem aWx(M:Mch S rk c):uU [.lst (stD S)] = .ok (.bl true):=by
 obtain ⟨r0,hr0,e0,l0⟩:=M.at0
 have h1:=M.one
 have h8:=M.most
 have f1:=aLg (stD S) 8
 rw [vG] at f1
 have f1':eQ [.lst (stD S),.int 8] = .ok (.bl true):=by rw [f1];congr 2;simp;omega
 have a1:=aEx (E:=vU) (st:=[some (.v (.lst (stD S))),none]) (j:=1) (v:=0) (xs:=stD S) rfl (by rw [vG];omega) (fun d hd=>by
  obtain ⟨r,hr,rfl⟩:=aN0 hd
  have f:=aLg (nats r) 3
  rw [fZ,(M.row r hr).1] at f
  have h3:=M.c3
  have h0:=M.c1
  simp [vU,f]
  omega)
 have a2:=aEx (E:=vV) (st:=[some (.v (.lst (stD S))),none]) (j:=1) (v:=0) (xs:=stD S) rfl (by rw [vG];omega) (fun d hd=>by
  obtain ⟨r,hr,rfl⟩:=aN0 hd
  have h3:=M.c3
  have f:=bF3 r S.length (M.row r hr).2 (by rw [(M.row r hr).1];omega)
  have el:(nats r0).length=r.length:=by rw [fZ,l0,(M.row r hr).1]
  simp [vV,e0,el,vG,f])
 refine fY rfl ?_
 unfold aAr
 refine uL (by simp [f1']) (uL ?_ ?_)
 ·rw [aR8,aS9]
  show ((e1 aHj _ [some (.v (.lst (stD S))),none]).bind _).bind _=_
  rw [a1];rfl
 ·rw [aHv]
  show (e1 aHj _ [some (.v (.lst (stD S))),none]).bind _=_
  rw [a2];rfl
theorem aWy(M:Mch S rk c):uV [.lst (nats rk),.int S.length] = .ok (.bl true):=by
 have h8:=M.most
 have a1:=aEx (E:=vW) (st:=[some (.v (.lst (nats rk))),some (.v (.int S.length)),none]) (j:=2) (v:=0) (xs:=nats rk) rfl (by rw [fZ,M.rks];omega) (fun d hd=>by
  obtain ⟨x,hx,rfl⟩:=aJ2 hd
  simp [vW,aLe])
 refine fY rfl ?_
 unfold aAs
 refine uL (by simp [aUo,fZ,M.rks]) ?_
 rw [aHv]
 show (e1 aHj _ [some (.v (.lst (nats rk))),some (.v (.int S.length)),none]).bind _=_
 rw [a1];rfl
theorem aWz:nD "Machine" "many" (mD S rk c) = .ok (.int S.length):=by unfold mD;rw [aEf,aW rfl];rfl
theorem aOq:nD "Machine" "letters" (mD S rk c) = .ok (.int c):=by unfold mD;rw [aEf,aW rfl];rfl
theorem aUt:nD "Machine" "steps" (mD S rk c) = .ok (.lst (stD S)):=by unfold mD;rw [aEf,aW rfl];rfl
end
end Pu
namespace Pu
section
variable   {c:Nat}
theorem bAk(M:Mch S rk c):fX [.lst (stD S),.lst (nats rk)] = .ok (mD S rk c):=by
 obtain ⟨r0,hr0,e0,l0⟩:=M.at0
 have h8:=M.most
 refine bA8 fun x=>?_
 unfold aL5
 rw [aW (show ([D.lst (stD S),D.lst (nats rk)]:List D).length=2 from rfl)]
 have hs:=aWx M
 have hk:=aWy M
 have cp:=aUs (E:=jY) (st:=[some (.o (.i x "Machine" []) []),some (.v (.lst (stD S))),some (.v (.lst (nats rk))),none]) (j:=3) (v:=1) (xs:=stD S) rfl (by rw [vG];omega) (fun d hd=>by
  obtain ⟨r,hr,rfl⟩:=aN0 hd
  simp [jY])
 have key:fW [some (.o (.i x "Machine" []) []),some (.v (.lst (stD S))),some (.v (.lst (nats rk))),none] = .ok (.nx [some (.o (.i x "Machine" ["steps", "ranks", "many", "letters"]) [.lst (stD S),.lst (nats rk),.int S.length,.int c]),some (.v (.lst (stD S))),some (.v (.lst (nats rk))),none]):=by
  unfold fW
  refine uL (by simp [hs]) (uL (by simp [vG,hk]) ?_)
  refine bJ (st':=[some (.o (.i x "Machine" ["steps"]) [.lst (stD S)]),some (.v (.lst (stD S))),some (.v (.lst (nats rk))),none]) ?_ ?_
  ·rw [aWn,cp]
   simp
  refine bJ (st':=[some (.o (.i x "Machine" ["steps", "ranks"]) [.lst (stD S),.lst (nats rk)]),some (.v (.lst (stD S))),some (.v (.lst (nats rk))),none]) (by simp) ?_
  refine bJ (st':=[some (.o (.i x "Machine" ["steps", "ranks", "many"]) [.lst (stD S),.lst (nats rk),.int S.length]),some (.v (.lst (stD S))),some (.v (.lst (nats rk))),none]) (by simp [vG]) ?_
  simp [e0,fZ,l0]
 show (fW [some (.o (.i x "Machine" []) []),some (.v (.lst (stD S))),some (.v (.lst (nats rk))),none]).bind _=_
 rw [key]
 simp [mD]
end
end Pu
namespace Pu
end Pu
namespace Pu
section
variable{S:List (List Nat)}{rk:List Nat}{c:Nat}
def stp(S:List (List Nat))(q a:Nat):Nat:=(S.getD q []).getD a 0
theorem bF4(M:Mch S rk c){q a:Nat}(hq:q < S.length)(ha:a < c):∃ r,atI (stD S) (q:Int)=some (.lst (nats r))/\atI (nats r) (a:Int)=some (.int (stp S q a))/\stp S q a < S.length:=by
 have hr:=M.row S[q] (List.getElem_mem hq)
 have ha':a < S[q].length:=by rw [hr.1];exact ha
 have e:stp S q a=S[q][a]:=by
  simp [stp,getD_eq_getElem?_getD,List.getElem?_eq_getElem hq,List.getElem?_eq_getElem ha']
 refine ⟨S[q],?_,?_,?_⟩
 ·rw [atI_nat (by rw [vG];exact hq)];simp [stD]
 ·rw [atI_nat (by rw [fZ];exact ha'),e];simp [nats]
 ·rw [e];exact hr.2 _ (List.getElem_mem ha')
theorem aX0{m:Nat}(h:m<=3){ch:Nat}(h1:97<=ch)(h2:(ch:Int) < 97+m):gF [97,98,99] [ch] 0=some (ch - 97):=by
 have:ch=97\/ch=98\/ch=99:=by omega
 rcases this with rfl | rfl | rfl<;>rfl
theorem aSi(M:Mch S rk c){q ch:Nat}(hq:q < S.length)(h1:97<=ch)(h2:(ch:Int) < 97+c):∃ r,atI (stD S) (q:Int)=some (.lst (nats r))/\atI (nats r) (((ch - 97:Nat)):Int)=some (.int (stp S q (ch - 97)))/\stp S q (ch - 97) < S.length:=bF4 M hq (by omega)
def runs(S:List (List Nat)):Nat->List Nat->List Nat
 | _,[]=>[]
 | q,ch :: x=>stp S q (ch - 97) :: runs S (stp S q (ch - 97)) x
def aLh(S:List (List Nat)):Nat->List Nat->Nat
 | q,[]=>q
 | q,ch :: x=>aLh S (stp S q (ch - 97)) x
end
end Pu
namespace Pu
section
variable   {c:Nat}
theorem aEy{st:PSt}(hf:f st = .ok (mD S rk c))(hr:r st = .ok xs)(hm:m ∉ ["steps", "ranks", "many", "letters"]):fM "Machine" m p dv f r st=p (mD S rk c :: (xs++dv)):=by
 rw [aWo,hf,hr]
 exact aW ⟨rfl,hm⟩
theorem aJ3(M:Mch S rk c)(a t:Option Sl)(ha:a=some (.v (mD S rk c))):∀ (x:List Nat) (q:Nat) (acc:List Nat) (l:Option Sl),q < S.length->Ltr c x->acc.length+x.length<=1000000->∃ l',forR (tgN 4) fG (x.map fun ch=>D.str [ch]) [a,some (.v (.int q)),t,some (.o .l (nats acc)),l] =
  .ok (.nx [a,some (.v (.int (aLh S q x))),t,some (.o .l (nats (acc++runs S q x))),l'])
 | [],q,acc,l,_,_,_=>⟨l,by simp [aLh,runs]⟩
 | ch :: x,q,acc,l,h,hx,hl=>by
  rw [length_cons] at hl
  obtain ⟨h1,h2⟩:=hx ch mem_cons_self
  obtain ⟨r,e1,e2,h3⟩:=aSi M h h1 h2
  obtain ⟨l',e⟩:=aJ3 M a t ha x (stp S q (ch - 97)) (acc++[stp S q (ch - 97)]) (some (.v (.str [ch]))) h3 (fun z hz=>hx z (mem_cons_of_mem _ hz)) (by rw [length_append,List.length_singleton];omega)
  refine ⟨l',?_⟩
  have f:=aX0 M.c3 h1 h2
  have en:nats (acc++[stp S q (ch - 97)])=nats acc++[D.int (stp S q (ch - 97))]:=by unfold nats;simp
  rw [en] at e
  rw [map_cons,aL6,show runs S q (ch :: x)=stp S q (ch - 97) :: runs S (stp S q (ch - 97)) x from rfl,show acc++stp S q (ch - 97) :: runs S (stp S q (ch - 97)) x=acc++[stp S q (ch - 97)]++runs S (stp S q (ch - 97)) x by simp,show aLh S q (ch :: x)=aLh S (stp S q (ch - 97)) x from rfl,<-e]
  subst ha
  simp [fG,aUt,e1,f,e2,fZ,show acc.length < big from aR3 (by omega)]
theorem aX1(M:Mch S rk c){q:Nat}(hq:q < S.length)(x:List Nat)(hx:Ltr c x)(hl:x.length<=500000):bC [mD S rk c,.int q,.str x] = .ok (.lst (nats (q :: runs S q x))):=by
 obtain ⟨l',e⟩:=aJ3 M _ (some (.v (.str x))) rfl x q [q] none hq hx (by simp;omega)
 refine fY rfl ?_
 have hb:dD [some (.v (mD S rk c)),some (.v (.int q)),some (.v (.str x)),none,none] = .ok (.nx [some (.v (mD S rk c)),some (.v (.int (aLh S q x))),some (.v (.str x)),some (.o .l (nats ([q]++runs S q x))),l']):=by
  unfold dD
  refine bJ (st':=[some (.v (mD S rk c)),some (.v (.int q)),some (.v (.str x)),some (.o .l (nats [q])),none]) (by simp [nats]) (bJ (by
   simp [show x.length<=big from gG (by omega)]
   exact e) rfl)
 show aEi dD 3 [some (.v (mD S rk c)),some (.v (.int q)),some (.v (.str x)),none,none]=_
 unfold aEi
 rw [hb]
 rfl
theorem atI_last{xs:List α}{a:α}(h:xs.getLast?=some a):atI xs (-1)=some a:=by
 have h0:xs≠[]:=fun z=>by rw [z] at h;cases h
 have hp:0 < xs.length:=List.length_pos_iff.mpr h0
 rw [List.getLast?_eq_getElem?] at h
 unfold atI ixN
 rw [if_neg (by decide),if_pos (by omega)]
 show xs[((-1:Int)+(xs.length:Int)).toNat]?=some a
 rw [show ((-1:Int)+(xs.length:Int)).toNat=xs.length - 1 by omega]
 exact h
theorem aUu{r:List Nat}{a:Nat}(h:r.getLast?=some a):(nats r).getLast?=some (.int a):=by
 unfold nats
 rw [List.getLast?_map,h]
 rfl
end
end Pu
namespace Pu
theorem join_one(l:List Nat):aEh [] (l.map fun c=>[c])=l:=by
 induction l with
 | nil=>rfl
 | cons a l ih =>
  cases l with
  | nil=>rfl
  | cons b l =>
   show [a]++[]++aEh [] ((b :: l).map fun c=>[c])=_
   rw [ih];rfl
theorem bAl(l:List Nat)(h:l.length<=1000000):aGu (.str []) [.lst (l.map fun c=>D.str [c])] = .ok (.str l):=by
 have e:(l.map fun c=>D.str [c])=(l.map fun c=>[c]).map D.str:=by simp
 have hs:((l.map fun c=>[c]).map List.length).sum=l.length:=by
  rw [List.map_map]
  induction l with
  | nil=>rfl
  | cons a l ih=>rw [map_cons,List.sum_cons,ih (by simp at h;omega) (by simp)];simp;omega
 show (aEg _).bind _=_
 rw [e,aL9]
 simp only [bQ]
 rw [aW (by rw [hs];simp;exact gG (by omega)),join_one]
end Pu
namespace Pu
def cy(c:List Nat)(i:Nat):Nat:=c.getD (i % c.length) 0
def lt(b c:List Nat)(i:Nat):Nat:=if i < b.length then b.getD i 0 else cy c (i - b.length)
theorem bJ8{c:List Nat}  (h:i < c.length):cy c i=c.getD i 0:=by unfold cy;rw [Nat.mod_eq_of_lt h]
theorem bF5(c:List Nat)(i:Nat):cy c (i+c.length)=cy c i:=by unfold cy;rw [Nat.add_mod_right]
end Pu
namespace Pu
theorem sIx_none(n d:Nat):sIx n d none=d:=rfl
theorem sIx_nat(n d k:Nat):sIx n d (some (k:Int))=min k n:=by
 show (if (k:Int) < 0 then ((k:Int)+n).toNat else min (k:Int).toNat n)=_
 rw [if_neg (by omega),toNat_natCast]
theorem bF6(x:List α)(n:Nat):cut x none (some (n:Int))=x.take n:=by
 unfold cut
 rw [sIx_none,sIx_nat,drop_zero,Nat.sub_zero]
 by_cases h:n<=x.length
 ·rw [Nat.min_eq_left h]
 ·rw [Nat.min_eq_right (by omega),List.take_length,take_of_length_le (by omega)]
theorem bF7(x:List α)(n:Nat)(h:n<=x.length):cut x (some (n:Int)) none=x.drop n:=by
 unfold cut
 rw [sIx_none,sIx_nat]
 rw [Nat.min_eq_left h,take_of_length_le (by rw [length_drop];omega)]
end Pu
namespace Pu
end Pu
namespace Pu
theorem aN1{b t:List Nat}{n:Nat}(h:b.length<=n):∀ k,lt b t (n+k * t.length)=lt b t n
 | 0=>by rw [Nat.zero_mul,Nat.add_zero]
 | k+1=>by
  rw [succ_mul,<-Nat.add_assoc,<-aN1 h k]
  unfold lt
  rw [if_neg (by omega),if_neg (by omega),show n+k * t.length+t.length - b.length=n+k * t.length - b.length+t.length by omega,bF5]
theorem aN2{c:Int}{b t:List Nat}(hb:Ltr c b)(ht:Ltr c t)(h1:1<=t.length)(n:Nat):97<=lt b t n/\(lt b t n:Int) < 97+c:=by
 have key:∀ (x:List Nat) (i:Nat),i < x.length->Ltr c x->97<=x.getD i 0/\(x.getD i 0:Int) < 97+c:=fun x i h hx=>by
  have e:x.getD i 0=x[i]:=by rw [getD_eq_getElem?_getD,List.getElem?_eq_getElem h];rfl
  rw [e]
  exact hx _ (List.getElem_mem h)
 unfold lt
 split
 ·exact key _ _ (by assumption) hb
 ·exact key _ _ (mod_lt _ h1) ht
end Pu
namespace Pu
def fw(S:List (List Nat))(f:Nat->Nat)(q:Nat):Nat->Nat
 | 0=>q
 | n+1=>stp S (fw S f q n) (f n - 97)
structure Lp(S:List (List Nat))(f:Nat->Nat)(q s e:Nat):Prop where
 lt:s < e
 per:∀ n,s<=n->f (n+(e - s))=f n
 eq:fw S f q s=fw S f q e
section
variable {f:Nat->Nat}{s e s2 e2:Nat}
theorem Lp.step(L:Lp S f q s e):∀ k,fw S f q (s+k+(e - s))=fw S f q (s+k)
 | 0=>by
  have:=L.lt
  rw [Nat.add_zero,show s+(e - s)=e by omega]
  exact L.eq.symm
 | k+1=>by
  have ih:=L.step k
  have h:=L.per (s+k) (by omega)
  rw [show s+(k+1)+(e - s)=(s+k+(e - s))+1 by omega,show s+(k+1)=(s+k)+1 by omega]
  show stp S (fw S f q (s+k+(e - s))) (f (s+k+(e - s)) - 97)=stp S (fw S f q (s+k)) (f (s+k) - 97)
  rw [ih,h]
theorem Lp.at(L:Lp S f q s e)(n:Nat)(h:s<=n):fw S f q (n+(e - s))=fw S f q n:=by
 have:=L.step (n - s)
 rwa [show s+(n - s)=n by omega] at this
theorem Lp.mul(L:Lp S f q s e):∀ (k n:Nat),s<=n->fw S f q (n+k * (e - s))=fw S f q n
 | 0,n,_=>by rw [Nat.zero_mul,Nat.add_zero]
 | k+1,n,h=>by
  rw [succ_mul,<-Nat.add_assoc,L.at _ (by omega),L.mul k n h]
theorem Lp.into(L:Lp S f q s e)(n:Nat)(h:s<=n):∃ m,s<=m/\m < e/\fw S f q n=fw S f q m:=by
 have hl:=L.lt
 have h1:=mod_lt (n - s) (show 0 < e - s by omega)
 refine ⟨s+(n - s) % (e - s),by omega,by omega,?_⟩
 have:=L.mul ((n - s) / (e - s)) (s+(n - s) % (e - s)) (by omega)
 have hd:=Nat.mod_add_div (n - s) (e - s)
 rw [Nat.mul_comm] at hd
 rw [<-this]
 congr 1
 omega
end
def seg(S:List (List Nat))(f:Nat->Nat)(q s e:Nat):List Nat:=(List.range' s (e - s)).map (fw S f q)
theorem aEz{f:Nat->Nat}{s e r:Nat}:r∈seg S f q s e ↔ ∃ n,s<=n/\n < e/\fw S f q n=r:=by
 unfold seg
 rw [List.mem_map]
 constructor
 ·rintro ⟨n,h,rfl⟩
  rw [List.mem_range'_1] at h
  exact ⟨n,h.1,by omega,rfl⟩
 ·rintro ⟨n,h1,h2,rfl⟩
  exact ⟨n,List.mem_range'_1.mpr ⟨h1,by omega⟩,rfl⟩
def mx(rk l:List Nat):Int:=aIs (l.map fun r=>((rk.getD r 0:Nat):Int))
theorem bAm{l:List Int}(h:l≠[]):aIs l∈l/\∀ x∈l,x<=aIs l:=by
 cases l with
 | nil=>exact (h rfl).elim
 | cons i r =>
  obtain ⟨h1,h2,h3⟩:=aG3 r i
  refine ⟨?_,fun x hx=>?_⟩
  ·rcases h3 with h3 | h3
   ·show r.foldl _ i∈_;rw [h3];exact mem_cons_self
   ·exact mem_cons_of_mem _ h3
  ·rcases List.mem_cons.mp hx with rfl | hx
   ·exact h1
   ·exact h2 x hx
def Ev(S:List (List Nat))(rk:List Nat)(f:Nat->Nat)(q:Nat)(v:Bool):Prop:=∃ s e,Lp S f q s e/\v=decide (mx rk (seg S f q s e) % 2=0)
theorem aX2{f:Nat->Nat}{s e:Nat}(h:s < e):seg S f q s e≠[]:=fun z=>by
 have:fw S f q s∈seg S f q s e:=aEz.mpr ⟨s,Nat.le_refl _,h,rfl⟩
 rw [z] at this;cases this
theorem aH5:∀ (n:Nat) (l:List Nat),l.Nodup->(∀ x∈l,x < n)->l.length<=n
 | 0,l,_,h=>by
  cases l with
  | nil=>simp
  | cons a l=>exact absurd (h a mem_cons_self) (by omega)
 | n+1,l,nd,h=>by
  have h1:=aH5 n (l.erase n) (nd.erase n) (fun x hx=>by
   have:=h x (List.mem_of_mem_erase hx)
   have hne:x≠n:=fun z=>by rw [z] at hx;exact (List.Nodup.not_mem_erase nd) hx
   omega)
  have h2:=List.length_erase (a:=n) (l:=l)
  split at h2<;>omega
theorem least{P:Nat->Prop}:∀ n,P n->∃ m,m<=n/\P m/\∀ k,k < m->¬ P k:=by
 intro n
 induction n using Nat.strongRecOn with
 | ind n ih =>
  intro h
  by_cases hx:∃ k,k < n/\P k
  ·obtain ⟨k,hk,pk⟩:=hx
   obtain ⟨m,a,b,c⟩:=ih k hk pk
   exact ⟨m,by omega,b,c⟩
  ·exact ⟨n,Nat.le_refl _,h,fun k hk pk=>hx ⟨k,hk,pk⟩⟩
theorem aOr(g:Nat->Nat)(n:Nat)(h:∀ i,g i < n):∃ J,J<=n/\(∃ i,i < J/\g i=g J)/\∀ j,j < J->∀ i,i < j->g i≠g j:=by
 have ex:∃ J,J<=n/\∃ i,i < J/\g i=g J:=by
  by_cases hx:∃ J,J<=n/\∃ i,i < J/\g i=g J
  ·exact hx
  ·have inj:∀ i j,i < j->j<=n->g i≠g j:=fun i j hi hj z=>hx ⟨j,hj,i,hi,z⟩
   have nd:((List.range (n+1)).map g).Nodup:=by
    rw [List.nodup_iff_pairwise_ne,List.pairwise_map]
    refine List.Pairwise.imp_of_mem ?_ (List.pairwise_lt_range)
    intro a b ha hb hab
    exact inj a b hab (by have:=List.mem_range.mp hb;omega)
   have:=aH5 n _ nd (fun x hx=>by obtain ⟨i,_,rfl⟩:=List.mem_map.mp hx;exact h i)
   simp at this
   omega
 obtain ⟨J,hJ,hp⟩:=ex
 obtain ⟨m,a,b,c⟩:=least (P:=fun J=>∃ i,i < J/\g i=g J) J hp
 exact ⟨m,by omega,b,fun j hj i hi z=>c j hj ⟨i,hi,z⟩⟩
theorem aLi{C:Ex}{L:Bd}(st:Nat->PSt)(J:Nat)(hgo:∀ j,j < J->C (st j) = .ok (.bl true)/\L (st j) = .ok (.nx (st (j+1))))(hst:C (st J) = .ok (.bl false)):∀ (k fuel:Nat),k<=J->k < fuel->uA C L fuel (st (J - k)) = .ok (.nx (st J))
 | 0,fuel,_,hf=>by
  obtain ⟨m,rfl⟩:∃ m,fuel=m+1:=⟨fuel - 1,by omega⟩
  rw [aGs,Nat.sub_zero,hst]
  rfl
 | k+1,fuel,hk,hf=>by
  obtain ⟨m,rfl⟩:∃ m,fuel=m+1:=⟨fuel - 1,by omega⟩
  obtain ⟨h1,h2⟩:=hgo (J - (k+1)) (by omega)
  have ih:=aLi st J hgo hst k m (by omega) (by omega)
  rw [aGs,h1]
  simp only [bQ,aDn,if_true,h2]
  rw [show J - (k+1)+1=J - k by omega]
  exact ih
end Pu
namespace Pu
section
variable   {c:Nat} {f:Nat->Nat} 
theorem aSj{s:Nat}:seg S f q s s=[]:=by unfold seg;rw [Nat.sub_self];rfl
theorem aF0{s e:Nat}(h:s < e):seg S f q s e=fw S f q s :: seg S f q (s+1) e:=by
 unfold seg
 rw [show e - s=(e - (s+1))+1 by omega,List.range'_succ,map_cons]
theorem aHy{s m e:Nat}(h1:s<=m)(h2:m<=e):seg S f q s m++seg S f q m e=seg S f q s e:=by
 unfold seg
 have:=List.range'_append_1 (s:=s) (m:=m - s) (n:=e - m)
 rw [show s+(m - s)=m by omega,show m - s+(e - m)=e - s by omega] at this
 rw [<-List.map_append,this]
theorem bAn{s:Nat}:seg S f q s (s+1)=[fw S f q s]:=by rw [aF0 (by omega),aSj]
theorem aF1{s e:Nat}:(seg S f q s e).length=e - s:=by unfold seg;simp
theorem aOs{s e:Nat}(h:s<=e):seg S f q s (e+1)=seg S f q s e++[fw S f q e]:=by rw [<-bAn,aHy h (by omega)]
theorem aX3{s e:Nat}(h:s<=e):(seg S f q s (e+1)).getLast?=some (fw S f q e):=by rw [aOs h,List.getLast?_append];rfl
theorem aOt:∀ (x:List Nat) (n:Nat),(∀ i,i < x.length->x.getD i 0=f (n+i))->runs S (fw S f q n) x=seg S f q (n+1) (n+1+x.length)
 | [],n,_=>by rw [List.length_nil,Nat.add_zero,aSj];rfl
 | ch :: x,n,h=>by
  have h0:ch=f n:=by have:=h 0 (by simp);simpa using this
  have e:stp S (fw S f q n) (ch - 97)=fw S f q (n+1):=by rw [h0];rfl
  rw [length_cons,aF0 (by omega),<-e,show n+1+(x.length+1)=n+1+1+x.length by omega,<-aOt x (n+1) (fun i hi=>by
   have:=h (i+1) (by simp;omega)
   rw [show n+1+i=n+(i+1) by omega,<-this]
   simp),<-e]
  rfl
theorem aLj(M:Mch S rk c)(hf:∀ n,97<=f n/\(f n:Int) < 97+c)(hq:q < S.length):∀ n,fw S f q n < S.length
 | 0=>hq
 | n+1=>by
  obtain ⟨_,_,_,h⟩:=aSi M (aLj M hf hq n) (hf n).1 (hf n).2
  exact h
end
section
variable{K V:Nat->D}{g:Nat->Nat}(hK:∀ i j,eqK (K i) (K j)=decide (g i=g j))
include hK
theorem bAo{m:Nat}(h:∀ i,i < j->g i≠g m):vP ((List.range j).map K) (K m)=false:=by
 unfold vP
 rw [List.any_map,List.any_eq_false]
 intro i hi
 have:=h i (List.mem_range.mp hi)
 simp [hK,this]
theorem aX4{m:Nat}(h:i < j)(e:g i=g m):vP ((List.range j).map K) (K m)=true:=by
 unfold vP
 rw [List.any_map,List.any_eq_true]
 exact ⟨i,List.mem_range.mpr h,by simp [hK,e]⟩
theorem aX5{m:Nat}(h:i < j)(e:g i=g m)(hn:∀ a,a < i->g a≠g m):aEc ((List.range j).map K) ((List.range j).map V) (K m)=some (V i):=by
 unfold aEc
 rw [List.zip_map',List.find?_map]
 have:(List.range j).find? ((fun p:D × D=>eqK p.1 (K m)) ∘ fun a=>(K a,V a))=some i:=by
  rw [List.find?_range_eq_some]
  refine ⟨by simp [hK,e],List.mem_range.mpr h,fun a ha=>?_⟩
  have:=hn a ha
  simp [hK,this]
 rw [this]
 rfl
end
theorem aOu(F:Nat->D)(j:Nat):(List.range j).map F++[F j]=(List.range (j+1)).map F:=by rw [List.range_succ,List.map_append];rfl
theorem aF2(a b:List Nat):nats a++nats b=nats (a++b):=by unfold nats;rw [List.map_append]
theorem aX6(a:α)(x:List α):cut (a :: x) (some 1) none=x:=by
 have:=bF7 (a :: x) 1 (by simp)
 simpa using this
theorem bAp(x y:List α)(a:α)(n:Nat)(h:x.length=n):cut (x++y++[a]) (some (n:Int)) (some (-1))=y:=by
 subst h
 have l:(x++y++[a]).length=x.length+y.length+1:=by simp;omega
 unfold cut
 have e1:sIx (x++y++[a]).length 0 (some (x.length:Int))=x.length:=by
  rw [l];show (if ((x.length:Int) < 0) then ((x.length:Int)+((x.length+y.length+1:Nat):Int)).toNat else min (x.length:Int).toNat (x.length+y.length+1))=_;rw [if_neg (by omega)];omega
 have e2:sIx (x++y++[a]).length (x++y++[a]).length (some (-1))=x.length+y.length:=by
  rw [l];unfold sIx;simp;omega
 rw [e1,e2,List.append_assoc,List.drop_left,show x.length+y.length - x.length=y.length by omega,List.take_left]
section
variable   {c:Nat} 
theorem aRb(M:Mch S rk c){b t:List Nat}(lb:Ltr c b)(l2:Ltr c t)(t1:1<=t.length)(tl:t.length<=10000)(bl:b.length<=10000):jE [.tup [.str b,.str t],.int c] = .ok (.bl true):=by
 have h1:=M.c1
 have h3:=M.c3
 rw [aKj (.str b) (.str t) c true true (by rw [aJ1 b c (by omega) (by omega) (by omega),aJ0.mpr lb]) (by rw [aJ1 t c (by omega) (by omega) (by omega),aJ0.mpr l2]) rfl (by simp)]
 have:t≠[]:=fun z=>by rw [z] at t1;simp at t1
 simp [this]
theorem aLk(M:Mch S rk c){f:Nat->Nat}(hf:∀ n,97<=f n/\(f n:Int) < 97+c)(hq:q < S.length)(x:List Nat)(hl:x.length<=10000)(hx:Ltr c x)(n:Nat)(h:∀ i,i < x.length->x.getD i 0=f (n+i)):bC [mD S rk c,.int (fw S f q n),.str x] = .ok (.lst (nats (seg S f q n (n+x.length+1)))):=by
 rw [aX1 M (aLj M hf hq n) x hx (by omega),aOt x n h,aF0 (s:=n) (by omega),show n+x.length+1=n+1+x.length by omega]
theorem aX7{b t:List Nat}  (h:i < b.length):b.getD i 0=lt b t (0+i):=by unfold lt;rw [Nat.zero_add,if_pos h]
theorem aX8{b t:List Nat}  (j:Nat) (h:i < t.length):t.getD i 0=lt b t (b.length+j * t.length+i):=by
 rw [show b.length+j * t.length+i=b.length+i+j * t.length by omega,aN1 (by omega),<-bJ8 h]
 unfold lt
 rw [if_neg (by omega),show b.length+i - b.length=i by omega]
theorem aUv(M:Mch S rk c)(hq:q < S.length){b t:List Nat}(lb:Ltr c b)(l2:Ltr c t)(t1:1<=t.length)(tl:t.length<=10000)(bl:b.length<=10000):∃ i J,i < J/\J<=S.length/\fw S (lt b t) q (b.length+i * t.length)=fw S (lt b t) q (b.length+J * t.length)/\(∀ j,j < J->∀ i,i < j->fw S (lt b t) q (b.length+i * t.length)≠fw S (lt b t) q (b.length+j * t.length)) /\
  ∃ (rs0 rsJ ksJ vsJ:List D) (gJ:Nat),bC [mD S rk c,.int q,.str b] = .ok (.lst rs0) /\
   uA lH pW 100000 [some (.v (mD S rk c)),some (.v (.tup [.str b,.str t])),some (.v (.int q)),some (.o .l rs0),some (.o (.d false []) []),none] = .ok (.nx [some (.v (mD S rk c)),some (.v (.tup [.str b,.str t])),some (.v (.int q)),some (.o .l rsJ),some (.o (.d false ksJ) vsJ),none]) /\
   atI rsJ (-1)=some (.int gJ)/\aEc ksJ vsJ (.int gJ)=some (.int ((b.length+i * t.length:Nat):Int))/\cut rsJ none (some ((b.length+i * t.length:Nat):Int))=nats (seg S (lt b t) q 0 (b.length+i * t.length)) /\
   cut rsJ (some ((b.length+i * t.length:Nat):Int)) (some (-1))=nats (seg S (lt b t) q (b.length+i * t.length) (b.length+J * t.length)):=by
 have hf:=aN2 lb l2 t1
 have h8:=M.most
 generalize hg:(fun i=>fw S (lt b t) q (b.length+i * t.length))=g
 obtain ⟨J,hJ,⟨i,hi,e⟩,hn⟩:=aOr g S.length (fun i=>by rw [<-hg];exact aLj M hf hq _)
 have hg':∀ i,fw S (lt b t) q (b.length+i * t.length)=g i:=fun i=>by rw [<-hg]
 refine ⟨i,J,hi,hJ,by rw [hg',hg',e],fun j hj i hi=>by rw [hg',hg'];exact hn j hj i hi,?_⟩
 have hK:∀ i j,eqK (.int (g i)) (.int (g j))=decide (g i=g j):=fun i j=>by
  rw [Bool.eq_iff_iff];unfold eqK;simp;omega
 have hJt:J * t.length<=8 * 10000:=Nat.mul_le_mul (by omega) tl
 obtain ⟨ks,hks⟩:∃ ks:Nat->List D,∀ j,ks j=(List.range j).map fun i=>D.int (g i):=⟨_,fun _=>rfl⟩
 obtain ⟨vs,hvs⟩:∃ vs:Nat->List D,∀ j,vs j=(List.range j).map fun i=>D.int ((b.length+i * t.length:Nat):Int):=⟨_,fun _=>rfl⟩
 have hvl:∀ j,(vs j).length=j:=fun j=>by rw [hvs];simp
 obtain ⟨rs,hrs⟩:∃ rs:Nat->List D,∀ j,rs j=nats (seg S (lt b t) q 0 (b.length+j * t.length+1)):=⟨_,fun _=>rfl⟩
 have hrl:∀ j,((rs j).length:Int) - 1=((b.length+j * t.length:Nat):Int):=fun j=>by rw [hrs,fZ,aF1];omega
 have hlast:∀ j,atI (rs j) (-1)=some (.int (g j)):=fun j=>by
  rw [<-hg',hrs];exact atI_last (aUu (aX3 (by omega)))
 have hgo:∀ j,j < J->lH [some (.v (mD S rk c)),some (.v (.tup [.str b,.str t])),some (.v (.int q)),some (.o .l (rs j)),some (.o (.d false (ks j)) (vs j)),none] = .ok (.bl true)/\pW [some (.v (mD S rk c)),some (.v (.tup [.str b,.str t])),some (.v (.int q)),some (.o .l (rs j)),some (.o (.d false (ks j)) (vs j)),none] = .ok (.nx [some (.v (mD S rk c)),some (.v (.tup [.str b,.str t])),some (.v (.int q)),some (.o .l (rs (j+1))),some (.o (.d false (ks (j+1))) (vs (j+1))),none]):=fun j hj=>by
  have hno:=bAo (K:=fun i => .int (g i)) hK (j:=j) (m:=j) (fun i hi=>hn j hj i hi)
  have hjt:j * t.length<=8 * 10000:=Nat.le_trans (Nat.mul_le_mul_right _ (by omega)) hJt
  rw [<-hks] at hno
  have hl:e2 dIx (fC 3) (e1 aG1 (eC (.int 1))) [some (.v (mD S rk c)),some (.v (.tup [.str b,.str t])),some (.v (.int q)),some (.o .l (rs j)),some (.o (.d false (ks j)) (vs j)),none] = .ok (.int (g j)):=aR rfl rfl (aIz (hlast j))
  refine ⟨aR hl rfl (by
   show aO (keyOk false (.int (g j))=true) (R.ok (D.bl (!vP (ks j) (.int (g j)))))=_
   rw [aW (c:=keyOk false (.int (g j))=true) rfl,hno]
   rfl),?_⟩
  ·have hal:=aLk M hf hq t tl l2 (b.length+j * t.length) (fun i hi=>aX8 j hi)
   rw [hg'] at hal
   have p1:aEd (ks j) (.int (g j))=ks (j+1):=by
    unfold aEd
    rw [if_neg (by rw [hno];decide),hks,hks]
    exact aOu (fun i=>D.int (g i)) j
   have p2:aIo (ks j) (vs j) (.int (g j)) (.int ((b.length+j * t.length:Nat):Int))=vs (j+1):=by
    unfold aIo
    rw [if_neg (by rw [hno];decide),hvs,hvs]
    exact aOu (fun i=>D.int ((b.length+i * t.length:Nat):Int)) j
   refine bJ (st':=[some (.v (mD S rk c)),some (.v (.tup [.str b,.str t])),some (.v (.int q)),some (.o .l (rs j)),some (.o (.d false (ks (j+1))) (vs (j+1))),none]) ?_ ?_
   ·have hs:e2 aKi (e1 lF (fC 3)) (eC (.int 1)) [some (.v (mD S rk c)),some (.v (.tup [.str b,.str t])),some (.v (.int q)),some (.o .l (rs j)),some (.o (.d false (ks j)) (vs j)),none] = .ok (.int ((b.length+j * t.length:Nat):Int)):=by
     rw [<-hrl j]
     exact aR rfl rfl rfl
    unfold sDPut
    rw [hs,bQ,hl,bQ,<-p1,<-p2]
    exact aW ⟨rfl,aR3 (by rw [hvl];omega)⟩
   ·have hm:fM "Machine" "rooms_along" bC [] (aC 0) (aD (e2 dIx (fC 3) (e1 aG1 (eC (.int 1)))) (aD (e2 dIx (aC 1) (eC (.int 1))) aN)) [some (.v (mD S rk c)),some (.v (.tup [.str b,.str t])),some (.v (.int q)),some (.o .l (rs j)),some (.o (.d false (ks (j+1))) (vs (j+1))),none] = .ok (.lst (nats (seg S (lt b t) q (b.length+j * t.length) (b.length+j * t.length+t.length+1)))):=by
     rw [aEy (xs:=[.int (g j),.str t]) rfl (bK (aR rfl rfl (aIz (hlast j))) (bK (aR rfl rfl rfl) rfl)) (by decide)]
     exact hal
    have hc:cut (nats (seg S (lt b t) q (b.length+j * t.length) (b.length+j * t.length+t.length+1))) (some 1) none=nats (seg S (lt b t) q (b.length+j * t.length+1) (b.length+j * t.length+t.length+1)):=by
     rw [aF0 (by omega)];exact aX6 _ _
    have hr1:rs (j+1)=rs j++nats (seg S (lt b t) q (b.length+j * t.length+1) (b.length+j * t.length+t.length+1)):=by
     rw [hrs,hrs,aF2,aHy (by omega) (by omega),show b.length+(j+1) * t.length+1=b.length+j * t.length+t.length+1 by rw [succ_mul];omega]
    have hlen:(rs j).length+(nats (seg S (lt b t) q (b.length+j * t.length+1) (b.length+j * t.length+t.length+1))).length<=big:=gG (by
     have:=hrl j
     rw [fZ,aF1]
     omega)
    rw [hr1]
    refine bF2 ?_ rfl hlen
    rw [bEs,hm,<-hc]
    rfl
 have hno:=aX4 (K:=fun i => .int (g i)) hK hi e
 rw [<-hks] at hno
 have hget:=aX5 (K:=fun i => .int (g i)) (V:=fun i=>D.int ((b.length+i * t.length:Nat):Int)) hK hi e (fun a ha=>by rw [<-e];exact hn i hi a ha)
 rw [<-hks,<-hvs] at hget
 have hij:i * t.length<=J * t.length:=Nat.mul_le_mul_right _ (by omega)
 obtain ⟨n,hn0⟩:∃ n,n=b.length+i * t.length:=⟨_,rfl⟩
 rw [<-hn0] at hget ⊢
 have hstop:lH [some (.v (mD S rk c)),some (.v (.tup [.str b,.str t])),some (.v (.int q)),some (.o .l (rs J)),some (.o (.d false (ks J)) (vs J)),none] = .ok (.bl false):=by
  refine aR (aR rfl rfl (aIz (hlast J))) rfl ?_
  show aO (keyOk false (.int (g J))=true) (R.ok (D.bl (!vP (ks J) (.int (g J)))))=_
  rw [aW (c:=keyOk false (.int (g J))=true) rfl,hno]
  rfl
 have hw:=aLi (fun j=>[some (.v (mD S rk c)),some (.v (.tup [.str b,.str t])),some (.v (.int q)),some (.o .l (rs j)),some (.o (.d false (ks j)) (vs j)),none]) J hgo hstop J 100000 (Nat.le_refl _) (by omega)
 rw [Nat.sub_self] at hw
 have h0:=aLk M hf hq b bl lb 0 (fun i hi=>aX7 hi)
 rw [Nat.zero_add] at h0
 have hr0:rs 0=nats (seg S (lt b t) q 0 (b.length+1)):=by rw [hrs,Nat.zero_mul,Nat.add_zero]
 rw [<-hr0] at h0
 have hk0:ks 0=[]:=by rw [hks];rfl
 have hv0:vs 0=[]:=by rw [hvs];rfl
 have c1:cut (rs J) none (some (n:Int))=nats (seg S (lt b t) q 0 (n)):=by
  rw [bF6,hrs,<-aHy (s:=0) (m:=n) (by omega) (by omega),<-aF2,List.take_left' (by rw [fZ,aF1];omega)]
 have c2:cut (rs J) (some (n:Int)) (some (-1))=nats (seg S (lt b t) q (n) (b.length+J * t.length)):=by
  rw [hrs,aOs (by omega),<-aHy (s:=0) (m:=n) (by omega) (by omega),<-aF2,<-aF2]
  exact bAp _ _ _ _ (by rw [fZ,aF1];omega)
 refine ⟨rs 0,rs J,ks J,vs J,g J,h0,?_,hlast J,hget,c1,c2⟩
 rw [hk0,hv0] at hw
 exact hw
end
end Pu
namespace Pu
section
variable{S:List (List Nat)}{rk:List Nat}{c:Nat}{q:Nat}
theorem aUw:nD "Machine" "ranks" (mD S rk c) = .ok (.lst (nats rk)):=by unfold mD;rw [aEf,aW rfl];rfl
theorem bJ9{r:Nat}(h:r < rk.length):atI (nats rk) (r:Int)=some (.int (rk.getD r 0)):=by
 rw [atI_nat (by rw [fZ];exact h)]
 simp [nats,getD_eq_getElem?_getD,List.getElem?_eq_getElem h]
def rkD(rk:List Nat):D->D
 | .int i => .int (rk.getD i.toNat 0)
 | d=>d
theorem bF8(l:List Nat):(nats l).map (rkD rk)=(l.map fun r=>((rk.getD r 0:Nat):Int)).map D.int:=by
 unfold nats
 rw [List.map_map,List.map_map]
 refine List.map_congr_left fun r _=>?_
 simp [rkD]
theorem bF9{l:List Nat}(h:l≠[]):aGt (.lst ((nats l).map (rkD rk))) = .ok (.int (mx rk l)):=by
 rw [bF8]
 unfold aGt
 simp only [aL8,bQ]
 rw [aW (by rw [length_map];exact List.length_pos_iff.mpr h)]
 rfl
theorem bAq{b t:List Nat}{J:Nat}(t1:1<=t.length)(hi:i < J)(e:fw S (lt b t) q (b.length+i * t.length)=fw S (lt b t) q (b.length+J * t.length)):Lp S (lt b t) q (b.length+i * t.length) (b.length+J * t.length):=by
 have h1:i * t.length+(J - i) * t.length=J * t.length:=by rw [<-Nat.add_mul];congr 1;omega
 have h2:1 * 1<=(J - i) * t.length:=Nat.mul_le_mul (by omega) t1
 refine ⟨by omega,fun n hn=>?_,e⟩
 rw [show b.length+J * t.length - (b.length+i * t.length)=(J - i) * t.length by omega]
 exact aN1 (by omega) _
end
end Pu
namespace Pu
section
variable   {c:Nat} 
theorem bAr(hq:q < S.length):cI [mD S rk c,.int q] = .ok .non:=by
 have hb:aP eO (aD (aC 1) (aD (e1 (nD "Machine" "many") (aC 0)) (aN))) [some (.v (mD S rk c)),some (.v (.int q))] = .ok (.bl true):=cX (bK rfl (bK (aWz:nD "Machine" "many" (mD S rk c)=_) rfl)) (aLf hq)
 exact bF1 rfl (aHl (aG9 hb) rfl)
theorem bAs(M:Mch S rk c)(hq:q < S.length){b t:List Nat}(lb:Ltr c b)(l2:Ltr c t)(t1:1<=t.length)(tl:t.length<=10000)(bl:b.length<=10000):∃ i J,i < J/\J<=S.length/\fw S (lt b t) q (b.length+i * t.length)=fw S (lt b t) q (b.length+J * t.length)/\(∀ j,j < J->∀ i,i < j->fw S (lt b t) q (b.length+i * t.length)≠fw S (lt b t) q (b.length+j * t.length)) /\
  kY [mD S rk c,.tup [.str b,.str t],.int q] = .ok (.tup [.lst (nats (seg S (lt b t) q 0 (b.length+i * t.length))),.lst (nats (seg S (lt b t) q (b.length+i * t.length) (b.length+J * t.length)))]):=by
 obtain ⟨i,J,hi,hJ,e,hn,rs0,rsJ,ksJ,vsJ,gJ,h0,hw,hlast,hget,c1,c2⟩:=aUv M hq lb l2 t1 tl bl
 refine ⟨i,J,hi,hJ,e,hn,?_⟩
 generalize b.length+i * t.length=n at hget c1 c2 ⊢
 have he:aP jE (aD (aC 1) (aD (e1 (nD "Machine" "letters") (aC 0)) (aN))) [some (.v (mD S rk c)),some (.v (.tup [.str b,.str t])),some (.v (.int q)),none,none,none] = .ok (.bl true):=cX (bK rfl (bK (aOq:nD "Machine" "letters" (mD S rk c)=_) rfl)) (aRb M lb l2 t1 tl bl)
 have hm:fM "Machine" "rooms_along" bC [] (aC 0) (aD (aC 2) (aD (e2 dIx (aC 1) (eC (.int 0))) aN)) [some (.v (mD S rk c)),some (.v (.tup [.str b,.str t])),some (.v (.int q)),none,none,none] = .ok (.lst rs0):=by
  rw [aEy (xs:=[.int q,.str b]) rfl (bK rfl (bK (aR rfl rfl rfl) rfl)) (by decide)]
  exact h0
 have hx:aIq (fM "Machine" "check_room" cI [] (aC 0) (aD (aC 2) (aN))) [some (.v (mD S rk c)),some (.v (.tup [.str b,.str t])),some (.v (.int q)),none,none,none] = .ok (.nx [some (.v (mD S rk c)),some (.v (.tup [.str b,.str t])),some (.v (.int q)),none,none,none]):=by
  unfold aIq
  rw [aEy rfl rfl (by decide)]
  show (cI [mD S rk c,.int q]).bind _=_
  rw [bAr hq]
  rfl
 refine fY rfl (uL hx (uL (aHl (aG9 he) rfl) ?_))
 refine bJ (st':=[some (.v (mD S rk c)),some (.v (.tup [.str b,.str t])),some (.v (.int q)),some (.o .l rs0),none,none]) (aEw hm) ?_
 refine bJ (st':=[some (.v (mD S rk c)),some (.v (.tup [.str b,.str t])),some (.v (.int q)),some (.o .l rs0),some (.o (.d false []) []),none]) rfl ?_
 refine bJ hw ?_
 have hl:e2 dIx (fC 3) (e1 aG1 (eC (.int 1))) [some (.v (mD S rk c)),some (.v (.tup [.str b,.str t])),some (.v (.int q)),some (.o .l rsJ),some (.o (.d false ksJ) vsJ),none] = .ok (.int gJ):=aR rfl rfl (aIz hlast)
 have hg:e2 dIx (fC 4) (e2 dIx (fC 3) (e1 aG1 (eC (.int 1)))) [some (.v (mD S rk c)),some (.v (.tup [.str b,.str t])),some (.v (.int q)),some (.o .l rsJ),some (.o (.d false ksJ) vsJ),none] = .ok (.int (n:Nat)):=aR rfl hl (by
  show aO (keyOk false (.int gJ)=true) (ofO (aEc ksJ vsJ (.int gJ)))=_
  rw [aW (c:=keyOk false (.int gJ)=true) rfl,hget]
  rfl)
 refine bJ (st':=[some (.v (mD S rk c)),some (.v (.tup [.str b,.str t])),some (.v (.int q)),some (.o .l rsJ),some (.o (.d false ksJ) vsJ),some (.v (.int (n:Nat)))]) (dN hg) (wG ?_)
 have s1:eSl (fC 3) rD (gU (aC 5)) [some (.v (mD S rk c)),some (.v (.tup [.str b,.str t])),some (.v (.int q)),some (.o .l rsJ),some (.o (.d false ksJ) vsJ),some (.v (.int (n:Nat)))] = .ok (.lst (nats (seg S (lt b t) q 0 n))):=by rw [<-c1];rfl
 have s2:eSl (fC 3) (gU (aC 5)) (gU (e1 aG1 (eC (.int 1)))) [some (.v (mD S rk c)),some (.v (.tup [.str b,.str t])),some (.v (.int q)),some (.o .l rsJ),some (.o (.d false ksJ) vsJ),some (.v (.int (n:Nat)))] = .ok (.lst (nats (seg S (lt b t) q n (b.length+J * t.length)))):=by rw [<-c2];rfl
 show R.bind (aD _ (aD _ aN) _) _=_
 rw [bK s1 (bK s2 rfl),bQ]
 exact aW (gG (by show 2<=_;omega))
theorem aSk(M:Mch S rk c)(hq:q < S.length){b t:List Nat}(lb:Ltr c b)(l2:Ltr c t)(t1:1<=t.length)(tl:t.length<=10000)(bl:b.length<=10000):∃ v,Ev S rk (lt b t) q v/\cU [mD S rk c,.tup [.str b,.str t],.int q] = .ok (.bl v):=by
 obtain ⟨i,J,hi,hJ,e,_,hw⟩:=bAs M hq lb l2 t1 tl bl
 have L:=bAq t1 hi e
 have h8:=M.most
 have hJt:J * t.length<=8 * 10000:=Nat.mul_le_mul (by omega) tl
 have hlt:=aLj M (aN2 lb l2 t1) hq
 have hlen:(seg S (lt b t) q (b.length+i * t.length) (b.length+J * t.length)).length<=1000000:=by rw [aF1];omega
 have hin:∀ r∈seg S (lt b t) q (b.length+i * t.length) (b.length+J * t.length),r < rk.length:=fun r hr=>by
  obtain ⟨n,_,_,rfl⟩:=aEz.mp hr
  rw [M.rks]
  exact hlt n
 have hne:=aX2 (S:=S) (f:=lt b t) (q:=q) L.lt
 refine ⟨decide (mx rk (seg S (lt b t) q (b.length+i * t.length) (b.length+J * t.length)) % 2=0),⟨_,_,L,rfl⟩,?_⟩
 generalize seg S (lt b t) q (b.length+i * t.length) (b.length+J * t.length)=l at hw hlen hin hne
 have hm:e1 aGt (dX [4] (tgN 4) (itE (aC 3)) gW pX) [some (.v (mD S rk c)),some (.v (.tup [.str b,.str t])),some (.v (.int q)),some (.v (.lst (nats l))),none] = .ok (.int (mx rk l)):=by
  show R.bind (dX [4] (tgN 4) (itE (aC 3)) gW pX [some (.v (mD S rk c)),some (.v (.tup [.str b,.str t])),some (.v (.int q)),some (.v (.lst (nats l))),none]) _=_
  rw [aMz (aH4 rfl) (by rw [fZ];exact hlen) (aCa (rkD rk) _ fun d hd=>by
   obtain ⟨r,hr,rfl⟩:=aJ2 hd
   exact ⟨_,rfl,rfl,aR (aUw:nD "Machine" "ranks" (mD S rk c)=_) rfl (aIz (bJ9 (hin r hr)))⟩),bQ]
  exact bF9 hne
 exact fY rfl (bJ (st':=[some (.v (mD S rk c)),some (.v (.tup [.str b,.str t])),some (.v (.int q)),some (.v (.lst (nats l))),none]) (dN (aR ((aEy rfl rfl (by decide)).trans hw) rfl rfl)) (wG (aR (aR hm rfl (lW (by decide))) rfl (aIy _ _))))
end
end Pu
namespace Pu
def gB{α:Type}(c:Bool)(r:R α):R α:=match c with
 | true=>r
 | false => .bad
theorem sS(c:Prop)[Decidable c](r:R α):aO c r=gB (decide c) r:=by
 by_cases h:c
 ·rw [aW h,decide_eq_true h];rfl
 ·rw [decide_eq_false h];exact if_neg h
def okN(n:Nat):Bool:=ble n 10000000
theorem okN_eq(n:Nat):decide (n<=big)=okN n:=by
 rw [jW]
 unfold okN
 cases h:ble n 10000000 with
 | true=>exact decide_eq_true (le_of_ble_eq_true h)
 | false=>exact decide_eq_false fun z=>by rw [Nat.ble_eq_true_of_le z] at h;cases h
theorem g_n(n:Nat)(r:R α):aO (n<=big) r=gB (okN n) r:=by rw [sS,okN_eq]
theorem bM7(n:Nat)(r:R α):aO (n < big) r=gB (okN (n+1)) r:=g_n (n+1) r
def eBT(p:D->Bool)(f:Ex):Ex:=fun st=>(f st).bind fun x=>gB (aEe x) (.ok (.bl (p x)))
theorem aSl:eB=eBT:=by
 funext p f st
 show (f st).bind (fun x=>aO (aEe x=true) (.ok (D.bl (p x))))=_
 unfold eBT
 congr 1
 funext x
 rw [sS];cases aEe x<;>rfl
def aOv(ns:List Int):D->R D:=fun x=>gB (plain x) (.ok (.bl (!inD x (ns.map D.int))))
theorem yQ:aEk=aOv:=by
 funext ns x
 unfold aEk aOv
 rw [sS];cases plain x<;>rfl
def aX9:Op2
 | .int i,.int j=>gB (decide ((-18446744073709551616 < i/\i < 18446744073709551616)\/(-18446744073709551616 < j/\j < 18446744073709551616))) (.ok (.int (i * j)))
 | _,_ => .bad
theorem aF3:fD=aX9:=by
 funext x y
 unfold fD aX9
 split
 ·exact sS _ _
 ·first | rfl | (split<;>simp_all)
def bCu:Op2
 | .int i,.int j => .ok (.int (i+j))
 | .str x,.str y=>gB (okN (x.length+y.length)) (.ok (.str (x++y)))
 | .lst x,.lst y=>gB (okN (x.length+y.length)) (.ok (.lst (x++y)))
 | _,_ => .bad
theorem aHz:fJ=bCu:=by
 funext x y
 unfold fJ bCu
 split
 ·rfl
 ·exact g_n _ _
 ·exact g_n _ _
 ·first | rfl | (split<;>simp_all)
def xG(a b:Bool):Bool:=match a with
 | true=>b
 | false=>false
def eqT(x y:D):Bool:=xG (ble (dep x) 64) (xG (plain x) (plain y))
theorem aXa(x y:D):decide (dep x<=64/\plain x=true/\plain y=true)=eqT x y:=by
 unfold eqT xG
 cases h:ble (dep x) 64 with
 | false=>exact decide_eq_false fun z=>by rw [Nat.ble_eq_true_of_le z.1] at h;cases h
 | true =>
  have:=le_of_ble_eq_true h
  cases plain x<;>cases plain y<;>simp [this]
def bJa:Op2:=fun a b=>gB (eqT a b) (.ok (.bl (eqD a b)))
theorem aN3:dEq=bJa:=by
 funext x y
 unfold dEq bJa
 rw [sS,aXa]
def bJb:Op2:=fun a b=>gB (eqT a b) (.ok (.bl (!eqD a b)))
theorem aN4:dNe=bJb:=by
 funext x y
 unfold dNe bJb
 rw [sS,aXa]
def inT(x:D)(ys:List D):Bool:=xG (ble (iC ys) 60) (xG (plain x) (fK ys))
theorem aN5(x:D)(ys:List D):decide (iC ys<=60/\plain x=true/\fK ys=true)=inT x ys:=by
 unfold inT xG
 cases h:ble (iC ys) 60 with
 | false=>exact decide_eq_false fun z=>by rw [Nat.ble_eq_true_of_le z.1] at h;cases h
 | true =>
  have:=le_of_ble_eq_true h
  cases plain x<;>cases fK ys<;>simp [this]
theorem g_b(b:Bool)(r:R α):aO (b=true) r=gB b r:=by
 rw [sS];cases b<;>rfl
def bJc:D->D->R D
 | k,.dct t ks _=>gB (keyOk t k) (.ok (.bl (vP ks k)))
 | x,.lst ys=>gB (inT x ys) (.ok (.bl (inD x ys)))
 | x,.tup ys=>gB (inT x ys) (.ok (.bl (inD x ys)))
 | .str x,.str y => .ok (.bl (gF y x 0).isSome)
 | _,_ => .bad
theorem aN6:dIn=bJc:=by
 funext x y
 unfold dIn bJc
 split
 ·exact g_b _ _
 ·rw [sS,aN5]
 ·rw [sS,aN5]
 ·rfl
 ·first | rfl | (split<;>simp_all)
def aSm:D->D->R D
 | k,.dct t ks _=>gB (keyOk t k) (.ok (.bl (!vP ks k)))
 | x,.lst ys=>gB (inT x ys) (.ok (.bl (!inD x ys)))
 | x,.tup ys=>gB (inT x ys) (.ok (.bl (!inD x ys)))
 | .str x,.str y => .ok (.bl (!(gF y x 0).isSome))
 | _,_ => .bad
theorem aCc:rT=aSm:=by
 funext x y
 unfold rT aSm
 split
 ·exact g_b _ _
 ·rw [sS,aN5]
 ·rw [sS,aN5]
 ·rfl
 ·first | rfl | (split<;>simp_all)
def bJd:Op2
 | .dct t ks vs,k=>gB (keyOk t k) (ofO (aEc ks vs k))
 | .lst x,.int i=>ofO (atI x i)
 | .tup x,.int i=>ofO (atI x i)
 | .str x,.int i=>gB (okN x.length) (ofO ((atI x i).map fun c => .str [c]))
 | _,_ => .bad
theorem aN7:dIx=bJd:=by
 funext x y
 unfold dIx bJd
 split
 ·exact g_b _ _
 ·rfl
 ·rfl
 ·exact g_n _ _
 ·first | rfl | (split<;>simp_all)
def bJe(r:Exs):Ex:=fun st=>(r st).bind fun xs=>gB (okN xs.length) (.ok (.lst xs))
theorem aI0:pG=bJe:=by
 funext r st
 show (r st).bind _=(r st).bind _
 congr 1
 funext xs
 exact g_n _ _
def bJf(r:Exs):Ex:=fun st=>(r st).bind fun xs=>gB (okN xs.length) (.ok (.tup xs))
theorem aI1:aAp=bJf:=by
 funext r st
 show (r st).bind _=(r st).bind _
 congr 1
 funext xs
 exact g_n _ _
def bFa(is:List Nat)(tg:Tg)(it:ItE)(c f:Ex):Ex:=fun st=>(it st).bind fun xs=>gB (okN xs.length) ((uT tg c f (clr is st) xs).bind fun ys => .ok (.lst ys))
theorem aF4:dX=bFa:=by
 funext is tg it c f st
 show (it st).bind _=(it st).bind _
 congr 1
 funext xs
 exact g_n _ _
def bJg(f:Ex):ItE:=fun st=>(f st).bind fun x=>inI x fun j=>gB (decide (-10000000<=j/\j<=10000000)) (.ok (pM 0 j.toNat))
theorem aI2:aHi=bJg:=by
 funext f st
 show (f st).bind _=(f st).bind _
 congr 1
 funext x
 unfold inI
 split
 ·rw [jW];exact sS _ _
 ·rfl
def bJh(i:Nat)(f:Ex):Bd:=fun st=>(f st).bind fun d=>match st[i]? with
 | some (some (.o .l xs))=>gB (okN (xs.length+1)) (.ok (.nx (st.set i (some (.o .l (xs++[d]))))))
 | _ => .bad
theorem aI3:aCs=bJh:=by
 funext i f st
 show (f st).bind _=(f st).bind _
 congr 1
 funext d
 generalize st[i]?=o
 split
 ·exact bM7 _ _
 ·first | rfl | (split<;>simp_all)
def bFb(i:Nat)(g f:Ex):Bd:=fun st=>(f st).bind fun d=>(g st).bind fun k=>match st[i]? with
 | some (some (.o (.d t ks) vs))=>gB (xG (keyOk t k) (okN (vs.length+1))) (.ok (.nx (st.set i (some (.o (.d t (aEd ks k)) (aIo ks vs k d))))))
 | _ => .bad
theorem aF5:sDPut=bFb:=by
 funext i g f st
 show (f st).bind _=(f st).bind _
 congr 1
 funext d
 congr 1
 funext k
 generalize st[i]?=o
 split
 ·rename_i t ks vs
  rw [sS]
  show gB _ _=gB _ _
  congr 1
  unfold xG
  rw [<-okN_eq]
  cases keyOk t k<;>simp [Nat.succ_le_iff]
 ·first | rfl | (split<;>simp_all)
def bAt(i:Nat)(g f:Ex):Bd:=fun st=>(g st).bind fun k=>(f st).bind fun d=>gB (xG (aOj k) (atom d)) (.ok (.nx (st.set i (some (.o (.d false [k]) [d])))))
theorem aCd:aR9=bAt:=by
 funext i g f st
 show (g st).bind _=(g st).bind _
 congr 1
 funext k
 congr 1
 funext d
 rw [sS]
 congr 1
 unfold xG
 cases aOj k<;>cases atom d<;>rfl
def bAu(i:Nat)(g f:Ex):Bd:=fun st=>(g st).bind fun k=>(f st).bind fun d=>gB (aOj k) (.ok (.nx (st.set i (some (.o (.d false [k]) [d])))))
theorem aLl:aMw=bAu:=by
 funext i g f st
 show (g st).bind _=(g st).bind _
 congr 1
 funext k
 congr 1
 funext d
 exact g_b _ _
def aSn:D->R D
 | .dct false ks _=>gB (okN ks.length) (.ok (.lst ks))
 | _ => .bad
theorem aLm:aAq=aSn:=by
 funext x
 unfold aAq aSn
 split
 ·exact g_n _ _
 ·first | rfl | (split<;>simp_all)
def bFc(r:Exs)(g:Ex):Ex:=fun st=>(r st).bind fun xs=>(g st).bind fun y=>inI y fun j=>gB (xG (okN xs.length) (xG (okN (xs.length * j.toNat)) (decide (-4611686018427387904<=j/\j < 4611686018427387904)))) (.ok (.lst (rep j.toNat xs)))
theorem aOw:aIu=bFc:=by
 funext r g st
 show (r st).bind _=(r st).bind _
 congr 1
 funext xs
 congr 1
 funext y
 unfold inI
 split
 ·rename_i j
  dsimp only
  rw [sS]
  congr 1
  unfold xG
  rw [<-okN_eq,<-okN_eq]
  by_cases h1:xs.length<=big<;>by_cases h2:xs.length * j.toNat<=big<;>simp [h1,h2]
 ·rfl
def aXb:Mop
 | .lst xs,[.int k]=>(zY xs).bind fun l=>(ofO (l.findIdx? fun i=>i==k)).bind fun n=>gB (okN xs.length) (.ok (.int (n:Int)))
 | _,_ => .bad
theorem aF6:aLa=aXb:=by
 funext x ys
 unfold aLa aXb
 split
 ·congr 1
  funext l
  congr 1
  funext n
  exact g_n _ _
 ·first | rfl | (split<;>simp_all)
def bCv(np n:Nat)(b:Bd)(ds:List D):R D :=
 gB (Nat.beq ds.length np) ((b (ds.map (fun d=>some (.v d))++List.replicate (n - np) none)).bind fun x=>match x with
  | .nx _ => .ok .non
  | .rt d => .ok d
  | _ => .bad)
theorem aI4:cF=bCv:=by
 funext np n b ds
 unfold cF bCv
 rw [sS]
 congr 1
 cases h:Nat.beq ds.length np with
 | true=>exact decide_eq_true (Nat.eq_of_beq_eq_true h)
 | false=>exact decide_eq_false (Nat.ne_of_beq_eq_false h)
end Pu
namespace Pu
def bCw:Op2
 | .int i,.int j=>gB (xG (decide (0<=i)) (decide (0<=j))) (.ok (.int ((i.toNat &&& j.toNat:Nat):Int)))
 | _,_ => .bad
theorem aJ4(a b:Prop)[Decidable a][Decidable b](r:R α):aO (a/\b) r=gB (xG (decide a) (decide b)) r:=by
 rw [sS]
 congr 1
 unfold xG
 by_cases ha:a<;>by_cases hb:b<;>simp [ha,hb]
theorem aSo:aUr=bCw:=by
 funext x y
 unfold aUr bCw
 split
 ·exact aJ4 _ _ _
 ·first | rfl | (split<;>simp_all)
def bJi:Op2
 | .int i,.int j=>gB (xG (decide (0<=i)) (decide (0<=j))) (.ok (.int ((i.toNat ||| j.toNat:Nat):Int)))
 | _,_ => .bad
theorem aXc:dOr=bJi:=by
 funext x y
 unfold dOr bJi
 split
 ·exact aJ4 _ _ _
 ·first | rfl | (split<;>simp_all)
def bCx:Op2
 | .int i,.int j=>gB (xG (decide (0<=j)) (decide (j<=1000000/\i.natAbs < 18446744073709551616))) (.ok (.int (i * 2 ^ j.toNat)))
 | _,_ => .bad
theorem aSp:aUq=bCx:=by
 funext x y
 unfold aUq bCx
 split
 ·exact aJ4 _ _ _
 ·first | rfl | (split<;>simp_all)
def bCy:Op2
 | .int i,.int j=>gB (decide (0<=j)) (.ok (.int (i / 2 ^ j.toNat)))
 | _,_ => .bad
theorem aSq:aWt=bCy:=by
 funext x y
 unfold aWt bCy
 split
 ·exact sS _ _
 ·first | rfl | (split<;>simp_all)
def bCz:Op2
 | .int i,.int j=>gB (decide (0 < j)) (.ok (.int (i % j)))
 | _,_ => .bad
theorem aSr:pL=bCz:=by
 funext x y
 unfold pL bCz
 split
 ·exact sS _ _
 ·first | rfl | (split<;>simp_all)
def bD0(c f:String):D->R D
 | .ins c' ns xs=>gB (decide (c'=c)) (ofO ((ns.zip xs).lookup f))
 | _ => .bad
theorem aSs:nD=bD0:=by
 funext c f x
 unfold nD bD0
 split
 ·exact sS _ _
 ·first | rfl | (split<;>simp_all)
def aXd:D->D->D->R D
 | .dct t ks vs,k,x=>gB (keyOk t k) (if vP ks k=true then ofO (aEc ks vs k) else .ok x)
 | _,_,_ => .bad
theorem aOx:aGw=aXd:=by
 funext a k x
 unfold aGw aXd
 split
 ·exact g_b _ _
 ·first | rfl | (split<;>simp_all)
def aOy:D->R D
 | .int n=>gB (decide (-10000000<=n/\n<=10000000)) (.ok (.lst (pM 0 n.toNat)))
 | _ => .bad
theorem aJ5:aEj=aOy:=by
 funext x
 unfold aEj aOy
 split
 ·rw [jW];exact sS _ _
 ·first | rfl | (split<;>simp_all)
def bD1:D->R D
 | .dct false ks _ => .ok (.int ks.length)
 | .lst x => .ok (.int x.length)
 | .tup x => .ok (.int x.length)
 | .str x=>gB (okN x.length) (.ok (.int x.length))
 | _ => .bad
theorem aSt:lF=bD1:=by
 funext x
 unfold lF bD1
 split<;>first | rfl | exact g_n _ _ | (split<;>simp_all)
def bJj(x:D)(lo hi:Option Int):R D:=match x with
 | .lst xs => .ok (.lst (cut xs lo hi))
 | .str xs=>gB (okN xs.length) (.ok (.str (cut xs lo hi)))
 | _ => .bad
theorem aXe:dSl=bJj:=by
 funext x lo hi
 unfold dSl bJj
 split<;>first | rfl | exact g_n _ _ | (split<;>simp_all)
def bM8(f:Ex):ItE:=fun st=>(f st).bind fun x=>match x with
 | .lst xs => .ok xs
 | .tup xs => .ok xs
 | .str xs=>gB (okN xs.length) (.ok (xs.map fun c => .str [c]))
 | _ => .bad
theorem aXf:itE=bM8:=by
 funext f st
 show (f st).bind _=(f st).bind _
 congr 1
 funext x
 split<;>first | rfl | exact g_n _ _ | (split<;>simp_all)
def aXg:Mop
 | .str x,[.str y] => .ok (.int (rR (gF x y 0)))
 | .str x,[.str y,.int i]=>gB (decide (0<=i)) (.ok (.int (rR (gF x y i.toNat))))
 | _,_ => .bad
theorem aOz:aGr=aXg:=by
 funext x ys
 unfold aGr aXg
 split<;>first | rfl | exact sS _ _ | (split<;>simp_all)
def aSu:Mop
 | .str x,[.str y]=>gB (okN x.length) (.ok (.str (tZ x y)))
 | _,_ => .bad
theorem aLn:aDk=aSu:=by
 funext x ys
 unfold aDk aSu
 split<;>first | rfl | exact g_n _ _ | (split<;>simp_all)
def bFd(c m:String)(p:List D->R D)(dv:List D)(f:Ex)(r:Exs):Ex:=fun st=>(f st).bind fun x=>(r st).bind fun xs=>match x with
 | .ins c' ns _=>gB (xG (decide (c'=c)) (decide (m ∉ ns))) (p (x :: (xs++dv)))
 | _ => .bad
theorem aP0:fM=bFd:=by
 funext c m p dv f r st
 show (f st).bind _=(f st).bind _
 congr 1
 funext x
 congr 1
 funext xs
 split<;>first | rfl | exact aJ4 _ _ _ | (split<;>simp_all)
def bJk(i:Nat)(f:Ex):Bd:=fun st=>(f st).bind fun d=>match d with
 | .lst ys=>(match st[i]? with
  | some (some (.o .l xs))=>gB (okN (xs.length+ys.length)) (.ok (.nx (st.set i (some (.o .l (xs++ys))))))
  | _ => .bad)
 | _ => .bad
theorem aSv:aUp=bJk:=by
 funext i f st
 show (f st).bind _=(f st).bind _
 congr 1
 funext d
 generalize st[i]?=o
 split
 ·split
  ·exact g_n _ _
  ·first | rfl | (split<;>simp_all)
 ·first | rfl | (split<;>simp_all)
def bFe(i j:Nat)(p:List D->R D)(f:Ex):Bd:=fun st=>(f st).bind fun x=>match st[j]? with
 | some (some (.o .l ys))=>(match ys.getLast? with
  | some d=>gB (okN ys.length) ((p [x,d]).bind fun y => .ok (.nx ((st.set j (some (.o .l ys.dropLast))).set i (some (.v y)))))
  | none => .bad)
 | _ => .bad
theorem aP1:aWv=bFe:=by
 funext i j p f st
 show (f st).bind _=(f st).bind _
 congr 1
 funext x
 generalize st[j]?=o
 split
 ·split
  ·exact g_n _ _
  ·rfl
 ·first | rfl | (split<;>simp_all)
def insI(a:Int):List Int->List Int
 | []=>[a]
 | b :: r=>match decide (a<=b) with
  | true=>a :: b :: r
  | false=>b :: insI a r
def aXh:List Int->List Int
 | []=>[]
 | a :: r=>insI a (aXh r)
theorem insI_perm(a:Int):∀ l:List Int,(insI a l).Perm (a :: l)
 | [] => .refl _
 | b :: r=>by
  unfold insI
  split
  ·exact .refl _
  ·exact ((insI_perm a r).cons b).trans (.swap _ _ _)
theorem aLo:∀ l:List Int,(aXh l).Perm l
 | [] => .refl _
 | a :: r=>(insI_perm a _).trans ((aLo r).cons a)
theorem aLp(a:Int):∀ {l:List Int},l.Pairwise (· <= ·)->(insI a l).Pairwise (· <= ·)
 | [],_=>List.pairwise_singleton _ _
 | b :: r,h=>by
  unfold insI
  have h':=List.pairwise_cons.mp h
  split
  ·rename_i e
   have:=of_decide_eq_true e
   exact List.pairwise_cons.mpr ⟨fun x hx=>by
    rcases List.mem_cons.mp hx with rfl | hx
    ·exact this
    ·have:=h'.1 x hx;omega,h⟩
  ·rename_i e
   have:=of_decide_eq_false e
   exact List.pairwise_cons.mpr ⟨fun x hx=>by
    rcases List.mem_cons.mp ((insI_perm a r).mem_iff.mp hx) with rfl | hx
    ·omega
    ·exact h'.1 x hx,aLp a h'.2⟩
theorem aLq:∀ l:List Int,(aXh l).Pairwise (· <= ·)
 | [] => .nil
 | a :: r=>aLp a (aLq r)
theorem bFf(l:List Int):aMv l=aXh l :=
 List.Perm.eq_of_pairwise (fun a b _ _ h1 h2=>Int.le_antisymm h1 h2) (aOn l) (aLq l) ((aIt l).trans (aLo l).symm)
def aP2:D->R D
 | .lst x=>(zY x).bind fun l=>gB (xG (decide (l.length<=4000)) (decide ((aGv l).length < 64))) (.ok (.lst ((aXh (aGv l)).map D.int)))
 | _ => .bad
theorem aJ6:aHw=aP2:=by
 funext x
 unfold aHw aP2
 split
 ·congr 1
  funext l
  rw [aJ4,bFf]
 ·first | rfl | (split<;>simp_all)
def aXi:D->R D
 | .lst x=>(zY x).bind fun l=>gB (decide (0 < l.length)) (.ok (.int (aIs l)))
 | _ => .bad
theorem aP3:aGt=aXi:=by
 funext x
 unfold aGt aXi
 split
 ·congr 1
  funext l
  exact sS _ _
 ·first | rfl | (split<;>simp_all)
def aSw:D->R D
 | .dct false ks ds=>gB (okN ks.length) (.ok (.lst (List.zipWith (fun k d => .tup [k,d]) ks ds)))
 | _ => .bad
theorem aLr:aG4=aSw:=by
 funext x
 unfold aG4 aSw
 split
 ·exact g_n _ _
 ·first | rfl | (split<;>simp_all)
def bD2(c:String):D->R D
 | .ins c' _ _=>gB (decide (c'=c)) (.ok (.bl true))
 | _ => .bad
theorem aSx:bAi=bD2:=by
 funext c x
 unfold bAi bD2
 split
 ·exact sS _ _
 ·first | rfl | (split<;>simp_all)
def aXj:Op2
 | .int i,.int j=>gB (decide (0 < j/\j < 1073741824)) (.ok (.int (i / j)))
 | _,_ => .bad
theorem aP4:nW=aXj:=by
 funext x y
 unfold nW aXj
 split
 ·exact sS _ _
 ·first | rfl | (split<;>simp_all)
end Pu
namespace Pu
theorem bD3{op:D->R D}  {st:PSt} {x:D} {z:R D} (h:f st = .ok x) (ho:op x=z):e1 op f st=z:=by
 show (f st).bind op=_
 rw [h]
 exact ho
theorem aSy{k:Nat}(h:k < ns.length):atI (ns.map D.int) (k:Int)=some (.int (ns.getD k 0)):=by
 rw [atI_nat (by simpa using h)]
 simp [getD_eq_getElem?_getD,List.getElem?_eq_getElem h]
theorem aP5{i j:Int}(h:(-18446744073709551616 < i/\i < 18446744073709551616)\/(-18446744073709551616 < j/\j < 18446744073709551616)):fD (.int i) (.int j) = .ok (.int (i * j)):=aW h
theorem bD4(ns:List Int)(k:Nat)(hk:k<=100000):∃ c:Int,rE [.lst (ns.map D.int),.int k] = .ok (.int c):=by
 have ln:∀ x,e1 lF (aC 0) [some (.v (.lst (ns.map D.int))),some (.v (.int k)),x] = .ok (.int (ns.length:Nat)):=fun x=>by
  show R.ok (D.int (((ns.map D.int).length:Nat):Int))=_
  rw [length_map]
 have fin:∀ r:Int,∃ c:Int,cL (e2 pL (e2 fD (e2 fJ (e2 fJ (e2 fD (aC 2) (eC (.int 48271))) (e2 fD (eC (.int 7919)) (aC 1))) (eC (.int 11))) (e2 fJ (aC 1) (eC (.int 2)))) (eC (.int 2147483647))) [some (.v (.lst (ns.map D.int))),some (.v (.int k)),some (.v (.int r))] = .ok (.rt (.int c)):=fun r =>
  ⟨_,wG (aR (aR (aR (aR (aR rfl rfl (aP5 (.inr (by decide)))) (aR rfl rfl (aP5 (.inl (by decide)))) rfl) rfl rfl) (aR rfl rfl rfl) (aP5 (.inr (by omega)))) rfl (lW (by decide)))⟩
 by_cases h:k < ns.length
 ·have hp:aWi (.int 10) (.int 30) = .ok (.int ((10:Int) ^ (30:Int).toNat)):=aW ⟨by decide,by decide,by decide⟩
  exact ⟨_,fY rfl (bF0 (bAj (aR rfl (ln _) (by show R.ok (D.bl (decide ((k:Int) < (ns.length:Nat))))=_;rw [bM5 h])) (wG (aR (aR rfl rfl (aIz (aSy h))) (aR rfl rfl hp) (lW (by decide))))))⟩
 ·have h1:e2 aMu (aC 1) (e1 lF (aC 0)) [some (.v (.lst (ns.map D.int))),some (.v (.int k)),none] = .ok (.bl false):=aR rfl (ln _) (by
   show R.ok (D.bl (decide ((k:Int) < (ns.length:Nat))))=_
   rw [bM6 h])
  have h2:∀ b,decide (0 < ns.length)=b->e2 dGt (e1 lF (aC 0)) (eC (.int 0)) [some (.v (.lst (ns.map D.int))),some (.v (.int k)),some (.v (.int 0))] = .ok (.bl b):=fun b e=>aR (ln _) rfl (by
   show R.ok (D.bl (decide ((0:Int) < (ns.length:Nat))))=_
   rw [<-e]
   congr 2
   by_cases z:0 < ns.length
   ·rw [decide_eq_true z,decide_eq_true (by omega)]
   ·rw [decide_eq_false z,decide_eq_false (by omega)])
  by_cases h0:0 < ns.length
  ·have hm:k % ns.length < ns.length:=mod_lt _ h0
   have ec:((k % ns.length:Nat):Int)=(k:Int) % (ns.length:Nat):=by push_cast;rfl
   have e:=aSy hm
   rw [ec] at e
   obtain ⟨c,hc⟩:=fin (ns.getD (k % ns.length) 0 % 999983)
   exact ⟨c,fY rfl (bJ (aHl h1 rfl) (bJ (dN rfl) (bJ (bAj (h2 _ (decide_eq_true h0)) (dN (aR (aR rfl (aR rfl (ln _) (lW (by omega))) (aIz e)) rfl (lW (by decide))))) hc)))⟩
  ·obtain ⟨c,hc⟩:=fin 0
   exact ⟨c,fY rfl (bJ (aHl h1 rfl) (bJ (dN rfl) (bJ (aHl (h2 _ (decide_eq_false h0)) rfl) hc)))⟩
theorem aP6(c k m:Int)(h:0 < m):∃ i:Int,cZ [.int c,.int k,.int m] = .ok (.int i)/\0<=i/\i < m:=by
 have a0:∀ x:Int,0<=x % 2147483629:=fun x=>emod_nonneg _ (by decide)
 have a1:∀ x:Int,x % 2147483629 < 2147483629:=fun x=>emod_lt_of_pos _ (by decide)
 have sq:∀ x:Int,0<=x->x < 2147483629->fD (.int x) (.int x) = .ok (.int (x * x)):=fun x h1 h2=>aP5 (.inl ⟨by omega,by omega⟩)
 refine ⟨_,fY rfl (bJ (dN (aR (aR rfl (aR rfl rfl (aP5 (.inl (by decide)))) rfl) rfl (lW (by decide)))) (bJ (dN (aR (aR (aR (aR rfl rfl (sq _ (a0 _) (a1 _))) rfl (lW (by decide))) rfl (aP5 (.inr (by decide)))) rfl (lW (by decide)))) (wG (aR (aR (aR (aR rfl rfl (sq _ (a0 _) (a1 _))) rfl (lW (by decide))) rfl (aCb (by decide))) rfl (lW h))))),emod_nonneg _ (by omega),emod_lt_of_pos _ h⟩
theorem aUx{c s:Int}{l:D}  {x:Option Sl} (hs:0 < s) (hb:s < 1073741824) (hl:xs.length < 1000):rY [some (.v (.int c)),some (.v l),some (.o .l xs),some (.v (.int s))] = .ok (.nx [some (.v (.int (c / s))),some (.v l),some (.o .l (xs++[.int (c % s)])),some (.v (.int s))]) :=
 bJ (aMy (aR rfl rfl (lW hs)) rfl (by omega)) (dN (aR rfl rfl (aCb ⟨hs,hb⟩)))
theorem bAv(c:Int):∃ x y z:Int,dM [.int c,.lst [.int 6,.int 420,.int 2]] = .ok (.lst [.int x,.int y,.int z])/\(0<=x/\x < 6)/\(0<=y/\y < 420)/\(0<=z/\z < 2):=by
 refine ⟨c % 6,c / 6 % 420,c / 6 / 420 % 2,fY rfl (bJ (aEw (aBb rfl)) (bJ (wH (aH4 rfl) (pY rfl (aUx (x:=none) (by decide) (by decide) (of_decide_eq_true rfl)) (pY rfl (aUx (x:=none) (by decide) (by decide) (of_decide_eq_true rfl)) (pY rfl (aUx (x:=none) (by decide) (by decide) (of_decide_eq_true rfl)) rfl)))) rfl)),?_,?_,?_⟩
 ·exact ⟨emod_nonneg _ (by decide),emod_lt_of_pos _ (by decide)⟩
 ·exact ⟨emod_nonneg _ (by decide),emod_lt_of_pos _ (by decide)⟩
 ·exact ⟨emod_nonneg _ (by decide),emod_lt_of_pos _ (by decide)⟩
end Pu
namespace Pu
def sU(k:Nat)(w:List Nat):Nat:=w.foldl (fun n c=>n * k+(c - 97)) 0
theorem snoc_ind{P:List Nat->Prop}(h0:P [])(h1:∀ v c,P v->P (v++[c]))(w:List Nat):P w:=by
 have h:∀ v:List Nat,P v.reverse:=by
  intro v
  induction v with
  | nil=>exact h0
  | cons c v ih=>rw [List.reverse_cons];exact h1 _ _ ih
 have:=h w.reverse
 rwa [List.reverse_reverse] at this
theorem aJ7(k:Nat)(w:List Nat)(c:Nat):sU k (w++[c])=sU k w * k+(c - 97):=by
 unfold sU
 rw [List.foldl_append]
 rfl
theorem aRc{k:Nat}(hk:1<=k):∀ (w:List Nat),Ltr (k:Int) w->sU k w < k ^ w.length:=by
 refine snoc_ind (fun _=>by simp [sU]) fun v c ih=>?_
 ·intro h
  have h1:=ih fun x hx=>h x (List.mem_append_left _ hx)
  obtain ⟨h2,h3⟩:=h c (List.mem_append_right _ (List.mem_singleton.mpr rfl))
  rw [aJ7,length_append,List.length_singleton,Nat.pow_succ]
  have h4:(sU k v+1) * k<=k ^ v.length * k:=Nat.mul_le_mul_right k h1
  rw [Nat.add_mul] at h4
  omega
theorem aP7{k:Nat}(hk:k<=3)(hn:n<=5500):k ^ n < huge:=by
 have h1:k ^ n<=3 ^ n:=Nat.pow_le_pow_left hk n
 have h2:3 ^ n<=3 ^ 5500:=Nat.pow_le_pow_right (by decide) hn
 have h3:3 ^ 5500 < 2 ^ 9000:=by decide +kernel
 rw [bAh]
 exact Nat.lt_of_le_of_lt (Nat.le_trans h1 h2) h3
theorem aRd(i j:Nat):fJ (.int i) (.int j) = .ok (.int ((i+j:Nat):Int)):=by
 rw [Int.natCast_add]
 rfl
def rK(k:Nat)(x y:List Nat):Nat:=sU k x * (k ^ y.length - 1)+sU k y
def yR(k:Nat)(x y:List Nat):Nat:=k ^ x.length * (k ^ y.length - 1)
section
variable{k:Nat}{x:List Nat}
end
section
variable{t b:Nat}(hb:0 < b)
include hb
end
end Pu
namespace Pu
theorem bD5{m:Mop}   {st:PSt} {x:D}  {z:R D} (hf:f st = .ok x) (hr:r st = .ok xs) (h:m x xs=z):eMt m f r st=z:=by
 show (f st).bind _=_
 rw [hf]
 show (r st).bind _=_
 rw [hr]
 exact h
theorem bFg{st:PSt}{w:List Nat}(h:f st = .ok (.str w))(hl:w.length<=1000000):itE f st = .ok (w.map fun c => .str [c]):=by
 rw [aWl,h,bQ]
 exact aW (gG (Nat.le_trans hl (by decide)))
theorem len_str{st:PSt}{w:List Nat}(h:f st = .ok (.str w))(hl:w.length<=1000000):e1 lF f st = .ok (.int (w.length:Nat)):=bD3 h (aW (gG (Nat.le_trans hl (by decide))))
theorem aXk{c:Nat}(h:97<=c)(h2:c < 100):gF [97,98,99] [c] 0=some (c - 97):=by
 have:c=97\/c=98\/c=99:=by omega
 rcases this with rfl | rfl | rfl<;>decide
theorem aP8{L:Bd}{k:Nat}(hk:1<=k)(hk3:k<=3){s0:Option Sl}(hL:∀ n c:Nat,n < huge->97<=c->c < 100->L [s0,some (.v (.int k)),some (.v (.int n)),some (.v (.str [c]))] = .ok (.nx [s0,some (.v (.int k)),some (.v (.int (n * k+(c - 97):Nat))),some (.v (.str [c]))])) :
  ∀ (v u:List Nat),Ltr (k:Int) (u++v)->(u++v).length<=5500->∀ x,∃ x',forR (tgN 3) L (v.map fun c=>D.str [c]) [s0,some (.v (.int k)),some (.v (.int (sU k u))),x] = .ok (.nx [s0,some (.v (.int k)),some (.v (.int (sU k (u++v)))),x'])
 | [],u,_,_,x=>⟨x,by rw [append_nil];rfl⟩
 | c :: v,u,h,hl,x=>by
  have e:u++c :: v=(u++[c])++v:=by simp
  rw [e] at h hl
  obtain ⟨x',ih⟩:=aP8 hk hk3 hL v (u++[c]) h hl (some (.v (.str [c])))
  obtain ⟨c1,c2⟩:=h c (by simp)
  have hu:sU k u < huge:=Nat.lt_trans (aRc hk u fun y hy=>h y (by simp [hy])) (aP7 hk3 (by simp at hl;omega))
  refine ⟨x',pY rfl (hL _ c hu c1 (by omega)) ?_⟩
  rw [e,<-aJ7]
  exact ih
theorem aP9{L:Bd}{k:Nat}(hk:1<=k)(hk3:k<=3){s1:Option Sl}(hL:∀ (n:Nat) (d:D),n < huge->L [some (.v (.int k)),s1,some (.v (.int n)),some (.v d)] = .ok (.nx [some (.v (.int k)),s1,some (.v (.int (n * k:Nat))),some (.v d)])) :
  ∀ (ds:List D) (m:Nat),m+ds.length<=5500->∀ x,∃ x',forR (tgN 3) L ds [some (.v (.int k)),s1,some (.v (.int (k ^ m:Nat))),x] = .ok (.nx [some (.v (.int k)),s1,some (.v (.int (k ^ (m+ds.length):Nat))),x'])
 | [],m,_,x=>⟨x,rfl⟩
 | d :: ds,m,hl,x=>by
  rw [length_cons] at hl
  obtain ⟨x',ih⟩:=aP9 hk hk3 hL ds (m+1) (by omega) (some (.v d))
  refine ⟨x',pY rfl (hL _ d (aP7 hk3 (by omega))) ?_⟩
  rw [<-Nat.pow_succ,length_cons,show m+(ds.length+1)=m+1+ds.length by omega]
  exact ih
theorem bM9(h:1<=i):aKi (.int i) (.int 1) = .ok (.int (i - 1:Nat)):=by
 show R.ok (D.int ((i:Int) - 1))=_
 rw [Int.natCast_sub h];rfl
end Pu
namespace Pu
noncomputable section
def moA:Exs:=aD (dX [5] (tgN 5) (itE (aC 6)) gW (oG)) (aD (aC 7) (aN))
def aPa:Bd:=aU (aIq (aP dR (aD (aC 0) (aD (aC 1) (aD (aC 2) (aN)))))) (aU (aMw 4 (eC (.int 7)) (aIu (aD (eC (.int 7)) (aN)) (aC 2))) (aU (pN (tgN 5) (aHi (e2 fJ (aC 1) (eC (.int 1)))) (oE)) (aU (sFz [4] (cO 6 (e1 aAq (aP gY (aD (aC 4) (aD (aC 0) (aD (e1 aAq (aC 4)) (aN)))))))) (cO 7 (dX [5] (tgN 5) (itE (aC 6)) gW (oF))))))
def aJ8(f:String)(t b k:Nat):R (List D):=(aPa [some (.v (.int t)),some (.v (.int b)),some (.v (.int k)),some (.v (.fn f)),none,none,none,none,none,none]).bind fun fl=>match fl with
 | .nx st=>moA st
 | _ => .bad
end
theorem aCe(a b c:Bd):aU (aU a b) c=aU a (aU b c):=by
 funext st
 show aG2 (aG2 (a st) b) c=aG2 (a st) (aU b c)
 cases a st with
 | ok fl=>cases fl<;>rfl
 | exc x=>rfl
 | bad=>rfl
theorem bD6{f:String}{t b k c:Nat}   (h:aJ8 f t b k = .ok [.lst (stD S),.lst (nats rk)]) (M:Mch S rk c):oH [.int t,.int b,.int k,.fn f] = .ok (mD S rk c):=by
 obtain ⟨fl,h1,h2⟩:=R.ok_of h
 have e:yF=aU aPa (cL (aP fX moA)):=by
  unfold aPa
  rw [aCe,aCe,aCe,aCe]
  rfl
 cases fl with
 | nx st =>
  refine fY rfl ?_
  rw [e]
  refine bJ h1 ?_
  exact wG (cX h2 (bAk M))
 | rt d=>cases h2
 | bk st=>cases h2
 | ct st=>cases h2
def nxF(up:Bool)(b k t d:Nat):Nat:=if t=7 then 7 else
 if up then (if (k * t:Int) - d * b < 0 then 7 else (min ((k * t:Int) - d * b) b).toNat)
 else (if (k * t:Int) - d * b > b then 7 else (max ((k * t:Int) - d * b) 0).toNat)
def dY(up:Bool)(t b k:Nat):List Nat:=(List.range 8).foldl (fun met p=>match met[p]? with
 | none=>met
 | some h=>(List.range k).foldl (fun m d=>if m.contains (nxF up b k h d) then m else m++[nxF up b k h d]) met) [t]
def stF(up:Bool)(t b k:Nat):List (List Nat):=(dY up t b k).map fun h=>(List.range k).map fun d=>(dY up t b k).idxOf (nxF up b k h d)
def rkF(up:Bool)(t b k:Nat):List Nat:=(dY up t b k).map fun h=>if h=7 then 1 else 0
def aXl:List D->R (List (List Int))
 | [] => .ok []
 | .lst x :: r=>(zY x).bind fun l=>(aXl r).bind fun ls => .ok (l :: ls)
 | _ :: _ => .bad
theorem aPb:∀ {x:List D} {l:List (List Int)},aXl x = .ok l->x=l.map fun r=>D.lst (r.map D.int)
 | [],l,h=>by cases h;rfl
 | d :: x,l,h=>by
  cases d<;>first | (cases h;done) | skip
  obtain ⟨r,h1,h2⟩:=R.ok_of h
  obtain ⟨ls,h3,h4⟩:=R.ok_of h2
  cases h4
  rw [aPb h3,wV h1];rfl
def chk(r:R (List D))(S:List (List Nat))(rk:List Nat):Bool:=match r with
 | .ok [.lst x,.lst y]=>(match aXl x,zY y with
  | .ok a,.ok b=>decide (a=S.map fun r=>r.map fun (n:Nat)=>(n:Int))&&decide (b=rk.map fun (n:Nat)=>(n:Int))
  | _,_=>false)
 | _=>false
theorem aXm{r:R (List D)}   (h:chk r S rk=true):r = .ok [.lst (stD S),.lst (nats rk)]:=by
 unfold chk at h
 split at h
 ·rename_i x y
  split at h
  ·rename_i a b ha hb
   rw [and_eq_true] at h
   have h1:=of_decide_eq_true h.1
   have h2:=of_decide_eq_true h.2
   have e1:=aPb ha
   have e2:=wV hb
   rw [h1] at e1
   rw [h2] at e2
   rw [e1,e2]
   simp [stD,nats,List.map_map,Function.comp_def]
  ·cases h
 ·cases h
def bFh(S:List (List Nat))(rk:List Nat)(c:Nat):Bool:=decide (1<=S.length/\S.length<=8/\(∀ r∈S,r.length=c/\∀ x∈r,x < S.length)/\rk.length=S.length)
theorem aSz{c:Nat}(h:bFh S rk c=true)(h1:1<=c)(h3:c<=3):Mch S rk c:=by
 obtain ⟨a,b,d,e⟩:=of_decide_eq_true h
 exact ⟨a,b,h1,h3,d,e⟩
def aGa:List (Nat × Nat × Nat):=[1,2,3,4,5,6].flatMap fun b=>(List.range (b+1)).flatMap fun t=>[(t,b,2),(t,b,3)]
theorem upT:aGa.all (fun x=>chk (aJ8 "room_up_to" x.1 x.2.1 x.2.2) (stF true x.1 x.2.1 x.2.2) (rkF true x.1 x.2.1 x.2.2)&&bFh (stF true x.1 x.2.1 x.2.2) (rkF true x.1 x.2.1 x.2.2) x.2.2)=true:=by
 delta aJ8 aPa moA dR iK lG nY oE uB jX oA nZ tE gY rF qJ qK qI oF oG uC eO nG fV nF
 simp only [aSl,yQ,aF3,aHz,aN3,aN4,aN6,aCc,aN7,aI0,aI1,aF4,aI2,aI3,aF5,aCd,aLl,aLm,aOw,aF6,aI4]
 decide +kernel
theorem bD7:aGa.all (fun x=>chk (aJ8 "room_from_on" x.1 x.2.1 x.2.2) (stF false x.1 x.2.1 x.2.2) (rkF false x.1 x.2.1 x.2.2)&&bFh (stF false x.1 x.2.1 x.2.2) (rkF false x.1 x.2.1 x.2.2) x.2.2)=true:=by
 delta aJ8 aPa moA dR iK lG nY oE uB jX oA nZ tE gY rF qJ qK qI oF oG uC eO nG fV nF
 simp only [aSl,yQ,aF3,aHz,aN3,aN4,aN6,aCc,aN7,aI0,aI1,aF4,aI2,aI3,aF5,aCd,aLl,aLm,aOw,aF6,aI4]
 decide +kernel
theorem uM{t b k:Nat}(h1:1<=b)(h6:b<=6)(ht:t<=b)(hk:k=2\/k=3):(t,b,k)∈aGa:=by
 unfold aGa
 refine List.mem_flatMap.mpr ⟨b,?_,List.mem_flatMap.mpr ⟨t,List.mem_range.mpr (by omega),?_⟩⟩
 ·have:b=1\/b=2\/b=3\/b=4\/b=5\/b=6:=by omega
  rcases this with h | h | h | h | h | h<;>simp [h]
 ·rcases hk with h | h<;>simp [h]
section
variable{t b k:Nat}(h1:1<=b)(h6:b<=6)(ht:t<=b)(hk:k=2\/k=3)
include h1 h6 ht hk
theorem aUy(up:Bool):Mch (stF up t b k) (rkF up t b k) k:=by
 have m:=uM h1 h6 ht hk
 cases up with
 | true=>exact aSz (Bool.and_eq_true_iff.mp (List.all_eq_true.mp upT _ m)).2 (by omega) (by omega)
 | false=>exact aSz (Bool.and_eq_true_iff.mp (List.all_eq_true.mp bD7 _ m)).2 (by omega) (by omega)
theorem upF:aHx [.int t,.int b,.int k] = .ok (mD (stF true t b k) (rkF true t b k) k):=by
 have m:=uM h1 h6 ht hk
 have e:=bD6 (aXm (Bool.and_eq_true_iff.mp (List.all_eq_true.mp upT _ m)).1) (aUy h1 h6 ht hk true)
 refine fY rfl (wG ?_)
 exact e
theorem bJl:aC7 [.int t,.int b,.int k] = .ok (mD (stF false t b k) (rkF false t b k) k):=by
 have m:=uM h1 h6 ht hk
 have e:=bD6 (aXm (Bool.and_eq_true_iff.mp (List.all_eq_true.mp bD7 _ m)).1) (aUy h1 h6 ht hk false)
 refine fY rfl (wG ?_)
 exact e
end
end Pu
namespace Pu
theorem bAw{x y:List D}(h:x.length+y.length<=1000):fJ (.lst x) (.lst y) = .ok (.lst (x++y)):=aW (gG (Nat.le_trans h (by decide)))
theorem aF7{st:PSt}{a b:D}(h:r st = .ok [a,b]):aAp r st = .ok (.tup [a,b]):=by
 show (r st).bind _=_
 rw [h]
 exact aW (gG (show 2<=10000000 by decide))
theorem aLs{lo hi:ExO}{st:PSt}{w:List Nat}{l h:Option Int}(hf:f st = .ok (.str w))(hl:lo st = .ok l)(hh:hi st = .ok h)(hw:w.length<=1000000):eSl f lo hi st = .ok (.str (cut w l h)):=by
 show (f st).bind _=_
 rw [hf]
 show (lo st).bind _=_
 rw [hl]
 show (hi st).bind _=_
 rw [hh]
 exact aW (gG (Nat.le_trans hw (by decide)))
theorem add_str{x:List Nat}(h:x.length+y.length<=1000000):fJ (.str x) (.str y) = .ok (.str (x++y)):=aW (gG (Nat.le_trans h (by decide)))
theorem bFi(h:j < 3):dIx (.str [97,98,99]) (.int j) = .ok (.str [97+j]):=by
 have:j=0\/j=1\/j=2:=by omega
 rcases this with rfl | rfl | rfl<;>exact aW (gG (show 3<=10000000 by decide))
theorem aJ9{k:Nat}{tg:Tg}{C f:Ex}{st:PSt}:∀ ds:List D,(∀ d∈ds,∃ s1 c,tg d st = .ok s1/\C s1 = .ok (.bl true)/\f s1 = .ok (.str [c])/\97<=c/\c < 97+k)->∃ l:List Nat,uT tg C f st ds = .ok (l.map fun c=>D.str [c])/\l.length=ds.length/\Ltr (k:Int) l
 | [],_=>⟨[],rfl,rfl,fun _ h=>nomatch h⟩
 | d :: ds,h=>by
  obtain ⟨s1,c,e1',e2',e3,h1,h2⟩:=h d mem_cons_self
  obtain ⟨l,e,hl,ht⟩:=aJ9 (k:=k) ds fun d hd=>h d (mem_cons_of_mem _ hd)
  refine ⟨c :: l,?_,by simp [hl],fun z hz=>?_⟩
  ·rw [aIr,e1',bQ,e2',bQ,aDn,if_pos rfl,e3,bQ,e]
   rfl
  ·rcases List.mem_cons.mp hz with rfl | hz
   ·exact ⟨h1,by omega⟩
   ·exact ht z hz
theorem aXn{i:Int}{k:Nat}(h0:0<=i)(h:i < k)(hk3:k<=3):dIx (.str [97,98,99]) (.int i) = .ok (.str [97+i.toNat]):=by
 have:=bFi (j:=i.toNat) (by omega)
 rwa [toNat_of_nonneg h0] at this
theorem aPc{st:PSt}{l:List Nat}(h:f st = .ok (.lst (l.map fun c=>D.str [c])))(hl:l.length<=1000000):eMt aGu (eC (.str [])) (aD f aN) st = .ok (.str l):=bD5 rfl (bK h rfl) (bAl l hl)
theorem aT0{k:Nat}(hk:2<=k)(hk3:k<=3)(c j:Int)  (hn:n<=1000):∃ w:List Nat,rJ [.int c,.int j,.int n,.int k] = .ok (.str w)/\w.length=n/\Ltr (k:Int) w:=by
 obtain ⟨l,e,hl,ht⟩:=aJ9 (k:=k) (tg:=tgN 4) (C:=gW) (f:=aCx) (st:=[some (.v (.int c)),some (.v (.int j)),some (.v (.int n)),some (.v (.int k)),none]) ((List.range n).map fun (i:Nat)=>D.int (i:Int)) (fun d hd=>by
  obtain ⟨i,_,rfl⟩:=List.mem_map.mp hd
  obtain ⟨p,hp,p0,p1⟩:=aP6 c (j+i) k (by omega)
  exact ⟨_,97+p.toNat,rfl,rfl,aR rfl (cX (bK rfl (bK (aR rfl rfl rfl) (bK rfl rfl))) hp) (aXn p0 p1 hk3),by omega,by omega⟩)
 rw [length_map,length_range] at hl
 exact ⟨l,fY rfl (wG (aPc (aMz (aSg rfl (by omega)) (by simp;omega) e) (by omega))),hl,ht⟩
theorem bJm{k:Nat}(hk:2<=k)(hk3:k<=3)(l:D):∀ (n:Nat) (c:Int) (xs:List Int) (s:Option Sl),(∀ i∈xs,0<=i/\i < k)->xs.length+n < 1000->∃ (c':Int) (ys:List Int) (s':Option Sl),forR (tgN 3) rY (List.replicate n (.int k)) [some (.v (.int c)),some (.v l),some (.o .l (xs.map D.int)),s] = .ok (.nx [some (.v (.int c')),some (.v l),some (.o .l (ys.map D.int)),s'])/\ys.length=xs.length+n/\∀ i∈ys,0<=i/\i < k
 | 0,c,xs,s,h,_=>⟨c,xs,s,rfl,rfl,h⟩
 | n+1,c,xs,s,h,hl=>by
  have a0:0<=c % (k:Int):=emod_nonneg _ (by omega)
  have a1:c % (k:Int) < k:=emod_lt_of_pos _ (by omega)
  obtain ⟨c',ys,s',e,hy,hi⟩:=bJm hk hk3 l n (c / k) (xs++[c % k]) (some (.v (.int k))) (fun i hi=>by
   rcases List.mem_append.mp hi with hi | hi
   ·exact h i hi
   ·rw [List.mem_singleton.mp hi];exact ⟨a0,a1⟩) (by simp;omega)
  refine ⟨c',ys,s',?_,by rw [hy];simp;omega,hi⟩
  rw [List.replicate_succ]
  refine pY rfl (aUx (x:=none) (by omega) (by omega) (by simp;omega)) ?_
  rw [List.map_append] at e
  exact e
theorem bFj(w:List Nat)(n:Nat)(h:n<=w.length):cut w none (some (n:Int))=w.take n:=by
 have e:sIx w.length w.length (some (n:Int))=n:=by
  show (if (n:Int) < 0 then ((n:Int)+(w.length:Int)).toNat else min (n:Int).toNat w.length)=n
  rw [if_neg (by omega)]
  omega
 unfold cut
 rw [e]
 show (w.drop 0).take (n - 0)=_
 rw [drop_zero,Nat.sub_zero]
theorem aXo(w:List Nat)(n:Nat)(h:n<=w.length):cut w (some (n:Int)) none=w.drop n:=by
 have e:sIx w.length 0 (some (n:Int))=n:=by
  show (if (n:Int) < 0 then ((n:Int)+(w.length:Int)).toNat else min (n:Int).toNat w.length)=n
  rw [if_neg (by omega)]
  omega
 unfold cut
 rw [e]
 exact take_of_length_le (by rw [length_drop];exact Nat.le_refl _)
theorem aT1{m:Int}{w:List Nat}(h:Ltr m w)(n:Nat):Ltr m (rep n w):=fun c hc=>by
 unfold rep at hc
 obtain ⟨l,h1,h2⟩:=List.mem_flatten.mp hc
 rw [(List.mem_replicate.mp h1).2] at h2
 exact h c h2
theorem aPd(n:Nat)(w:List α):(rep n w).length=n * w.length:=by
 unfold rep
 induction n with
 | zero=>simp
 | succ n ih=>rw [List.replicate_succ,flatten_cons,length_append,ih,succ_mul,Nat.add_comm]
end Pu
namespace Pu
def nmF(k:Nat)(f:Nat->Nat):Nat->Nat
 | 0=>0
 | n+1=>nmF k f n * k+(f n - 97)
section
variable{k:Nat}{f:Nat->Nat}
theorem aT2(hk:1<=k)(n:Nat):∀ l,nmF k f n * k ^ l<=nmF k f (n+l)
 | 0=>by simp
 | l+1=>by
  have:=aT2 hk n l
  show _<=nmF k f (n+l) * k+(f (n+l) - 97)
  rw [Nat.pow_succ,<-Nat.mul_assoc]
  have:=Nat.mul_le_mul_right k this
  omega
theorem aT3(hf:∀ n,f n - 97 < k)(n:Nat):∀ l,nmF k f (n+l)+1<=(nmF k f n+1) * k ^ l
 | 0=>by simp
 | l+1=>by
  have h:=aT3 hf n l
  show nmF k f (n+l) * k+(f (n+l) - 97)+1<=_
  rw [Nat.pow_succ,<-Nat.mul_assoc]
  have h:=Nat.mul_le_mul_right k h
  rw [Nat.add_mul,Nat.one_mul] at h
  have:=hf (n+l)
  omega
theorem aPe(a:Nat):∀ l,nmF k f (a+l)=nmF k f a * k ^ l+nmF k (fun i=>f (a+i)) l
 | 0=>by simp [nmF]
 | l+1=>by
  show nmF k f (a+l) * k+(f (a+l) - 97)=_+(nmF k (fun i=>f (a+i)) l * k+(f (a+l) - 97))
  rw [aPe a l,Nat.pow_succ,<-Nat.mul_assoc,Nat.add_mul]
  omega
theorem aF8{g:Nat->Nat}:∀ l,(∀ i,i < l->f i=g i)->nmF k f l=nmF k g l
 | 0,_=>rfl
 | l+1,h=>by
  show nmF k f l * k+(f l - 97)=nmF k g l * k+(g l - 97)
  rw [aF8 l fun i hi=>h i (by omega),h l (by omega)]
theorem aXp(w:List Nat):nmF k (fun i=>w.getD i 0) w.length=sU k w:=by
 refine snoc_ind (P:=fun w=>nmF k (fun i=>w.getD i 0) w.length=sU k w) rfl (fun v c ih=>?_) w
 rw [aJ7,length_append]
 show nmF k _ v.length * k+((v++[c]).getD v.length 0 - 97)=_
 rw [<-ih]
 congr 1
 ·congr 1
  refine aF8 _ fun i hi=>?_
  simp [getD_eq_getElem?_getD,List.getElem?_append_left hi]
 ·simp [getD_eq_getElem?_getD]
end
theorem ar1{N m A T:Nat}(h:N * q+m=A * T):(N * (q+1)+m) * q+m=A * (q+1) * T:=by
 have:(q+1) * (N * q+m)=(q+1) * (A * T):=by rw [h]
 grind
theorem ar2{N1 N2 L b A T B t K:Nat}(h1:N1 * L<=N2)(h4:N2 * q<=A * T)(h:T * b<=t * B)(e:K * L * q=A * B):N1 * b * (L * q)<=K * t * (L * q) :=
 calc N1 * b * (L * q)=N1 * L * (b * q):=by ac_rfl
  _<=N2 * (b * q):=Nat.mul_le_mul_right _ h1
  _=N2 * q * b:=by ac_rfl
  _<=A * T * b:=Nat.mul_le_mul_right _ h4
  _=A * (T * b):=by ac_rfl
  _<=A * (t * B):=Nat.mul_le_mul_left _ h
  _=t * (A * B):=by ac_rfl
  _=t * (K * L * q):=by rw [e]
  _=K * t * (L * q):=by ac_rfl
theorem ar3{N1 N2 L b A T B t K:Nat}(h1:N2+1<=(N1+1) * L)(h4:A * T<=(N2+1) * q)(h:t * B<=T * b)(e:K * L * q=A * B):K * t * (L * q)<=(N1+1) * b * (L * q) :=
 calc K * t * (L * q)=t * (K * L * q):=by ac_rfl
  _=t * (A * B):=by rw [e]
  _=A * (t * B):=by ac_rfl
  _<=A * (T * b):=Nat.mul_le_mul_left _ h
  _=A * T * b:=by ac_rfl
  _<=(N2+1) * q * b:=Nat.mul_le_mul_right _ h4
  _=(N2+1) * (b * q):=by ac_rfl
  _<=(N1+1) * L * (b * q):=Nat.mul_le_mul_right _ h1
  _=(N1+1) * b * (L * q):=by ac_rfl
section
variable{k:Nat}{x:List Nat}
theorem aT4(y1:1<=y.length):∀ j,nmF k (lt x y) (x.length+j * y.length) * (k ^ y.length - 1)+sU k y * 1=(k ^ y.length) ^ j * rK k x y+0 * j\/k=0
 | 0=>by
  refine .inl ?_
  have e:nmF k (lt x y) x.length=sU k x:=by
   rw [<-aXp x]
   exact aF8 _ fun i hi=>by rw [aX7 hi,Nat.zero_add]
  rw [Nat.zero_mul,Nat.add_zero,e]
  unfold rK
  simp
 | j+1=>by
  by_cases hk:k=0
  ·exact .inr hk
  refine .inl ?_
  have ih:=(aT4 y1 j).resolve_right hk
  have e:nmF k (lt x y) (x.length+(j+1) * y.length)=nmF k (lt x y) (x.length+j * y.length) * k ^ y.length+sU k y:=by
   have:x.length+(j+1) * y.length=x.length+j * y.length+y.length:=by rw [Nat.add_mul];omega
   rw [this,aPe,<-aXp y]
   congr 1
   exact aF8 _ fun i hi=>by rw [aX8 j hi]
  rw [e]
  obtain ⟨q,hq⟩:∃ q,k ^ y.length=q+1:=⟨k ^ y.length - 1,by have:0 < k ^ y.length:=Nat.pow_pos (by omega);omega⟩
  rw [hq,Nat.add_sub_cancel] at ih ⊢
  rw [Nat.pow_succ]
  generalize nmF k (lt x y) (x.length+j * y.length)=N at ih ⊢
  generalize (q+1) ^ j=A at ih ⊢
  generalize rK k x y=T at ih ⊢
  generalize sU k y=m at ih ⊢
  have:=ar1 (N:=N) (q:=q) (m:=m) (A:=A) (T:=T) (by omega)
  omega
theorem aN8(hk:2<=k)(y1:1<=y.length)(j:Nat):nmF k (lt x y) (x.length+j * y.length) * (k ^ y.length - 1)+sU k y=(k ^ y.length) ^ j * rK k x y:=by
 have:=(aT4 (k:=k) (x:=x) y1 j).resolve_right (by omega)
 omega
theorem aI5(j:Nat):k ^ (x.length+j * y.length) * (k ^ y.length - 1)=(k ^ y.length) ^ j * yR k x y:=by
 unfold yR
 rw [Nat.pow_add,Nat.mul_comm j,Nat.pow_mul]
 grind
end
section
variable{k t b:Nat}{x y:List Nat}(hk:2<=k)(hy:1<=y.length)(hf:∀ n,lt x y n - 97 < k)(hn:sU k y < k ^ y.length)(hb:b<=6)
include hk hy
theorem aT5(h:∀ j,(k ^ y.length) ^ j<=6 * k ^ y.length):False:=by
 have h2:2<=k ^ y.length:=Nat.le_trans hk (Nat.le_self_pow (by omega) k)
 generalize k ^ y.length=Q at h h2
 have h4:=h 4
 have e:Q ^ 4=Q * Q * Q * Q:=by grind
 have a1:2 * 2<=Q * Q:=Nat.mul_le_mul h2 h2
 have a2:4 * 2<=Q * Q * Q:=Nat.mul_le_mul a1 h2
 have a3:8 * Q<=Q * Q * Q * Q:=Nat.mul_le_mul_right Q a2
 omega
theorem bD8:0 < k ^ y.length - 1:=by
 have h2:2<=k ^ y.length:=Nat.le_trans hk (Nat.le_self_pow (by omega) k)
 omega
include hf hn hb
theorem aUz:(∀ n,nmF k (lt x y) n * b<=k ^ n * t) ↔ rK k x y * b<=t * yR k x y:=by
 constructor
 ·intro h
  refine Classical.byContradiction fun c=>aT5 hk hy fun j=>?_
  have h1:=Nat.mul_le_mul_right (k ^ y.length - 1) (h (x.length+j * y.length))
  have e1:=aN8 (x:=x) hk hy j
  have e2:=aI5 (k:=k) (x:=x) (y:=y) j
  have h2:nmF k (lt x y) (x.length+j * y.length) * b * (k ^ y.length - 1)=(nmF k (lt x y) (x.length+j * y.length) * (k ^ y.length - 1)) * b:=by grind
  have h3:k ^ (x.length+j * y.length) * t * (k ^ y.length - 1)=(k ^ (x.length+j * y.length) * (k ^ y.length - 1)) * t:=by grind
  rw [h2,h3,e2] at h1
  generalize nmF k (lt x y) (x.length+j * y.length) * (k ^ y.length - 1)=N at e1 h1
  have h4:(N+sU k y) * b=(k ^ y.length) ^ j * rK k x y * b:=by rw [e1]
  have h5:(k ^ y.length) ^ j * (rK k x y * b)<=(k ^ y.length) ^ j * (t * yR k x y)+sU k y * b:=by grind
  have h6:t * yR k x y+1<=rK k x y * b:=by omega
  have h7:=Nat.mul_le_mul_left ((k ^ y.length) ^ j) h6
  rw [Nat.mul_add,Nat.mul_one] at h7
  have h8:sU k y * b<=k ^ y.length * 6:=Nat.mul_le_mul (by omega) hb
  omega
 ·intro h n
  have hl:n<=x.length+n * y.length:=Nat.le_trans (Nat.le_mul_of_pos_right n hy) (Nat.le_add_left _ _)
  obtain ⟨l,hl⟩:=Nat.exists_eq_add_of_le hl
  have e1:=aN8 (x:=x) hk hy n
  have e2:=aI5 (k:=k) (x:=x) (y:=y) n
  have h1:=aT2 (f:=lt x y) (show 1<=k by omega) n l
  rw [hl] at e1 e2
  have q0:=bD8 hk hy
  generalize k ^ y.length - 1=q at e1 e2 q0
  rw [Nat.pow_add] at e2
  have h7:=ar2 h1 (show nmF k (lt x y) (n+l) * q<=(k ^ y.length) ^ n * rK k x y by omega) h e2
  exact Nat.le_of_mul_le_mul_right h7 (Nat.mul_pos (Nat.pow_pos (by omega)) q0)
theorem aV0:(∀ n,k ^ n * t<=(nmF k (lt x y) n+1) * b) ↔ t * yR k x y<=rK k x y * b:=by
 constructor
 ·intro h
  refine Classical.byContradiction fun c=>aT5 hk hy fun j=>?_
  have h1:=Nat.mul_le_mul_right (k ^ y.length - 1) (h (x.length+j * y.length))
  have e1:=aN8 (x:=x) hk hy j
  have e2:=aI5 (k:=k) (x:=x) (y:=y) j
  have h2:(nmF k (lt x y) (x.length+j * y.length)+1) * b * (k ^ y.length - 1)=(nmF k (lt x y) (x.length+j * y.length) * (k ^ y.length - 1)) * b+(k ^ y.length - 1) * b:=by grind
  have h3:k ^ (x.length+j * y.length) * t * (k ^ y.length - 1)=(k ^ (x.length+j * y.length) * (k ^ y.length - 1)) * t:=by grind
  rw [h2,h3,e2] at h1
  generalize nmF k (lt x y) (x.length+j * y.length) * (k ^ y.length - 1)=N at e1 h1
  have h4:(N+sU k y) * b=(k ^ y.length) ^ j * rK k x y * b:=by rw [e1]
  have h5:(k ^ y.length) ^ j * (t * yR k x y)<=(k ^ y.length) ^ j * (rK k x y * b)+(k ^ y.length - 1) * b:=by
   have:N * b<=(k ^ y.length) ^ j * rK k x y * b:=by rw [<-h4];exact Nat.mul_le_mul_right b (by omega)
   grind
  have h6:rK k x y * b+1<=t * yR k x y:=by omega
  have h7:=Nat.mul_le_mul_left ((k ^ y.length) ^ j) h6
  rw [Nat.mul_add,Nat.mul_one] at h7
  have h8:(k ^ y.length - 1) * b<=k ^ y.length * 6:=Nat.mul_le_mul (by omega) hb
  omega
 ·intro h n
  have hl:n<=x.length+n * y.length:=Nat.le_trans (Nat.le_mul_of_pos_right n hy) (Nat.le_add_left _ _)
  obtain ⟨l,hl⟩:=Nat.exists_eq_add_of_le hl
  have e1:=aN8 (x:=x) hk hy n
  have e2:=aI5 (k:=k) (x:=x) (y:=y) n
  have h1:=aT3 (f:=lt x y) hf n l
  rw [hl] at e1 e2
  have q0:=bD8 hk hy
  have hq:sU k y<=k ^ y.length - 1:=by omega
  generalize k ^ y.length - 1=q at e1 e2 q0 hq
  rw [Nat.pow_add] at e2
  have h7:=ar3 h1 (show (k ^ y.length) ^ n * rK k x y<=(nmF k (lt x y) (n+l)+1) * q by rw [Nat.add_mul];omega) h e2
  exact Nat.le_of_mul_le_mul_right h7 (Nat.mul_pos (Nat.pow_pos (by omega)) q0)
end
end Pu
namespace Pu
def bJn(up:Bool)(t b k:Nat):Bool:=decide ((dY up t b k).getD 0 9=t/\(stF up t b k).length=(dY up t b k).length/\∀ i < (dY up t b k).length,(rkF up t b k).getD i 0=(if (dY up t b k).getD i 9=7 then 1 else 0)/\∀ d < k,(dY up t b k).getD (stp (stF up t b k) i d) 9=nxF up b k ((dY up t b k).getD i 9) d)
theorem bMa:aGa.all (fun x=>bJn true x.1 x.2.1 x.2.2&&bJn false x.1 x.2.1 x.2.2)=true:=by decide +kernel
section
variable{t b k:Nat}(h1:1<=b)(h6:b<=6)(ht:t<=b)(hk:k=2\/k=3)
include h1 h6 ht hk
theorem bAx(up:Bool):(dY up t b k).getD 0 9=t/\(stF up t b k).length=(dY up t b k).length/\∀ i < (dY up t b k).length,(rkF up t b k).getD i 0=(if (dY up t b k).getD i 9=7 then 1 else 0)/\∀ d < k,(dY up t b k).getD (stp (stF up t b k) i d) 9=nxF up b k ((dY up t b k).getD i 9) d:=by
 have z:=Bool.and_eq_true_iff.mp (List.all_eq_true.mp bMa _ (uM h1 h6 ht hk))
 cases up with
 | true=>exact of_decide_eq_true z.1
 | false=>exact of_decide_eq_true z.2
end
def rsF(k t b:Nat)(f:Nat->Nat)(n:Nat):Int:=k ^ n * t - nmF k f n * b
theorem aT6(k t b:Nat)(f:Nat->Nat):rsF k t b f 0=t:=by simp [rsF,nmF]
theorem aT7(k t b:Nat)(f:Nat->Nat)(n:Nat):rsF k t b f (n+1)=k * rsF k t b f n - ((f n - 97:Nat):Int) * b:=by
 show (k:Int) ^ (n+1) * t - ((nmF k f n * k+(f n - 97):Nat):Int) * b=_
 unfold rsF
 push_cast
 rw [Int.pow_succ]
 grind
section
variable{b k:Nat}(h1:1<=b)(h6:b<=6)
include h1 h6
theorem bJo{g d:Nat}{r r':Int}(hd:d < k)(hg:(g:Int)=min r b)(hr:0<=r)(e:r'=k * r - d * b):(nxF true b k g d=7/\r' < 0)\/(nxF true b k g d≠7/\(nxF true b k g d:Int)=min r' b/\0<=r'):=by
 have hb:(d:Int) * b+b<=k * b:=by
  have:=Int.mul_le_mul_of_nonneg_right (show (d:Int)+1<=k by omega) (show (0:Int)<=b by omega)
  rw [Int.add_mul,Int.one_mul] at this
  exact this
 unfold nxF
 rw [if_neg (by omega),if_pos rfl]
 by_cases hc:r<=b
 ·have:(g:Int)=r:=by omega
  rw [this,<-e]
  by_cases hn:r' < 0
  ·exact .inl ⟨if_pos hn,hn⟩
  ·rw [if_neg hn]
   refine .inr ⟨?_,?_,by omega⟩
   ·omega
   ·omega
 ·have:(g:Int)=b:=by omega
  rw [this]
  have hr':(k:Int) * b<=k * r:=Int.mul_le_mul_of_nonneg_left (by omega) (by omega)
  rw [if_neg (by omega)]
  refine .inr ⟨?_,?_,?_⟩ <;> omega
theorem bAy{g d:Nat}{r r':Int}(hd:d < k)(hg:(g:Int)=max r 0)(hr:r<=b)(e:r'=k * r - d * b):(nxF false b k g d=7/\b < r')\/(nxF false b k g d≠7/\(nxF false b k g d:Int)=max r' 0/\r'<=b):=by
 have hb:0<=(d:Int) * b:=Int.mul_nonneg (by omega) (by omega)
 unfold nxF
 rw [if_neg (by omega),if_neg (by decide)]
 by_cases hc:0<=r
 ·have:(g:Int)=r:=by omega
  rw [this,<-e]
  by_cases hn:r' > b
  ·exact .inl ⟨if_pos hn,hn⟩
  ·rw [if_neg hn]
   refine .inr ⟨?_,?_,by omega⟩
   ·omega
   ·omega
 ·have:(g:Int)=0:=by omega
  rw [this]
  have hr':(k:Int) * r<=0:=by
   have:=Int.mul_le_mul_of_nonneg_left (show r<=0 by omega) (show (0:Int)<=k by omega)
   rw [Int.mul_zero] at this
   exact this
  rw [Int.mul_zero,if_neg (by omega)]
  refine .inr ⟨?_,?_,?_⟩ <;> omega
end
section
variable{t b k:Nat}(h1:1<=b)(h6:b<=6)(ht:t<=b)(hk:k=2\/k=3){f:Nat->Nat}(hf:∀ n,97<=f n/\(f n:Int) < 97+k)
include h1 h6 ht hk hf
theorem aGb(up:Bool)(n:Nat):(dY up t b k).getD (fw (stF up t b k) f 0 (n+1)) 9=nxF up b k ((dY up t b k).getD (fw (stF up t b k) f 0 n) 9) (f n - 97):=by
 obtain ⟨a1,a2,a3⟩:=bAx h1 h6 ht hk up
 have M:=aUy h1 h6 ht hk up
 have hl:=aLj (q:=0) M hf (by have:=M.1;omega) n
 exact (a3 _ (by rw [<-a2];exact hl)).2 _ (by have:=hf n;omega)
theorem aT8(n:Nat):((dY true t b k).getD (fw (stF true t b k) f 0 n) 9=7/\∃ m,rsF k t b f m < 0)\/((dY true t b k).getD (fw (stF true t b k) f 0 n) 9≠7/\((dY true t b k).getD (fw (stF true t b k) f 0 n) 9:Int)=min (rsF k t b f n) b/\0<=rsF k t b f n):=by
 induction n with
 | zero =>
  have e:(dY true t b k).getD (fw (stF true t b k) f 0 0) 9=t:=(bAx h1 h6 ht hk true).1
  rw [e,aT6]
  exact .inr ⟨by omega,by omega,by omega⟩
 | succ n ih =>
  rw [aGb h1 h6 ht hk hf true n]
  rcases ih with ⟨e,m⟩ | ⟨e0,e,hr⟩
  ·rw [e];exact .inl ⟨rfl,m⟩
  ·rcases bJo h1 h6 (show f n - 97 < k by have:=hf n;omega) e hr (aT7 k t b f n) with ⟨z1,z2⟩ | z
   ·exact .inl ⟨z1,_,z2⟩
   ·exact .inr z
theorem aLt(n:Nat):((dY false t b k).getD (fw (stF false t b k) f 0 n) 9=7/\∃ m,(b:Int) < rsF k t b f m)\/((dY false t b k).getD (fw (stF false t b k) f 0 n) 9≠7/\((dY false t b k).getD (fw (stF false t b k) f 0 n) 9:Int)=max (rsF k t b f n) 0/\rsF k t b f n<=b):=by
 induction n with
 | zero =>
  have e:(dY false t b k).getD (fw (stF false t b k) f 0 0) 9=t:=(bAx h1 h6 ht hk false).1
  rw [e,aT6]
  exact .inr ⟨by omega,by omega,by omega⟩
 | succ n ih =>
  rw [aGb h1 h6 ht hk hf false n]
  rcases ih with ⟨e,m⟩ | ⟨e0,e,hr⟩
  ·rw [e];exact .inl ⟨rfl,m⟩
  ·rcases bAy h1 h6 (show f n - 97 < k by have:=hf n;omega) e hr (aT7 k t b f n) with ⟨z1,z2⟩ | z
   ·exact .inl ⟨z1,_,z2⟩
   ·exact .inr z
theorem aXq{up v:Bool}(E:Ev (stF up t b k) (rkF up t b k) f 0 v):v=true ↔ ∀ n,(dY up t b k).getD (fw (stF up t b k) f 0 n) 9≠7:=by
 obtain ⟨s,e,L,rfl⟩:=E
 obtain ⟨a1,a2,a3⟩:=bAx h1 h6 ht hk up
 have M:=aUy h1 h6 ht hk up
 have hlt:∀ n,fw (stF up t b k) f 0 n < (dY up t b k).length:=fun n=>by rw [<-a2];exact aLj (q:=0) M hf (by have:=M.1;omega) n
 have hrk:∀ n,(rkF up t b k).getD (fw (stF up t b k) f 0 n) 0=if (dY up t b k).getD (fw (stF up t b k) f 0 n) 9=7 then 1 else 0:=fun n=>(a3 _ (hlt n)).1
 have hne:(seg (stF up t b k) f 0 s e).map (fun r=>(((rkF up t b k).getD r 0:Nat):Int))≠[]:=fun z=>aX2 L.lt (List.map_eq_nil_iff.mp z)
 obtain ⟨m1,m2⟩:=bAm hne
 rw [decide_eq_true_eq]
 show aIs _ % 2=0 ↔ _
 constructor
 ·intro h n hn
  have stay:∀ l,(dY up t b k).getD (fw (stF up t b k) f 0 (n+l)) 9=7:=by
   intro l
   induction l with
   | zero=>exact hn
   | succ l ih=>rw [<-Nat.add_assoc,aGb h1 h6 ht hk hf up,ih];rfl
  obtain ⟨m,b1,b2,b3⟩:=L.into (n+s) (by omega)
  have z:=stay s
  rw [b3] at z
  have y:=m2 _ (List.mem_map.mpr ⟨_,aEz.mpr ⟨m,b1,b2,rfl⟩,rfl⟩)
  rw [hrk m,if_pos z] at y
  obtain ⟨r,hr,er⟩:=List.mem_map.mp m1
  obtain ⟨n',_,_,rfl⟩:=aEz.mp hr
  rw [hrk n'] at er
  split at er
  ·rw [<-er] at h;exact absurd h (by decide)
  ·rw [<-er] at y;exact absurd y (by decide)
 ·intro h
  obtain ⟨r,hr,er⟩:=List.mem_map.mp m1
  obtain ⟨n',_,_,rfl⟩:=aEz.mp hr
  rw [hrk n',if_neg (h n')] at er
  rw [<-er];rfl
end
section
variable{t b k:Nat}(h1:1<=b)(h6:b<=6)(ht:t<=b)(hk:k=2\/k=3){x y:List Nat}(lx:Ltr (k:Int) x)(ly:Ltr (k:Int) y)(y1:1<=y.length)
include h1 h6 ht hk lx ly y1
theorem bJp{v:Bool}(E:Ev (stF true t b k) (rkF true t b k) (lt x y) 0 v):v=decide (rK k x y * b<=t * yR k x y):=by
 have hf:=aN2 lx ly y1
 rw [Bool.eq_iff_iff,aXq h1 h6 ht hk hf E,decide_eq_true_eq,<-aUz (by omega) y1 (fun n=>by have:=hf n;omega) (aRc (by omega) y ly) h6]
 constructor
 ·intro h n
  rcases aT8 h1 h6 ht hk hf n with z | z
  ·exact absurd z.1 (h n)
  ·have:=z.2.2
   unfold rsF at this
   have e:((nmF k (lt x y) n * b:Nat):Int)<=((k ^ n * t:Nat):Int):=by push_cast;omega
   exact Int.ofNat_le.mp e
 ·intro h n hn
  rcases aT8 h1 h6 ht hk hf n with z | z
  ·obtain ⟨m,hm⟩:=z.2
   unfold rsF at hm
   have e:((nmF k (lt x y) m * b:Nat):Int)<=((k ^ m * t:Nat):Int):=Int.ofNat_le.mpr (h m)
   push_cast at e
   omega
  ·exact z.1 hn
theorem bAz{v:Bool}(E:Ev (stF false t b k) (rkF false t b k) (lt x y) 0 v):v=decide (t * yR k x y<=rK k x y * b):=by
 have hf:=aN2 lx ly y1
 rw [Bool.eq_iff_iff,aXq h1 h6 ht hk hf E,decide_eq_true_eq,<-aV0 (by omega) y1 (fun n=>by have:=hf n;omega) (aRc (by omega) y ly) h6]
 constructor
 ·intro h n
  rcases aLt h1 h6 ht hk hf n with z | z
  ·exact absurd z.1 (h n)
  ·have:=z.2.2
   unfold rsF at this
   have e:((k ^ n * t:Nat):Int)<=(((nmF k (lt x y) n+1) * b:Nat):Int):=by push_cast;rw [Int.add_mul];omega
   exact Int.ofNat_le.mp e
 ·intro h n hn
  rcases aLt h1 h6 ht hk hf n with z | z
  ·obtain ⟨m,hm⟩:=z.2
   unfold rsF at hm
   have e:((k ^ m * t:Nat):Int)<=(((nmF k (lt x y) m+1) * b:Nat):Int):=Int.ofNat_le.mpr (h m)
   push_cast at e
   rw [Int.add_mul] at e
   omega
  ·exact z.1 hn
theorem bB0(xl:x.length<=10000)(yl:y.length<=10000):cU [mD (stF true t b k) (rkF true t b k) k,.tup [.str x,.str y],.int 0] = .ok (.bl (decide (rK k x y * b<=t * yR k x y))):=by
 have M:=aUy h1 h6 ht hk true
 obtain ⟨v,E,e⟩:=aSk (q:=0) M (by have:=M.1;omega) lx ly y1 yl xl
 rw [<-bJp h1 h6 ht hk lx ly y1 E]
 exact e
theorem aV1(xl:x.length<=10000)(yl:y.length<=10000):cU [mD (stF false t b k) (rkF false t b k) k,.tup [.str x,.str y],.int 0] = .ok (.bl (decide (t * yR k x y<=rK k x y * b))):=by
 have M:=aUy h1 h6 ht hk false
 obtain ⟨v,E,e⟩:=aSk (q:=0) M (by have:=M.1;omega) lx ly y1 yl xl
 rw [<-bAz h1 h6 ht hk lx ly y1 E]
 exact e
end
def wD(w:List Nat × List Nat):D := .tup [.str w.1,.str w.2]
end Pu
namespace Pu
theorem aV2(h:j < 18446744073709551616):fD (.int i) (.int j) = .ok (.int ((i * j:Nat):Int)):=by
 rw [aP5 (.inr ⟨by omega,by omega⟩),Int.natCast_mul]
theorem bB1(h:i < 18446744073709551616):fD (.int i) (.int j) = .ok (.int ((i * j:Nat):Int)):=by
 rw [aP5 (.inl ⟨by omega,by omega⟩),Int.natCast_mul]
theorem aV3{k:Nat}(hk3:k<=3)(hn:n<=30):k ^ n < 18446744073709551616 :=
 Nat.lt_of_le_of_lt (Nat.le_trans (Nat.pow_le_pow_left hk3 n) (Nat.pow_le_pow_right (by decide) hn)) (by decide)
section
variable{k:Nat}(hk:2<=k)(hk3:k<=3)
include hk hk3
theorem aT9{w:List Nat}(h:Ltr (k:Int) w)(hl:w.length<=5500):mJ [.str w,.int k] = .ok (.int (sU k w)):=by
 obtain ⟨x',e⟩:=aP8 (L:=aA8) (k:=k) (s0:=some (.v (.str w))) (by omega) hk3 (fun n c hn h1 h2=>dN (aR (aR rfl rfl (aV2 (by omega))) (bD5 rfl rfl (show (ofO (gF [97,98,99] [c] 0)).bind (fun i=>R.ok (D.int i)) = .ok (.int (c - 97:Nat)) by rw [aXk h1 h2];rfl)) (aRd _ _))) w [] h (by simpa using hl) none
 exact fY rfl (bJ (dN rfl) (bJ (wH (bFg rfl (by omega)) e) rfl))
theorem aTa(hn:n<=5500):oR [.int k,.int n] = .ok (.int (k ^ n:Nat)):=by
 obtain ⟨x',e⟩:=aP9 (L:=aB8) (k:=k) (s1:=some (.v (.int n))) (by omega) hk3 (fun m d hm=>dN (aR rfl rfl (aV2 (by omega)))) ((List.range n).map fun (j:Nat)=>D.int (j:Int)) 0 (by simpa using hn) none
 have e2:k ^ (0+((List.range n).map fun (j:Nat)=>D.int (j:Int)).length)=k ^ n:=by simp
 rw [e2] at e
 exact fY rfl (bJ (dN rfl) (bJ (wH (aSg rfl (by omega)) e) rfl))
theorem bFk{x:List Nat}(hx:Ltr (k:Int) x)(hy:Ltr (k:Int) y)(y1:1<=y.length)(yl:y.length<=30)(xl:x.length<=60):tM [wD (x,y),.int k] = .ok (.tup [.int (rK k x y),.int (yR k x y)]):=by
 have e1':=aTa hk hk3 (n:=y.length) (by omega)
 have e2':=aTa hk hk3 (n:=x.length) (by omega)
 have n1:=aT9 hk hk3 hx (by omega)
 have n2:=aT9 hk hk3 hy (by omega)
 have p1:2<=k ^ y.length:=Nat.le_trans hk (Nat.le_self_pow (by omega) k)
 have ph:=aV3 (k:=k) (n:=y.length) hk3 yl
 refine fY rfl ?_
 refine bJ (dN (aR (cX (bK rfl (bK (len_str (aR rfl rfl rfl) (show y.length<=_ by omega)) rfl)) e1') rfl (bM9 (by omega)))) ?_
 refine bJ (dN (aR (aR (cX (bK (aR rfl rfl rfl) (bK rfl rfl)) n1) rfl (aV2 (by omega))) (cX (bK (aR rfl rfl rfl) (bK rfl rfl)) n2) (aRd _ _))) ?_
 refine wG ?_
 show (aD _ _ _).bind _=_
 rw [bK rfl (bK (aR (cX (bK rfl (bK (len_str (aR rfl rfl rfl) (show x.length<=_ by omega)) rfl)) e2') rfl (aV2 (by omega))) rfl)]
 exact aW (gG (show 2<=10000000 by decide))
end
def Gw(k:Nat)(w:List Nat × List Nat):Prop:=Ltr (k:Int) w.1/\Ltr (k:Int) w.2/\w.1.length<=60/\1<=w.2.length/\w.2.length<=30
theorem aF9(w:List Nat)(n:Nat):cut w none (some (n:Int))=w.take n:=by
 have e:sIx w.length w.length (some (n:Int))=min n w.length:=by
  show (if (n:Int) < 0 then ((n:Int)+(w.length:Int)).toNat else min (n:Int).toNat w.length)=_
  rw [if_neg (by omega),toNat_natCast]
 unfold cut
 rw [e]
 show (w.drop 0).take (min n w.length - 0)=_
 rw [drop_zero,Nat.sub_zero]
 rcases Nat.le_total n w.length with h | h
 ·rw [Nat.min_eq_left h]
 ·rw [Nat.min_eq_right h,take_of_length_le (Nat.le_refl _),take_of_length_le h]
theorem bJq(c:Int):∃ s0 s1:Nat,dM [.int c,.lst [.int 13,.int 8]] = .ok (.lst [.int s0,.int s1])/\s0 < 13/\s1 < 8:=by
 have a0:0<=c % 13:=emod_nonneg _ (by decide)
 have a1:c % 13 < 13:=emod_lt_of_pos _ (by decide)
 have b0:0<=c / 13 % 8:=emod_nonneg _ (by decide)
 have b1:c / 13 % 8 < 8:=emod_lt_of_pos _ (by decide)
 refine ⟨(c % 13).toNat,(c / 13 % 8).toNat,?_,by omega,by omega⟩
 rw [toNat_of_nonneg a0,toNat_of_nonneg b0]
 exact fY rfl (bJ (aEw (aBb rfl)) (bJ (wH (aH4 rfl) (pY rfl (aUx (x:=none) (by decide) (by decide) (of_decide_eq_true rfl)) (pY rfl (aUx (x:=none) (by decide) (by decide) (of_decide_eq_true rfl)) rfl))) rfl))
theorem aTb(c k:Int)(m:Nat)(h:0 < m):∃ i:Nat,cZ [.int c,.int k,.int m] = .ok (.int i)/\i < m:=by
 obtain ⟨i,e,h0,h1⟩:=aP6 c k m (by omega)
 refine ⟨i.toNat,?_,by omega⟩
 rw [toNat_of_nonneg h0]
 exact e
theorem aPf{w:List Nat}  (h:w.length * n<=1000000) (hn:n<=1000000):aR4 (.str w) (.int n) = .ok (.str (rep n w)):=by
 have e:(n:Int).toNat=n:=by omega
 have:aR4 (.str w) (.int n) = .ok (.str (rep (n:Int).toNat w)):=aW ⟨gG (by rw [e];omega),by omega,by omega⟩
 rw [this,e]
theorem aI6{m:Int}{x:List Nat}(hx:Ltr m x)(hy:Ltr m y):Ltr m (x++y):=fun c hc=>(List.mem_append.mp hc).elim (hx c) (hy c)
theorem aBc{m:Int}{x:List Nat}(hx:Ltr m x)(n:Nat):Ltr m (x.take n):=fun c hc=>hx c (List.mem_of_mem_take hc)
theorem aXr{m:Int}{x:List Nat}(hx:Ltr m x)(n:Nat):Ltr m (x.drop n):=fun c hc=>hx c (List.mem_of_mem_drop hc)
section
variable{k:Nat}(hk:2<=k)(hk3:k<=3){s0 s1 s2 s3:Option Sl}
theorem bFl{c:Int}{x u v:List Nat}{ws:List (List Nat × List Nat)}{a5 a9 a10 a11 a12:Option Sl}(lx:Ltr (k:Int) x)(ly:Ltr (k:Int) y)(xl:x.length<=8)(yl:y.length<=8)(lu:Ltr (k:Int) u)(lv:Ltr (k:Int) v)(ul:u.length<=13)(v1:1<=v.length)(vl:v.length<=8)(hw:∀ w∈ws,Gw k w)(wl:ws.length<=1000) :
  ∃ (ws':List (List Nat × List Nat)) (b11:Option Sl),uJ [s0,s1,s2,s3,some (.o .l (ws.map wD)),a5,some (.v (.int c)),some (.v (wD (u,v))),some (.v (wD (x,y))),a9,a10,a11,a12] = .ok (.nx [s0,s1,s2,s3,some (.o .l (ws'.map wD)),a5,some (.v (.int c)),some (.v (wD (u,v))),some (.v (wD (x,y))),a9,a10,b11,a12])/\(∀ w∈ws',Gw k w)/\ws'.length=ws.length+2:=by
 obtain ⟨p,hp,p1⟩:=aTb c 3 14 (by decide)
 obtain ⟨q,hq,q1⟩:=aTb c 4 14 (by decide)
 have rl:(rep 6 y).length<=48:=by rw [aPd];omega
 have ll:(x++rep 6 y).length<=56:=by rw [length_append];omega
 have lL:Ltr (k:Int) (x++rep 6 y):=aI6 lx (aT1 ly 6)
 have tl:∀ n,n < 14->((x++rep 6 y).take n).length<=13:=fun n hn=>by rw [length_take];omega
 have tp:=tl p p1
 have tq:=tl q q1
 have u1:(u.take 1).length<=1:=by rw [length_take];omega
 have v2:(v.take 1).length=1:=by rw [length_take];omega
 refine ⟨(ws++[((x++rep 6 y).take p++u,v)])++[((x++rep 6 y).take q++u.take 1,v.take 1)],some (.v (.str (x++rep 6 y))),?_,?_,by simp⟩
 ·refine bJ (dN (aR (aR rfl rfl rfl) (aR (aR rfl rfl rfl) rfl (aPf (n:=6) (by first | omega | (dsimp only;omega)) (by decide))) (add_str (by rw [length_append] at ll;first | omega | (dsimp only;omega))))) ?_
  have z1:aCs 4 (aAp (aD (e2 fJ (eSl (aC 11) (rD) (gU (aP cZ (aD (aC 6) (aD (eC (.int 3)) (aD (eC (.int 14)) (aN))))))) (e2 dIx (aC 7) (eC (.int 0)))) (aD (e2 dIx (aC 7) (eC (.int 1))) (aN)))) [s0,s1,s2,s3,some (.o .l (ws.map wD)),a5,some (.v (.int c)),some (.v (wD (u,v))),some (.v (wD (x,y))),a9,a10,some (.v (.str (x++rep 6 y))),a12] = .ok (.nx [s0,s1,s2,s3,some (.o .l ((ws++[((x++rep 6 y).take p++u,v)]).map wD)),a5,some (.v (.int c)),some (.v (wD (u,v))),some (.v (wD (x,y))),a9,a10,some (.v (.str (x++rep 6 y))),a12]):=by
   rw [List.map_append]
   exact aMy (aF7 (bK (aR ((aLs rfl rfl (show gU (aP cZ _) _ = .ok (some (p:Int)) by unfold gU;rw [cX rfl hp];rfl) (by first | omega | (dsimp only;omega))).trans (by rw [aF9])) (aR rfl rfl rfl) (add_str (by first | omega | (dsimp only;omega)))) (bK (aR rfl rfl rfl) rfl))) rfl (by rw [length_map];omega)
  refine bJ z1 ?_
  rw [List.map_append (f:=wD) (l₁:=ws++_)]
  exact aMy (aF7 (bK (aR ((aLs rfl rfl (show gU (aP cZ _) _ = .ok (some (q:Int)) by unfold gU;rw [cX rfl hq];rfl) (by first | omega | (dsimp only;omega))).trans (by rw [aF9])) ((aLs (aR rfl rfl rfl) rfl (show gU (eC (.int 1)) _ = .ok (some ((1:Nat):Int)) from rfl) (by first | omega | (dsimp only;omega))).trans (by rw [aF9])) (add_str (by first | omega | (dsimp only;omega)))) (bK ((aLs (aR rfl rfl rfl) rfl (show gU (eC (.int 1)) _ = .ok (some ((1:Nat):Int)) from rfl) (by first | omega | (dsimp only;omega))).trans (by rw [aF9])) rfl))) rfl (by rw [length_map,length_append];show ws.length+1 < _;omega)
 ·intro w hm
  rcases List.mem_append.mp hm with hm | hm
  ·rcases List.mem_append.mp hm with hm | hm
   ·exact hw w hm
   ·rw [List.mem_singleton.mp hm]
    exact ⟨aI6 (aBc lL p) lu,lv,by rw [length_append];omega,v1,by show v.length<=30;omega⟩
  ·rw [List.mem_singleton.mp hm]
   exact ⟨aI6 (aBc lL q) (aBc lu 1),aBc lv 1,by rw [length_append];omega,by show 1<=(v.take 1).length;omega,by show (v.take 1).length<=30;omega⟩
theorem aH6{c:Int}{u v:List Nat}{a5 a9 a10 a12:Option Sl}(lu:Ltr (k:Int) u)(lv:Ltr (k:Int) v)(ul:u.length<=13)(v1:1<=v.length)(vl:v.length<=8) :
  ∀ (rs ws:List (List Nat × List Nat)) (a8 a11:Option Sl),(∀ w∈rs,Ltr (k:Int) w.1/\Ltr (k:Int) w.2/\w.1.length<=8/\w.2.length<=8)->(∀ w∈ws,Gw k w)->ws.length+2 * rs.length<=1000 ->
   ∃ (ws':List (List Nat × List Nat)) (b8 b11:Option Sl),forR (tgN 8) uJ (rs.map wD) [s0,s1,s2,s3,some (.o .l (ws.map wD)),a5,some (.v (.int c)),some (.v (wD (u,v))),a8,a9,a10,a11,a12] = .ok (.nx [s0,s1,s2,s3,some (.o .l (ws'.map wD)),a5,some (.v (.int c)),some (.v (wD (u,v))),b8,a9,a10,b11,a12])/\(∀ w∈ws',Gw k w)/\ws'.length=ws.length+2 * rs.length
 | [],ws,a8,a11,_,hw,_=>⟨ws,a8,a11,rfl,hw,rfl⟩
 | r :: rs,ws,a8,a11,hr,hw,hl=>by
  rw [length_cons] at hl
  obtain ⟨r1,r2,r3,r4⟩:=hr r mem_cons_self
  obtain ⟨w1,b11,e1',g1,l1⟩:=bFl (s0:=s0) (s1:=s1) (s2:=s2) (s3:=s3) (c:=c) (a5:=a5) (a9:=a9) (a10:=a10) (a11:=a11) (a12:=a12) r1 r2 r3 r4 lu lv ul v1 vl hw (by omega)
  obtain ⟨w2,b8,c11,e2',g2,l2⟩:=aH6 lu lv ul v1 vl rs w1 (some (.v (wD r))) b11 (fun w h=>hr w (mem_cons_of_mem _ h)) g1 (by omega)
  exact ⟨w2,b8,c11,pY rfl e1' e2',g2,by rw [l2,l1,length_cons];omega⟩
include hk hk3
theorem bFm{s:Nat}(hs:s+j<=100000){rs ws:List (List Nat × List Nat)}{a6 a7 a8 a9 a10 a11 a12:Option Sl}(hr:∀ w∈rs,Ltr (k:Int) w.1/\Ltr (k:Int) w.2/\w.1.length<=8/\w.2.length<=8)(hw:∀ w∈ws,Gw k w)(hl:ws.length+2 * rs.length+1<=1000) :
  ∃ (ws':List (List Nat × List Nat)) (b6 b7 b8 b9 b10 b11 b12:Option Sl),uK [some (.v (.lst (ns.map D.int))),some (.v (.int s)),some (.v (.lst (rs.map wD))),some (.v (.int k)),some (.o .l (ws.map wD)),some (.v (.int j)),a6,a7,a8,a9,a10,a11,a12] = .ok (.nx [some (.v (.lst (ns.map D.int))),some (.v (.int s)),some (.v (.lst (rs.map wD))),some (.v (.int k)),some (.o .l (ws'.map wD)),some (.v (.int j)),b6,b7,b8,b9,b10,b11,b12])/\(∀ w∈ws',Gw k w)/\ws'.length=ws.length+2 * rs.length+1:=by
 obtain ⟨c,hc⟩:=bD4 ns (s+j) hs
 obtain ⟨n0,hn0,n01⟩:=aTb c 1 13 (by decide)
 obtain ⟨n1,hn1,n11⟩:=aTb c 2 8 (by decide)
 obtain ⟨x0,ex0,lx0,tx0⟩:=aT0 hk hk3 c 40 (n:=n0) (by omega)
 obtain ⟨y0,ey0,ly0,ty0⟩:=aT0 hk hk3 c 80 (n:=1+n1) (by omega)
 obtain ⟨u,v,b9,b10,lu,lv,ul,v1,vl,hif⟩:∃ (u v:List Nat) (b9 b10:Option Sl),Ltr (k:Int) u/\Ltr (k:Int) v/\u.length<=13/\1<=v.length/\v.length<=8/\sIf (e2 dEq (e2 pL (aC 6) (eC (.int 2))) (eC (.int 1))) (aU (cO 9 (aP dM (aD (e2 nW (aC 6) (eC (.int 2))) (aD (pG (aD (eC (.int 13)) (aD (eC (.int 8)) (aN)))) (aN))))) (aU (cO 10 (eMt aGu (eC (.str [])) (aD (dX [12] (tgN 12) (itE (aP dM (aD (e2 nW (aC 6) (eC (.int 208))) (aD (aIu (aD (aC 3) (aN)) (e2 fJ (e2 fJ (e2 dIx (aC 9) (eC (.int 0))) (eC (.int 1))) (e2 dIx (aC 9) (eC (.int 1))))) (aN))))) gW (uI)) (aN)))) (cO 7 (aAp (aD (eSl (aC 10) (rD) (gU (e2 dIx (aC 9) (eC (.int 0))))) (aD (eSl (aC 10) (gU (e2 dIx (aC 9) (eC (.int 0)))) (rD)) (aN))))))) (cY) [some (.v (.lst (ns.map D.int))),some (.v (.int s)),some (.v (.lst (rs.map wD))),some (.v (.int k)),some (.o .l (ws.map wD)),some (.v (.int j)),some (.v (.int c)),some (.v (wD (x0,y0))),a8,a9,a10,a11,a12] = .ok (.nx [some (.v (.lst (ns.map D.int))),some (.v (.int s)),some (.v (.lst (rs.map wD))),some (.v (.int k)),some (.o .l (ws.map wD)),some (.v (.int j)),some (.v (.int c)),some (.v (wD (u,v))),a8,b9,b10,a11,a12]):=by
  by_cases h:c % 2=1
  ·obtain ⟨d0,d1,ed,h0,h1⟩:=bJq (c / 2)
   obtain ⟨c',ys,s',er,lys,hys⟩:=bJm hk hk3 (.lst (List.replicate (d0+1+d1) (.int k))) (d0+1+d1) (c / 208) [] none (fun _ z=>nomatch z) (by simp;omega)
   rw [List.length_nil,Nat.zero_add] at lys
   have eD:dM [.int (c / 208),.lst (List.replicate (d0+1+d1) (.int k))] = .ok (.lst (ys.map D.int)):=fY rfl (bJ (aEw (aBb rfl)) (bJ (wH (aH4 rfl) er) rfl))
   obtain ⟨w,ew,lw,tw⟩:=aJ9 (k:=k) (tg:=tgN 12) (C:=gW) (f:=uI) (st:=[some (.v (.lst (ns.map D.int))),some (.v (.int s)),some (.v (.lst (rs.map wD))),some (.v (.int k)),some (.o .l (ws.map wD)),some (.v (.int j)),some (.v (.int c)),some (.v (wD (x0,y0))),a8,some (.v (.lst [.int d0,.int d1])),a10,a11,none]) (ys.map D.int) (fun d hd=>by
    obtain ⟨i,hi,rfl⟩:=List.mem_map.mp hd
    obtain ⟨i0,i1⟩:=hys i hi
    exact ⟨_,97+i.toNat,rfl,rfl,aR rfl rfl (aXn i0 i1 hk3),by omega,by omega⟩)
   rw [length_map,lys] at lw
   have rp:aIu (aD (aC 3) (aN)) (e2 fJ (e2 fJ (e2 dIx (aC 9) (eC (.int 0))) (eC (.int 1))) (e2 dIx (aC 9) (eC (.int 1)))) [some (.v (.lst (ns.map D.int))),some (.v (.int s)),some (.v (.lst (rs.map wD))),some (.v (.int k)),some (.o .l (ws.map wD)),some (.v (.int j)),some (.v (.int c)),some (.v (wD (x0,y0))),a8,some (.v (.lst [.int d0,.int d1])),a10,a11,a12] = .ok (.lst (List.replicate (d0+1+d1) (.int k))):=by
    have e:e2 fJ (e2 fJ (e2 dIx (aC 9) (eC (.int 0))) (eC (.int 1))) (e2 dIx (aC 9) (eC (.int 1))) [some (.v (.lst (ns.map D.int))),some (.v (.int s)),some (.v (.lst (rs.map wD))),some (.v (.int k)),some (.o .l (ws.map wD)),some (.v (.int j)),some (.v (.int c)),some (.v (wD (x0,y0))),a8,some (.v (.lst [.int d0,.int d1])),a10,a11,a12] = .ok (.int ((d0+1+d1:Nat):Int)):=aR (aR (aR rfl rfl rfl) rfl (aRd d0 1)) (aR rfl rfl rfl) (aRd _ _)
    show (R.ok [D.int (k:Int)]).bind _=_
    rw [bQ,e,bQ]
    have e3:rep ((d0+1+d1:Nat):Int).toNat [D.int (k:Int)]=List.replicate (d0+1+d1) (.int k):=by
     rw [toNat_natCast]
     unfold rep
     generalize d0+1+d1=n
     induction n with
     | zero=>rfl
     | succ n ih=>rw [List.replicate_succ,flatten_cons,ih];rfl
    rw [<-e3]
    exact aW ⟨gG (show 1<=10000000 by decide),gG (by rw [toNat_natCast];simp;omega),by omega,by omega⟩
   refine ⟨w.take d0,w.drop d0,some (.v (.lst [.int d0,.int d1])),some (.v (.str w)),aBc tw _,aXr tw _,by rw [length_take];omega,by rw [length_drop];omega,by rw [length_drop];omega,?_⟩
   refine bAj (aR (aR rfl rfl (lW (by decide))) rfl (by rw [aIy,decide_eq_true h])) ?_
   refine bJ (dN (cX (bK (aR rfl rfl (aCb (by decide))) (bK (aBb rfl) rfl)) ed)) ?_
   refine bJ (dN (aPc (aMz (aH4 (cX (bK (aR rfl rfl (aCb (by decide))) (bK rp rfl)) eD)) (by simp;omega) ew) (by omega))) ?_
   exact dN (aF7 (bK ((aLs rfl rfl (show gU (e2 dIx (aC 9) (eC (.int 0))) _ = .ok (some (d0:Int)) from rfl) (by omega)).trans (by rw [bFj w d0 (by omega)])) (bK ((aLs rfl (show gU (e2 dIx (aC 9) (eC (.int 0))) _ = .ok (some (d0:Int)) from rfl) rfl (by omega)).trans (by rw [aXo w d0 (by omega)])) rfl)))
  ·exact ⟨x0,y0,a9,a10,tx0,ty0,by omega,by omega,by omega,aHl (aR (aR rfl rfl (lW (by decide))) rfl (by rw [aIy,decide_eq_false h])) rfl⟩
 have hw':∀ w∈ws++[(u,v)],Gw k w:=fun w hm=>by
  rcases List.mem_append.mp hm with hm | hm
  ·exact hw w hm
  ·rw [List.mem_singleton.mp hm]
   exact ⟨lu,lv,by show u.length<=60;omega,v1,by show v.length<=30;omega⟩
 obtain ⟨ws',b8,b11,e,hg,hlen⟩:=aH6 (s0:=some (.v (.lst (ns.map D.int)))) (s1:=some (.v (.int s))) (s2:=some (.v (.lst (rs.map wD)))) (s3:=some (.v (.int k))) (c:=c) (a5:=some (.v (.int j))) (a9:=b9) (a10:=b10) (a12:=a12) lu lv ul v1 vl rs (ws++[(u,v)]) a8 a11 hr hw' (by rw [length_append];show ws.length+1+2 * rs.length<=_;omega)
 refine ⟨ws',some (.v (.int c)),some (.v (wD (u,v))),b8,b9,b10,b11,a12,?_,hg,by rw [hlen,length_append];show ws.length+1+_=_;omega⟩
 refine bJ (dN (cX (bK rfl (bK (aR rfl rfl (aRd s j)) rfl)) hc)) ?_
 refine bJ (dN (aF7 (bK (cX (bK rfl (bK rfl (bK (cX rfl hn0) (bK rfl rfl)))) ex0) (bK (cX (bK rfl (bK rfl (bK (aR rfl (cX rfl hn1) (aRd 1 n1)) (bK rfl rfl)))) ey0) rfl)))) ?_
 refine bJ hif ?_
 refine bJ (aMy rfl rfl (by rw [length_map];omega)) ?_
 rw [List.map_append] at e
 exact wH (aH4 rfl) e
theorem aJa{ns:List Int}{s:Nat}{rs:List (List Nat × List Nat)}(hr:∀ w∈rs,Ltr (k:Int) w.1/\Ltr (k:Int) w.2/\w.1.length<=8/\w.2.length<=8)(rl:rs.length<=2) :
  ∀ (js:List Nat) (ws:List (List Nat × List Nat)) (a5 a6 a7 a8 a9 a10 a11 a12:Option Sl),(∀ j∈js,s+j<=100000)->(∀ w∈ws,Gw k w)->ws.length+5 * js.length<=900 ->
   ∃ (ws':List (List Nat × List Nat)) (b5 b6 b7 b8 b9 b10 b11 b12:Option Sl),forR (tgN 5) uK (js.map fun (j:Nat)=>D.int (j:Int)) [some (.v (.lst (ns.map D.int))),some (.v (.int s)),some (.v (.lst (rs.map wD))),some (.v (.int k)),some (.o .l (ws.map wD)),a5,a6,a7,a8,a9,a10,a11,a12] = .ok (.nx [some (.v (.lst (ns.map D.int))),some (.v (.int s)),some (.v (.lst (rs.map wD))),some (.v (.int k)),some (.o .l (ws'.map wD)),b5,b6,b7,b8,b9,b10,b11,b12])/\(∀ w∈ws',Gw k w)/\ws'.length<=ws.length+5 * js.length
 | [],ws,a5,a6,a7,a8,a9,a10,a11,a12,_,hw,_=>⟨ws,a5,a6,a7,a8,a9,a10,a11,a12,rfl,hw,Nat.le_refl _⟩
 | j :: js,ws,a5,a6,a7,a8,a9,a10,a11,a12,hj,hw,hl=>by
  rw [length_cons] at hl
  obtain ⟨w1,b6,b7,b8,b9,b10,b11,b12,e1',g1,l1⟩:=bFm hk hk3 (ns:=ns) (s:=s) (j:=j) (hj j mem_cons_self) (a6:=a6) (a7:=a7) (a8:=a8) (a9:=a9) (a10:=a10) (a11:=a11) (a12:=a12) hr hw (by omega)
  obtain ⟨w2,c5,c6,c7,c8,c9,c10,c11,c12,e2',g2,l2⟩:=aJa hr rl js w1 (some (.v (.int j))) b6 b7 b8 b9 b10 b11 b12 (fun j h=>hj j (mem_cons_of_mem _ h)) g1 (by omega)
  exact ⟨w2,c5,c6,c7,c8,c9,c10,c11,c12,pY rfl e1' e2',g2,by rw [length_cons];omega⟩
theorem aXs(ns:List Int){s:Nat}(hs:s<=90000){rs:List (List Nat × List Nat)}(hr:∀ w∈rs,Ltr (k:Int) w.1/\Ltr (k:Int) w.2/\w.1.length<=8/\w.2.length<=8)(rl:rs.length<=2):∃ ws:List (List Nat × List Nat),tL [.lst (ns.map D.int),.int s,.lst (rs.map wD),.int k] = .ok (.lst (ws.map wD))/\(∀ w∈ws,Gw k w)/\ws.length<=20:=by
 obtain ⟨ws,b5,b6,b7,b8,b9,b10,b11,b12,e,g,l⟩:=aJa hk hk3 (ns:=ns) (s:=s) hr rl (List.range 4) [] none none none none none none none none (fun j hj=>by have:=List.mem_range.mp hj;omega) (fun _ h=>nomatch h) (by decide)
 exact ⟨ws,fY rfl (bJ (aEw (aBb rfl)) (bJ (wH (aSg (n:=4) rfl (by decide)) e) rfl)),g,by simpa using l⟩
end
end Pu
namespace Pu
def isT:R D->Bool
 | .ok (.bl b)=>b
 | _=>false
theorem bFn{r:R D}(h:isT r=true):r = .ok (.bl true):=by
 unfold isT at h
 split at h
 ·rw [h]
 ·cases h
def cB(b k:Nat):List (Nat × Nat × Nat):=(List.range (b+1)).map fun t=>(t,b,k)
theorem oU{f:α->Bool}{x y:List α}(hx:x.all f=true)(hy:y.all f=true):(x++y).all f=true:=by rw [List.all_append,hx,hy];rfl
set_option maxHeartbeats 0 in
theorem bJr:((cB 1 2++cB 1 3)++((cB 2 2++cB 2 3)++((cB 3 2++cB 3 3)++((cB 4 2++cB 4 3)++((cB 5 2++cB 5 3)++(cB 6 2++cB 6 3)))))).all (fun x=>isT (gO [mD (stF true x.1 x.2.1 x.2.2) (rkF true x.1 x.2.1 x.2.2) x.2.2,mD (stF false x.1 x.2.1 x.2.2) (rkF false x.1 x.2.1 x.2.2) x.2.2,.int x.1,.int x.2.1,.int x.2.2]))=true:=by
 delta gO sO vC yN aDt aEs aEr mH wC rH aB5 mG wB jD yM aB4 qN wA aA7 aA6 aA5 xF aG8 qM vZ aA4 aA3 kW uH mF vY oN yL aB3 aB2 jL sJ fB kO jN aC9 cI kJ wZ aG7 aH2 aH1 aH0 uG aDs aEq bC pH dD fG wY aIx aC8 aG6 mQ aA2 pU gM sI vB oM aB1 sH pR pQ wX wW pP aDr aEp jC yK qL vX aA1 aA0 zZ tK yJ mO sE vA uZ uY rG aB0 uX aAz oK yI aAy aAx aAw nM aG5 aGz dO aDq aEo aEn jB aDp kI uF oJ yH kE uE jK rZ jZ uD uW aAv tH yG aAu aAt gY rF qK qJ qI eO nG fV nF eSl bEx
 simp only [aSl,aHz,aN3,aN4,aN6,aCc,aN7,aI0,aI1,aF4,aI2,aI3,aF5,aCd,aF6,aI4,aSo,aXc,aSp,aSq,aSr,aSs,aOx,aJ5,aSt,aXe,aXf,aOz,aLn,aP0,aSv,aP1,aJ6,aP3,aLr,aSx,aP4,aF3,yQ]
 refine oU (oU ?_ ?_) (oU (oU ?_ ?_) (oU (oU ?_ ?_) (oU (oU ?_ ?_) (oU (oU ?_ ?_) (oU ?_ ?_))))) <;> decide +kernel
theorem bFo{t b k:Nat}(h1:1<=b)(h6:b<=6)(ht:t<=b)(hk:k=2\/k=3):(t,b,k)∈(cB 1 2++cB 1 3)++((cB 2 2++cB 2 3)++((cB 3 2++cB 3 3)++((cB 4 2++cB 4 3)++((cB 5 2++cB 5 3)++(cB 6 2++cB 6 3))))):=by
 have h:(t,b,k)∈cB b k:=List.mem_map.mpr ⟨t,List.mem_range.mpr (by omega),rfl⟩
 have:b=1\/b=2\/b=3\/b=4\/b=5\/b=6:=by omega
 simp only [List.mem_append]
 rcases this with rfl | rfl | rfl | rfl | rfl | rfl<;>rcases hk with rfl | rfl<;>simp only [h,true_or,or_true]
def unW:D->Option (List Nat × List Nat)
 | .tup [.str x,.str y]=>some (x,y)
 | _=>none
theorem bFp{w:List Nat × List Nat}(h:unW d=some w):d=wD w:=by
 unfold unW at h
 split at h
 ·cases h;rfl
 ·cases h
def aXt:List D->Option (List (List Nat × List Nat))
 | []=>some []
 | d :: r=>(unW d).bind fun w=>(aXt r).bind fun ws=>some (w :: ws)
theorem aTc:∀ {ds:List D} {ws:List (List Nat × List Nat)},aXt ds=some ws->ds=ws.map wD
 | [],ws,h=>by cases h;rfl
 | d :: r,ws,h=>by
  unfold aXt at h
  cases hw:unW d with
  | none=>rw [hw] at h;cases h
  | some w =>
   cases hs:aXt r with
   | none=>rw [hw,hs] at h;cases h
   | some l =>
    rw [hw,hs] at h
    cases h
    rw [bFp hw,aTc hs];rfl
def bFq(k:Nat)(x:List Nat):Bool:=x.all fun c=>ble 97 c&&ble (c+1) (97+k)
theorem aTd{k:Nat}{x:List Nat}(h:bFq k x=true):Ltr (k:Int) x:=fun c hc=>by
 have z:=Bool.and_eq_true_iff.mp (List.all_eq_true.mp h c hc)
 have:=le_of_ble_eq_true z.1
 have:=le_of_ble_eq_true z.2
 omega
def bJs(t b k:Nat):R D->Bool
 | .ok (.lst ds)=>(match aXt ds with
  | some ws=>ble ws.length 2&&ws.all fun w=>bFq k w.1&&bFq k w.2&&ble w.1.length 8&&ble w.2.length 8&&ble 1 w.2.length&&Nat.beq (rK k w.1 w.2 * b) (t * yR k w.1 w.2)
  | none=>false)
 | _=>false
set_option maxHeartbeats 0 in
theorem wrT:aGa.all (fun x=>bJs x.1 x.2.1 x.2.2 (jO [.int x.1,.int x.2.1,.int x.2.2]))=true:=by
 delta jO wF oO yO aB7 aB6 dR iK eO nG lG nY fV nF eSl
 simp only [aSl,aHz,aN3,aN4,aN6,aCc,aN7,aI0,aI1,aF4,aI2,aI3,aF5,aCd,aF6,aI4,aSo,aXc,aSp,aSq,aSr,aSs,aOx,aJ5,aSt,aXe,aXf,aOz,aLn,aP0,aSv,aP1,aJ6,aP3,aLr,aSx,aP4,aF3,yQ]
 decide +kernel
section
variable{t b k:Nat}(h1:1<=b)(h6:b<=6)(ht:t<=b)(hk:k=2\/k=3)
include h1 h6 ht hk
theorem bJt:gO [mD (stF true t b k) (rkF true t b k) k,mD (stF false t b k) (rkF false t b k) k,.int t,.int b,.int k] = .ok (.bl true):=by
 have z:=List.all_eq_true.mp bJr _ (bFo h1 h6 ht hk)
 dsimp only at z
 exact bFn z
theorem wrF:∃ ws:List (List Nat × List Nat),jO [.int t,.int b,.int k] = .ok (.lst (ws.map wD))/\ws.length<=2/\∀ w∈ws,Ltr (k:Int) w.1/\Ltr (k:Int) w.2/\w.1.length<=8/\w.2.length<=8/\1<=w.2.length/\rK k w.1 w.2 * b=t * yR k w.1 w.2:=by
 have z:=List.all_eq_true.mp wrT _ (uM h1 h6 ht hk)
 dsimp only at z
 unfold bJs at z
 split at z
 ·rename_i ds e
  split at z
  ·rename_i ws e2
   obtain ⟨z1,z2⟩:=Bool.and_eq_true_iff.mp z
   refine ⟨ws,by rw [e,aTc e2],le_of_ble_eq_true z1,fun w hw=>?_⟩
   have y:=List.all_eq_true.mp z2 w hw
   simp only [and_eq_true] at y
   obtain ⟨⟨⟨⟨⟨y1,y2⟩,y3⟩,y4⟩,y5⟩,y6⟩:=y
   exact ⟨aTd y1,aTd y2,le_of_ble_eq_true y3,le_of_ble_eq_true y4,le_of_ble_eq_true y5,Nat.eq_of_beq_eq_true y6⟩
  ·cases z
 ·cases z
end
end Pu
namespace Pu
theorem bB2{S:List (List Nat)}{rk:List Nat}{c:Nat}      {st:PSt} {z:R D} (hf:f st = .ok (mD S rk c)) (hr:r st = .ok xs) (hm:m ∉ ["steps", "ranks", "many", "letters"]) (h:p (mD S rk c :: (xs++dv))=z):fM "Machine" m p dv f r st=z:=by
 show (f st).bind _=_
 rw [hf]
 show (r st).bind _=_
 rw [hr]
 show aO ("Machine" = "Machine" /\ m ∉ ["steps", "ranks", "many", "letters"]) (p (mD S rk c :: (xs++dv)))=z
 rw [aW ⟨rfl,hm⟩,h]
theorem bD9(p:Bool):dNe (.bl p) (.bl p) = .ok (.bl false):=by
 cases p<;>exact aW ⟨by decide,rfl,rfl⟩
theorem bFr(a b:Nat):dLe (.int a) (.int b) = .ok (.bl (decide (a<=b))):=by
 show R.ok (D.bl (decide ((a:Int)<=(b:Int))))=_
 congr 2
 exact decide_eq_decide.mpr Int.ofNat_le
theorem bFs(a b:Nat):dGe (.int a) (.int b) = .ok (.bl (decide (b<=a))):=by
 show R.ok (D.bl (decide ((b:Int)<=(a:Int))))=_
 congr 2
 exact decide_eq_decide.mpr Int.ofNat_le
section
variable{t b k:Nat}(h1:1<=b)(h6:b<=6)(ht:t<=b)(hk:k=2\/k=3)
include h1 h6 ht hk
theorem aTe{w:List Nat × List Nat}(g:Gw k w):cU [mD (stF true t b k) (rkF true t b k) k,wD w,.int 0] = .ok (.bl (decide (rK k w.1 w.2 * b<=t * yR k w.1 w.2))) :=
 (bB0 h1 h6 ht hk g.1 g.2.1 g.2.2.2.1 (Nat.le_trans g.2.2.1 (by decide)) (Nat.le_trans g.2.2.2.2 (by decide)))
theorem aLu{w:List Nat × List Nat}(g:Gw k w):cU [mD (stF false t b k) (rkF false t b k) k,wD w,.int 0] = .ok (.bl (decide (t * yR k w.1 w.2<=rK k w.1 w.2 * b))) :=
 (aV1 h1 h6 ht hk g.1 g.2.1 g.2.2.2.1 (Nat.le_trans g.2.2.1 (by decide)) (Nat.le_trans g.2.2.2.2 (by decide)))
theorem aD0{s5:Option Sl}:∀ (ws:List (List Nat × List Nat)) (a6 a7:Option Sl),(∀ w∈ws,Gw k w) ->
  ∃ b6 b7,forR (tgN 6) vD (ws.map wD) [some (.v (mD (stF true t b k) (rkF true t b k) k)),some (.v (mD (stF false t b k) (rkF false t b k) k)),some (.v (.int t)),some (.v (.int b)),some (.v (.int k)),s5,a6,a7] = .ok (.nx [some (.v (mD (stF true t b k) (rkF true t b k) k)),some (.v (mD (stF false t b k) (rkF false t b k) k)),some (.v (.int t)),some (.v (.int b)),some (.v (.int k)),s5,b6,b7])
 | [],a6,a7,_=>⟨a6,a7,rfl⟩
 | w :: ws,a6,a7,hw=>by
  have g:=hw w mem_cons_self
  obtain ⟨b6,b7,e⟩:=aD0 ws (some (.v (wD w))) (some (.v (.tup [.int (rK k w.1 w.2),.int (yR k w.1 w.2)]))) fun w h=>hw w (mem_cons_of_mem _ h)
  refine ⟨b6,b7,pY rfl ?_ e⟩
  refine bJ (dN (cX rfl (bFk (by omega) (by omega) g.1 g.2.1 g.2.2.2.1 g.2.2.2.2 g.2.2.1))) ?_
  refine bJ (aHl (aR (bB2 rfl rfl (by decide) (aTe h1 h6 ht hk g)) (aR (aR (aR rfl rfl rfl) rfl (aV2 (by omega))) (aR rfl (aR rfl rfl rfl) (bB1 (by omega))) (bFr _ _)) (bD9 _)) rfl) ?_
  exact aHl (aR (bB2 rfl rfl (by decide) (aLu h1 h6 ht hk g)) (aR (aR (aR rfl rfl rfl) rfl (aV2 (by omega))) (aR rfl (aR rfl rfl rfl) (bB1 (by omega))) (bFs _ _)) (bD9 _)) rfl
theorem aPg{ws:List (List Nat × List Nat)}(hw:∀ w∈ws,Gw k w):mR [mD (stF true t b k) (rkF true t b k) k,mD (stF false t b k) (rkF false t b k) k,.int t,.int b,.int k,.lst (ws.map wD)] = .ok (.bl true):=by
 obtain ⟨b6,b7,e⟩:=aD0 h1 h6 ht hk (s5:=some (.v (.lst (ws.map wD)))) ws none none hw
 exact fY rfl (bJ (wH (aH4 rfl) e) rfl)
theorem aD1{s0 s1 s2 s3 s9:Option Sl}:∀ (rs ws:List (List Nat × List Nat)) (a11:Option Sl),(∀ w∈rs,Ltr (k:Int) w.1/\Ltr (k:Int) w.2/\w.1.length<=8/\w.2.length<=8/\1<=w.2.length/\rK k w.1 w.2 * b=t * yR k w.1 w.2)->(∀ w∈ws,Gw k w)->ws.length+2 * rs.length<=900 ->
  ∃ (ws':List (List Nat × List Nat)) (b11:Option Sl),forR (tgN 11) aSf (rs.map wD) [s0,s1,s2,s3,some (.v (.int b)),some (.v (.int t)),some (.v (.int k)),some (.v (mD (stF true t b k) (rkF true t b k) k)),some (.v (mD (stF false t b k) (rkF false t b k) k)),s9,some (.v (.lst (ws.map wD))),a11] = .ok (.nx [s0,s1,s2,s3,some (.v (.int b)),some (.v (.int t)),some (.v (.int k)),some (.v (mD (stF true t b k) (rkF true t b k) k)),some (.v (mD (stF false t b k) (rkF false t b k) k)),s9,some (.v (.lst (ws'.map wD))),b11])/\∀ w∈ws',Gw k w
 | [],ws,a11,_,hw,_=>⟨ws,a11,rfl,hw⟩
 | r :: rs,ws,a11,hr,hw,hl=>by
  rw [length_cons] at hl
  obtain ⟨x,y⟩:=r
  obtain ⟨r1,r2,r3,r4,r5,r6⟩:=hr (x,y) mem_cons_self
  dsimp only at r1 r2 r3 r4 r5 r6
  have rl:(rep 2 y).length<=16:=by rw [aPd];omega
  have g0:Gw k (x,y):=⟨r1,r2,by show x.length<=60;omega,r5,by show y.length<=30;omega⟩
  have g1:Gw k (x++rep 2 y,y):=⟨aI6 r1 (aT1 r2 2),r2,by rw [length_append];omega,r5,by show y.length<=30;omega⟩
  obtain ⟨w2,b11,e,g⟩:=aD1 rs (ws++[(x,y),(x++rep 2 y,y)]) (some (.v (wD (x,y)))) (fun w h=>hr w (mem_cons_of_mem _ h)) (fun w hm=>by
   rcases List.mem_append.mp hm with hm | hm
   ·exact hw w hm
   ·rcases List.mem_cons.mp hm with rfl | hm
    ·exact g0
    ·rw [List.mem_singleton.mp hm];exact g1) (by rw [length_append];show ws.length+2+_<=_;omega)
  refine ⟨w2,b11,pY rfl ?_ e,g⟩
  have u:=aTe h1 h6 ht hk g0
  have f:=aLu h1 h6 ht hk g0
  rw [decide_eq_true (Nat.le_of_eq r6)] at u
  rw [decide_eq_true (Nat.le_of_eq r6.symm)] at f
  rw [List.map_append]
  refine bJ (dN (aR rfl (aBb (bK rfl (bK (aF7 (bK (aR (aR rfl rfl rfl) (aR (aR rfl rfl rfl) rfl (aPf (n:=2) (show y.length * 2<=_ by omega) (by decide))) (add_str (show x.length+(rep 2 y).length<=_ by omega))) (bK (aR rfl rfl rfl) rfl))) rfl))) (bAw (by rw [length_map];show ws.length+2<=_;omega)))) ?_
  exact aHl (bJ7 (p:=false) (q:=false) (aG9 (p:=true) (bB2 (m := "lets") rfl rfl (by decide) u)) fun _=>aG9 (p:=true) (bB2 (m := "lets") rfl rfl (by decide) f)) rfl
end
theorem bFt(ns:List Int)(j:Nat)(hj:j<=1000)(a2 a3 a4 a5 a6 a7 a8 a9 a10 a11:Option Sl):∃ b2 b3 b4 b5 b6 b7 b8 b9 b10 b11,aMx [some (.v (.lst (ns.map D.int))),some (.v (.int j)),a2,a3,a4,a5,a6,a7,a8,a9,a10,a11] = .ok (.nx [some (.v (.lst (ns.map D.int))),some (.v (.int j)),b2,b3,b4,b5,b6,b7,b8,b9,b10,b11]):=by
 obtain ⟨c,hc⟩:=bD4 ns (5 * j) (by omega)
 obtain ⟨x1,e1',x1a,x1b⟩:=aP6 c 11 6 (by decide)
 obtain ⟨y1,e2',y1a,y1b⟩:=aP6 c 12 420 (by decide)
 obtain ⟨z1,e3',z1a,z1b⟩:=aP6 c 13 2 (by decide)
 obtain ⟨x,y,z,xa,xb,ya,yb,za,zb,hn⟩:∃ x y z:Int,0<=x/\x < 6/\0<=y/\y < 420/\0<=z/\z < 2/\sIf (e2 dEq (e2 pL (aC 2) (eC (.int 2))) (eC (.int 1))) (cO 3 (aP dM (aD (e2 nW (aC 2) (eC (.int 2))) (aD (pG (aD (eC (.int 6)) (aD (eC (.int 420)) (aD (eC (.int 2)) (aN))))) (aN))))) (cY) [some (.v (.lst (ns.map D.int))),some (.v (.int j)),some (.v (.int c)),some (.v (.lst [.int x1,.int y1,.int z1])),a4,a5,a6,a7,a8,a9,a10,a11] = .ok (.nx [some (.v (.lst (ns.map D.int))),some (.v (.int j)),some (.v (.int c)),some (.v (.lst [.int x,.int y,.int z])),a4,a5,a6,a7,a8,a9,a10,a11]):=by
  by_cases h:c % 2=1
  ·obtain ⟨x,y,z,hd,⟨xa,xb⟩,⟨ya,yb⟩,za,zb⟩:=bAv (c / 2)
   exact ⟨x,y,z,xa,xb,ya,yb,za,zb,bAj (aR (aR rfl rfl (lW (by decide))) rfl (by rw [aIy,decide_eq_true h])) (dN (cX (bK (aR rfl rfl (aCb (by decide))) (bK (aBb rfl) rfl)) hd))⟩
  ·exact ⟨x1,y1,z1,x1a,x1b,y1a,y1b,z1a,z1b,aHl (aR (aR rfl rfl (lW (by decide))) rfl (by rw [aIy,decide_eq_false h])) rfl⟩
 obtain ⟨b,eb⟩:∃ b:Nat,(1+x)=(b:Int):=⟨(1+x).toNat,by omega⟩
 have hm0:0<=y % ((b:Int)+1):=emod_nonneg _ (by omega)
 have hm1:y % ((b:Int)+1) < (b:Int)+1:=emod_lt_of_pos _ (by omega)
 obtain ⟨t,et⟩:∃ t:Nat,y % ((b:Int)+1)=(t:Int):=⟨(y % ((b:Int)+1)).toNat,by omega⟩
 obtain ⟨k,ek⟩:∃ k:Nat,(2+z)=(k:Int):=⟨(2+z).toNat,by omega⟩
 have h1:1<=b:=by omega
 have h6:b<=6:=by omega
 have ht:t<=b:=by omega
 have hk:k=2\/k=3:=by omega
 have g4:fJ (.int 1) (.int x) = .ok (.int (b:Nat)):=by rw [<-eb];rfl
 have g5:pL (.int y) (.int ((b:Int)+1)) = .ok (.int (t:Nat)):=by rw [lW (by omega),et]
 have g6:fJ (.int 2) (.int z) = .ok (.int (k:Nat)):=by rw [<-ek];rfl
 obtain ⟨rs,er,rl,hr⟩:=wrF h1 h6 ht hk
 obtain ⟨ws,ew,gw,wl⟩:=aXs (k:=k) (by omega) (by omega) ns (s:=5 * j+1) (by omega) (rs:=rs) (fun w hw=>⟨(hr w hw).1,(hr w hw).2.1,(hr w hw).2.2.1,(hr w hw).2.2.2.1⟩) rl
 obtain ⟨vs,b11,el,gv⟩:=aD1 h1 h6 ht hk (s0:=some (.v (.lst (ns.map D.int)))) (s1:=some (.v (.int j))) (s2:=some (.v (.int c))) (s3:=some (.v (.lst [.int x,.int y,.int z]))) (s9:=some (.v (.lst (rs.map wD)))) rs ws a11 hr gw (by omega)
 refine ⟨some (.v (.int c)),some (.v (.lst [.int x,.int y,.int z])),some (.v (.int b)),some (.v (.int t)),some (.v (.int k)),some (.v (mD (stF true t b k) (rkF true t b k) k)),some (.v (mD (stF false t b k) (rkF false t b k) k)),some (.v (.lst (rs.map wD))),some (.v (.lst (vs.map wD))),b11,?_⟩
 refine bJ (dN (cX (bK rfl (bK (aR rfl rfl (bB1 (i:=5) (j:=j) (by decide))) rfl)) hc)) ?_
 refine bJ (dN (aBb (bK (cX rfl e1') (bK (cX rfl e2') (bK (cX rfl e3') rfl))))) ?_
 refine bJ hn ?_
 refine bJ (dN (aR rfl (aR rfl rfl rfl) g4)) ?_
 refine bJ (dN (aR (aR rfl rfl rfl) (aR rfl rfl rfl) g5)) ?_
 refine bJ (dN (aR rfl (aR rfl rfl rfl) g6)) ?_
 refine bJ (dN (cX rfl (upF h1 h6 ht hk))) ?_
 refine bJ (dN (cX rfl (bJl h1 h6 ht hk))) ?_
 refine bJ (aHl (aG9 (p:=true) (cX rfl (bJt h1 h6 ht hk))) rfl) ?_
 refine bJ (dN (cX rfl er)) ?_
 refine bJ (dN (cX (bK rfl (bK (aR (aR rfl rfl (bB1 (i:=5) (j:=j) (by decide))) rfl (aRd (5 * j) 1)) (bK rfl (bK rfl rfl)))) ew)) ?_
 refine bJ (wH (aH4 rfl) el) ?_
 exact aHl (aG9 (p:=true) (cX rfl (aPg h1 h6 ht hk gv))) rfl
theorem law_true(ns:List Int)(hn:ns.length<=63):aLd [.lst (ns.map D.int)] = .ok (.bl true):=by
 have loop:∀ (ks:List Nat),(∀ j∈ks,j<=1000)->∀ a1 a2 a3 a4 a5 a6 a7 a8 a9 a10 a11:Option Sl,∃ st,forR (tgN 1) aMx (ks.map fun (j:Nat)=>D.int (j:Int)) [some (.v (.lst (ns.map D.int))),a1,a2,a3,a4,a5,a6,a7,a8,a9,a10,a11] = .ok (.nx st):=by
  intro ks
  induction ks with
  | nil=>intro _ a1 a2 a3 a4 a5 a6 a7 a8 a9 a10 a11;exact ⟨_,rfl⟩
  | cons j ks ih =>
   intro h a1 a2 a3 a4 a5 a6 a7 a8 a9 a10 a11
   obtain ⟨b2,b3,b4,b5,b6,b7,b8,b9,b10,b11,hb⟩:=bFt ns j (h j mem_cons_self) a2 a3 a4 a5 a6 a7 a8 a9 a10 a11
   obtain ⟨st,hs⟩:=ih (fun j hj=>h j (mem_cons_of_mem _ hj)) (some (.v (.int j))) b2 b3 b4 b5 b6 b7 b8 b9 b10 b11
   exact ⟨st,pY rfl hb hs⟩
 have hd:nW (.int (ns.length:Nat)) (.int 5) = .ok (.int ((ns.length / 5:Nat):Int)):=by
  rw [aCb (by decide)];rfl
 have hm:e2 aL2 (eC (.int 2)) (e2 aL3 (e2 nW (e1 lF (aC 0)) (eC (.int 5))) (eC (.int 4))) [some (.v (.lst (ns.map D.int))),none,none,none,none,none,none,none,none,none,none,none] = .ok (.int ((max 2 (min (ns.length / 5) 4):Nat):Int)):=by
  refine aR rfl (aR (aR (bD3 rfl (show R.ok (D.int (((ns.map D.int).length:Nat):Int)) = .ok (.int (ns.length:Nat)) by rw [length_map])) rfl hd) rfl (show R.ok (D.int (if (4:Int) < (ns.length / 5:Nat) then 4 else (ns.length / 5:Nat))) = .ok (.int ((min (ns.length / 5) 4:Nat):Int)) by
   congr 2
   split<;>omega)) ?_
  show R.ok (D.int (if ((min (ns.length / 5) 4:Nat):Int) > 2 then ((min (ns.length / 5) 4:Nat):Int) else 2))=_
  congr 2
  split<;>omega
 obtain ⟨st,hs⟩:=loop (List.range (max 2 (min (ns.length / 5) 4))) (fun j hj=>by have:=List.mem_range.mp hj;omega) none none none none none none none none none none none
 exact fY rfl (bJ (wH (aSg hm (by omega)) hs) rfl)
end Pu
namespace Pu
open PySem PySem.Spec PyProof.Rows L2
abbrev LSt:=L2.St
def mK:Key->D
 | .inl i => .int i
 | .inr x => .str x.cps.toList
structure ExcCl(K:Frag)(C:Addr):Prop where
 ga:findIn K (.ref C) "__getattribute__" = some (some (.builtin "BaseException.__getattribute__"))
 gn:findIn K (.ref C) "__getattr__" = some none
 mb:mroIn K C (.type "BaseException")=some true
 cl:(PySem.W.clsIn K C).isSome=true
 fd:findIn K (.ref C) "__class__" = some (some (.builtin "object.__class__"))
 sp:specialIn K (.builtin "object.__class__") "__get__" = some (some (.builtin "getset_descriptor.__get__"))
 tk:takesIn K (.builtin "object.__class__")=some true
 mr:mroIn K C (.type "object")=some true
structure ExcAt(K:Frag)(c:String)(C:Addr)(bm:List Value):Prop where
 ns:nsIn K mainGlobals (Str.ofString c)=some (some (.ref C))
 ob:∃ (B newId initId:String) (bmB:List Value),ExcBaseFacts B newId initId bmB/\∀ h,K.In h->∃ N nm q bs hdct sn sub ab col dd k0 k1 k2 k3 k5 mN,
  h.get? C=some (excClassObj nm q C N bs bm hdct sn sub ab col dd k0 k1 k2 k3 k5 newId)/\h.Ns N mN/\mN "__init__" = none/\OwnTail h bmB bm
 ic:ExcCl K C
def bDa(a C:Addr)(h:Heap):Prop:=∃ o,h.get? a=some o/\o.cls = .ref C/\notCls o=true
structure ExcIs(K:Frag)(c:String)(C:Addr):Prop where
 ns:nsIn K mainGlobals (Str.ofString c)=some (some (.ref C))
 ic:ExcCl K C
theorem ExcAt.is{K:Frag}   {bm:List Value} (h:ExcAt K c C bm):ExcIs K c C:=⟨h.ns,h.ic⟩
def xOb(x C:Addr)(d:Option Addr)(h:Heap):Prop:=∃ o,h.get? x=some o/\o.cls = .ref C/\notCls o=true/\o.dict=d
def xFs(dx:Addr)(fs:List (Str × V))(h:Heap):Prop:=∃ mA,h.Ns1 dx mA/\(∀ f,yC (fs.lookup f) (mA f))/\PySem.Within mA (fs.map (·.1))
mutual
def Rep(K:Frag)(H:Hp):D->V->Prop
 | .non,v=>v=V.non
 | .bl b,v=>v=V.bl b
 | .int i,v=>v=V.int i
 | .str s,v=>v=V.str ⟨s.toArray⟩
 | .tup ds,v=>∃ a vs,v=V.ref a/\H a=some (.tup vs)/\bD K H ds vs
 | .lst ds,v=>∃ a vs,v=V.ref a/\SqL K H a vs/\bD K H ds vs
 | .dct t ks ds,v=>∃ a vs,v=V.ref a/\((t=false/\∃ kvs:List (Key × V),H a=some (.dK kvs)/\kvs.map (fun p=>mK p.1)=ks/\vs=kvs.map (·.2))\/(t=true/\∃ kvs:List (List Key × V),H a=some (.dT kvs)/\kvs.map (fun p=>D.tup (p.1.map mK))=ks/\vs=kvs.map (·.2)))/\bD K H ds vs
 | .ins c ns ds,v=>∃ a C dx fs vs,v=V.ref a/\H a=some (.ins C dx fs)/\nsIn K mainGlobals (Str.ofString c)=some (some (.ref C))/\fs.map (·.1)=ns.map Str.ofString/\vs=fs.map (·.2)/\bD K H ds vs
 | .exn c ns ds,v=>∃ a φ C,v=V.ref a/\H a=some (.ext φ)/\(∀ h,φ h->bDa a C h)/\ExcIs K c C/\∃ dx fs vs,((ns=[]/\vs=[])\/(φ=xOb a C (some dx)/\dx≠a/\H dx=some (.ext (xFs dx fs))/\fs.map (·.1)=ns.map Str.ofString/\vs=fs.map (·.2)))/\bD K H ds vs
 | .fn f,v=>∃ a,v=V.ref a/\nsIn K mainGlobals (Str.ofString f)=some (some (.ref a))
def bD(K:Frag)(H:Hp):List D->List V->Prop
 | [],vs=>vs=[]
 | d :: ds,vs=>∃ v r,vs=v :: r/\Rep K H d v/\bD K H ds r
end
theorem aBd{K:Frag}   {xs:List V} (e:bA H H') (h:SqT K H a xs):SqT K H' a xs:=by
 rcases h with (h | ⟨o,h⟩) | h
 ·exact .inl (.inl (e _ _ h))
 ·exact .inl (.inr ⟨o,e _ _ h⟩)
 ·exact .inr h
mutual
theorem Rep.mono{K:Frag}{H H':Hp}(s:bA H H'):∀ {d:D} {v:V},Rep K H d v->Rep K H' d v
 | .non,_,h=>by unfold Rep at h ⊢; exact h
 | .bl _,_,h=>by unfold Rep at h ⊢; exact h
 | .int _,_,h=>by unfold Rep at h ⊢; exact h
 | .str _,_,h=>by unfold Rep at h ⊢; exact h
 | .tup _,_,h=>by
  unfold Rep at h ⊢
  obtain ⟨a,vs,e,q,r⟩:=h
  exact ⟨a,vs,e,s _ _ q,bD.mono s r⟩
 | .lst _,_,h=>by
  unfold Rep at h ⊢
  obtain ⟨a,vs,e,q,r⟩:=h
  exact ⟨a,vs,e,s.seq q,bD.mono s r⟩
 | .dct _ _ _,_,h=>by
  unfold Rep at h ⊢
  obtain ⟨a,vs,e,q,r⟩:=h
  refine ⟨a,vs,e,?_,bD.mono s r⟩
  rcases q with ⟨q0,kvs,q1,q2⟩ | ⟨q0,kvs,q1,q2⟩
  ·exact .inl ⟨q0,kvs,s _ _ q1,q2⟩
  ·exact .inr ⟨q0,kvs,s _ _ q1,q2⟩
 | .ins _ _ _,_,h=>by
  unfold Rep at h ⊢
  obtain ⟨a,C,dx,fs,vs,e,q1,q2,q3,q4,r⟩:=h
  exact ⟨a,C,dx,fs,vs,e,s _ _ q1,q2,q3,q4,bD.mono s r⟩
 | .fn _,_,h=>by unfold Rep at h ⊢; exact h
 | .exn _ _ _,_,h=>by
  unfold Rep at h ⊢
  obtain ⟨a,φ,C,e,q,hφ,hi,dx,fs,vs,h1,r⟩:=h
  refine ⟨a,φ,C,e,s _ _ q,hφ,hi,dx,fs,vs,?_,bD.mono s r⟩
  rcases h1 with h1 | ⟨h1,h2,h3,h4⟩
  ·exact .inl h1
  ·exact .inr ⟨h1,h2,s _ _ h3,h4⟩
theorem bD.mono{K:Frag}{H H':Hp}(s:bA H H'):∀ {ds:List D} {vs:List V},bD K H ds vs->bD K H' ds vs
 | [],_,h=>by unfold bD at h ⊢; exact h
 | d :: ds,_,h=>by
  unfold bD at h ⊢
  obtain ⟨v,r,e,q,t⟩:=h
  exact ⟨v,r,e,Rep.mono s q,bD.mono s t⟩
end
section
variable{K:Frag} 
theorem cJ:Rep K H .non v ↔ v=V.non:=by unfold Rep;exact Iff.rfl
theorem bF:Rep K H (.bl b) v ↔ v=V.bl b:=by unfold Rep;exact Iff.rfl
theorem aQ{i:Int}  : Rep K H (.int i) v ↔ v=V.int i:=by unfold Rep;exact Iff.rfl
theorem aZ{s:List Nat}  : Rep K H (.str s) v ↔ v=V.str ⟨s.toArray⟩:=by unfold Rep;exact Iff.rfl
theorem uN:Rep K H (.tup ds) v ↔ ∃ a vs,v=V.ref a/\H a=some (.tup vs)/\bD K H ds vs:=by conv=>lhs;unfold Rep
theorem bL(h:Rep K H (.tup ds) v):∃ a vs,v=V.ref a/\SqT K H a vs/\bD K H ds vs :=
 let ⟨a,vs,e,q,r⟩:=uN.mp h;⟨a,vs,e,SqT.of q,r⟩
theorem bZ:Rep K H (.lst ds) v ↔ ∃ a vs,v=V.ref a/\SqL K H a vs/\bD K H ds vs:=by conv=>lhs;unfold Rep
theorem vH{t:Bool}   : Rep K H (.dct t ks ds) v ↔ ∃ a vs,v=V.ref a/\((t=false/\∃ kvs:List (Key × V),H a=some (.dK kvs)/\kvs.map (fun p=>mK p.1)=ks/\vs=kvs.map (·.2))\/(t=true/\∃ kvs:List (List Key × V),H a=some (.dT kvs)/\kvs.map (fun p=>D.tup (p.1.map mK))=ks/\vs=kvs.map (·.2)))/\bD K H ds vs:=by conv=>lhs;unfold Rep
theorem aI7{ns:List String}   : Rep K H (.ins c ns ds) v ↔ ∃ a C dx fs vs,v=V.ref a/\H a=some (.ins C dx fs)/\nsIn K mainGlobals (Str.ofString c)=some (some (.ref C))/\fs.map (·.1)=ns.map Str.ofString/\vs=fs.map (·.2)/\bD K H ds vs:=by conv=>lhs;unfold Rep
theorem bB3{ns:List String}   : Rep K H (.exn c ns ds) v ↔ ∃ a φ C,v=V.ref a/\H a=some (.ext φ)/\(∀ h,φ h->bDa a C h)/\ExcIs K c C/\∃ dx fs vs,((ns=[]/\vs=[])\/(φ=xOb a C (some dx)/\dx≠a/\H dx=some (.ext (xFs dx fs))/\fs.map (·.1)=ns.map Str.ofString/\vs=fs.map (·.2)))/\bD K H ds vs:=by conv=>lhs;unfold Rep
theorem aRe{f:String}  : Rep K H (.fn f) v ↔ ∃ a,v=V.ref a/\nsIn K mainGlobals (Str.ofString f)=some (some (.ref a)):=by conv=>lhs;unfold Rep
theorem dG:bD K H [] vs ↔ vs=[]:=by unfold bD;exact Iff.rfl
theorem bU{d:D}   : bD K H (d :: ds) vs ↔ ∃ v r,vs=v :: r/\Rep K H d v/\bD K H ds r:=by conv=>lhs;unfold bD
theorem bD.nil:bD K H [] []:=dG.mpr rfl
theorem bD.cons{d:D}{ds:List D}{v:V}{vs:List V}(h:Rep K H d v)(t:bD K H ds vs):bD K H (d :: ds) (v :: vs):=bU.mpr ⟨v,vs,rfl,h,t⟩
theorem bD.length:∀ {ds:List D} {vs:List V},bD K H ds vs->vs.length=ds.length
 | [],_,h=>by rw [dG.mp h];rfl
 | _ :: ds,_,h=>by
  obtain ⟨v,r,rfl,_,t⟩:=bU.mp h
  rw [length_cons,length_cons,bD.length t]
theorem bD.get:∀ {ds:List D} {vs:List V} {i:Nat} {d:D},bD K H ds vs->ds[i]?=some d->∃ v,vs[i]?=some v/\Rep K H d v
 | [],_,_,_,_,e=>by simp at e
 | _ :: ds,_,0,d,h,e=>by
  obtain ⟨v,r,rfl,q,t⟩:=bU.mp h
  simp at e;subst e
  exact ⟨v,rfl,q⟩
 | _ :: ds,_,i+1,d,h,e=>by
  obtain ⟨v,r,rfl,q,t⟩:=bU.mp h
  obtain ⟨u,e1,e2⟩:=bD.get (i:=i) t (by simpa using e)
  exact ⟨u,by simpa using e1,e2⟩
theorem bD.append:∀ {ds es:List D} {vs us:List V},bD K H ds vs->bD K H es us->bD K H (ds++es) (vs++us)
 | [],_,_,_,h,t=>by rw [dG.mp h];exact t
 | _ :: _,_,_,_,h,t=>by
  obtain ⟨v,r,rfl,q,w⟩:=bU.mp h
  exact .cons q (bD.append w t)
theorem bD.set{d:D}{v:V}(hd:Rep K H d v):∀ {ds:List D} {vs:List V} (i:Nat),bD K H ds vs->bD K H (ds.set i d) (vs.set i v)
 | [],_,_,h=>by rw [dG.mp h];exact .nil
 | _ :: _,_,0,h=>by
  obtain ⟨v,r,rfl,q,w⟩:=bU.mp h
  exact .cons hd w
 | _ :: _,_,i+1,h=>by
  obtain ⟨v,r,rfl,q,w⟩:=bU.mp h
  exact .cons q (bD.set hd i w)
theorem bD.take:∀ {ds:List D} {vs:List V} (n:Nat),bD K H ds vs->bD K H (ds.take n) (vs.take n)
 | _,_,0,_ => .nil
 | [],_,_+1,h=>by rw [dG.mp h];exact .nil
 | _ :: _,_,n+1,h=>by
  obtain ⟨v,r,rfl,q,w⟩:=bU.mp h
  exact .cons q (bD.take n w)
theorem bD.drop:∀ {ds:List D} {vs:List V} (n:Nat),bD K H ds vs->bD K H (ds.drop n) (vs.drop n)
 | _,_,0,h=>h
 | [],_,_+1,h=>by rw [dG.mp h];exact .nil
 | _ :: _,_,n+1,h=>by
  obtain ⟨v,r,rfl,q,w⟩:=bU.mp h
  exact bD.drop n w
theorem bD.rep{ds:List D}{vs:List V}(h:bD K H ds vs):∀ n:Nat,bD K H (Pu.rep n ds) (List.replicate n vs).flatten
 | 0 => .nil
 | n+1=>by
  unfold Pu.rep
  rw [List.replicate_succ,flatten_cons,List.replicate_succ,flatten_cons]
  exact h.append (bD.rep h n)
end
def hide(A:List Addr)(H:Hp):Hp:=fun b=>if b∈A then none else H b
theorem eY{b:Addr}(h:b∈A):hide A H b=none:=if_pos h
theorem bY{b:Addr}(h:b ∉ A):hide A H b=H b:=if_neg h
theorem bG(A:List Addr)(H:Hp):bA (hide A H) H:=fun b o h=>by
 unfold hide at h
 split at h
 ·cases h
 ·exact h
theorem bA.hide{A:List Addr}{H H':Hp}(s:bA H H'):bA (hide A H) (hide A H'):=fun b o h=>by
 unfold Pu.hide at h ⊢
 split at h
 ·cases h
 ·rename_i q
  rw [if_neg q]
  exact s b o h
theorem lJ{A':List Addr}  (h:∀ a∈A',a∈A):bA (hide A H) (hide A' H):=fun b o q=>by
 by_cases hb:b∈A
 ·rw [eY hb] at q;cases q
 ·rw [bY hb] at q
  rw [bY fun z=>hb (h b z)]
  exact q
theorem xH(H:Hp):hide [] H=H:=by
 funext b
 exact bY (by simp)
theorem aBe(h:a∈A):hide A (upd H a o)=hide A H:=by
 funext b
 by_cases hb:b∈A
 ·rw [eY hb,eY hb]
 ·rw [bY hb,bY hb]
  exact bM fun z=>hb (z ▸ h)
theorem cG{p:Addr}  (h:H p=none):bA H (upd H p o):=fun b u q=>by
 rw [bM (aX q h)];exact q
def Own(A:List Addr)(H:Hp):Prop:=∀ a∈A,(H a).isSome=true
theorem Own.mono(h:Own A H)(s:bA H H'):Own A H':=fun a ha=>by
 obtain ⟨o,e⟩:=Option.isSome_iff_exists.mp (h a ha)
 rw [s a o e];rfl
theorem Own.free(h:Own A H){p:Addr}(e:H p=none):p ∉ A:=fun z=>by
 have q:=h p z
 rw [e] at q;cases q
theorem gZ{K:Frag}   {p:Addr}   (w:Own A H) (e:H p=none) (h:bD K (hide A H) ds vs):Rep K (hide A (upd H p (.lst vs))) (.lst ds) (.ref p) :=
 bZ.mpr ⟨p,vs,rfl,SqL.of (by rw [bY (w.free e)];exact bT),h.mono (bA.hide (cG e))⟩
theorem aH7{K:Frag}   {p:Addr}   (w:Own A H) (e:H p=none) (h:bD K (hide A H) ds vs):Rep K (hide A (upd H p (.tup vs))) (.tup ds) (.ref p) :=
 uN.mpr ⟨p,vs,rfl,(by rw [bY (w.free e)];exact bT),h.mono (bA.hide (cG e))⟩
def KOk(K:Frag):OK->Addr->HO->List V->Prop
 | .l,_,o,vs=>o = .lst vs
 | .d t ks,_,o,vs=>(t=false/\∃ kvs:List (Key × V),o = .dK kvs/\kvs.map (fun p=>mK p.1)=ks/\vs=kvs.map (·.2))\/(t=true/\∃ kvs:List (List Key × V),o = .dT kvs/\kvs.map (fun p=>D.tup (p.1.map mK))=ks/\vs=kvs.map (·.2))
 | .i n c ns,a,o,vs=>a=n/\∃ C dx fs,o = .ins C dx fs/\nsIn K mainGlobals (Str.ofString c)=some (some (.ref C))/\fs.map (·.1)=ns.map Str.ofString/\vs=fs.map (·.2)
theorem KOk.rep{K:Frag}  {k:OK}     (ko:KOk K k a o vs) (h:H a=some o) (r:bD K H ds vs):Rep K H (ofK k ds) (.ref a):=by
 cases k with
 | l=>have e:o = .lst vs:=ko;subst e;exact bZ.mpr ⟨a,vs,rfl,SqL.of h,r⟩
 | d t ks =>
  refine vH.mpr ⟨a,vs,rfl,?_,r⟩
  rcases ko with ⟨q0,kvs,rfl,q⟩ | ⟨q0,kvs,rfl,q⟩
  ·exact .inl ⟨q0,kvs,h,q⟩
  ·exact .inr ⟨q0,kvs,h,q⟩
 | i n c ns =>
  obtain ⟨_,C,dx,fs,rfl,q1,q2,q3⟩:=ko
  exact aI7.mpr ⟨a,C,dx,fs,vs,rfl,h,q1,q2,q3,r⟩
structure RS(K:Frag)(B A:List Addr)(H:Hp)(st:PSt)(σ:LSt):Prop where
 len:st.length=σ.length
 own:Own (A++B) H
 dis:∀ a∈A,a ∉ B
 val:∀ (i:Nat) d,st[i]?=some (some (.v d))->∃ v,σ[i]?=some (some v)/\Rep K (hide (A++B) H) d v
 lst:∀ (i:Nat) k xs,st[i]?=some (some (.o k xs))->∃ a o vs,σ[i]?=some (some (.ref a))/\a∈A/\H a=some o/\KOk K k a o vs/\bD K (hide (A++B) H) xs vs /\
  ∀ (j:Nat) k' ys,st[j]?=some (some (.o k' ys))->σ[j]?=some (some (.ref a))->j=i
theorem RS.mono{K:Frag}{B A:List Addr}{H H':Hp}{st:PSt}{σ:LSt}(r:RS K B A H st σ)(s:bA H H'):RS K B A H' st σ where
 len:=r.len
 own:=r.own.mono s
 dis:=r.dis
 val:=fun i d e=>let ⟨v,e1,q⟩:=r.val i d e;⟨v,e1,q.mono (bA.hide s)⟩
 lst:=fun i k xs e=>let ⟨a,o,vs,e1,m,h,ko,q,u⟩:=r.lst i k xs e;⟨a,o,vs,e1,m,s _ _ h,ko,q.mono (bA.hide s),u⟩
def Le(A:List Addr)(H:Hp)(A':List Addr)(H':Hp):Prop:=bA (hide A H) (hide A' H')
theorem Le.refl{A:List Addr}{H:Hp}:Le A H A H:=bA.refl _
theorem Le.of(s:bA H H'):Le A H A H':=bA.hide s
theorem Le.trans{A A1 A2:List Addr}{H H1 H2:Hp}(a:Le A H A1 H1)(b:Le A1 H1 A2 H2):Le A H A2 H2:=bA.trans a b
def tI(K:Frag)(B:List Addr)(f:Ex):TE:=fun σ H Q=>∃ A st d,RS K B A H st σ/\f st = .ok d/\∀ v H',bA H H'->Rep K (hide (A++B) H') d v->Q v H'
def jV(K:Frag)(A:List Addr)(H:Hp)(d:D)(v:V):Prop :=
 Rep K (hide A H) d v\/∃ a k o ds vs,d=ofK k ds/\v=V.ref a/\H a=some o/\KOk K k a o vs/\bD K (hide A H) ds vs
theorem jV.mono{K:Frag}{A:List Addr}{H H':Hp}{d:D}{v:V}(s:bA H H')(h:jV K A H d v):jV K A H' d v:=by
 rcases h with h | ⟨a,k,o,ds,vs,e1,e2,e3,ko,q⟩
 ·exact .inl (h.mono (bA.hide s))
 ·exact .inr ⟨a,k,o,ds,vs,e1,e2,s _ _ e3,ko,q.mono (bA.hide s)⟩
def tP(K:Frag)(B:List Addr)(f:Ex):TE:=fun σ H Q=>∃ A st d,RS K B A H st σ/\f st = .ok d/\∀ v H',bA H H'->jV K (A++B) H' d v->Q v H'
def tA(K:Frag)(B:List Addr)(f:Exs):TA:=fun σ H Q=>∃ A st ds,RS K B A H st σ/\f st = .ok ds/\∀ vs H',bA H H'->bD K (hide (A++B) H') ds vs->Q vs H'
def tT(K:Frag)(B:List Addr)(f:Ex):TT:=fun σ H Q=>∃ A st b,RS K B A H st σ/\f st = .ok (.bl b)/\∀ H',bA H H'->Q b H'
def tO(K:Frag)(B:List Addr)(f:ExO):TO:=fun σ H Q=>∃ A st o,RS K B A H st σ/\f st = .ok o/\∀ H',bA H H'->Q o H'
def bB4(K:Frag)(B A:List Addr)(H:Hp)(r:Fl)(Dn:Ends):Prop:=match r with
 | .nx st'=>∀ A' σ' H',Le A H A' H'->RS K B A' H' st' σ'->Dn.nx σ' H'
 | .bk st'=>∀ A' σ' H',Le A H A' H'->RS K B A' H' st' σ'->Dn.bk σ' H'
 | .ct st'=>∀ A' σ' H',Le A H A' H'->RS K B A' H' st' σ'->Dn.ct σ' H'
 | .rt d=>∀ A' v H',Le A H A' H'->Rep K (hide (A'++B) H') d v->Dn.rt v H'
theorem bB4.mono{K:Frag}{A1:List Addr}  {r:Fl} {Dn:Ends} (l:Le A H A1 H1) (p:bB4 K B A H r Dn):bB4 K B A1 H1 r Dn:=by
 cases r with
 | nx st=>exact fun A' σ' H' l'=>p A' σ' H' (l.trans l')
 | bk st=>exact fun A' σ' H' l'=>p A' σ' H' (l.trans l')
 | ct st=>exact fun A' σ' H' l'=>p A' σ' H' (l.trans l')
 | rt d=>exact fun A' v H' l'=>p A' v H' (l.trans l')
def tS(K:Frag)(B:List Addr)(b:Bd):TS:=fun Dn σ H=>∃ A st r,RS K B A H st σ/\b st = .ok r/\bB4 K B A H r Dn
def aV4(K:Frag)(B A:List Addr)(H:Hp)(J:It)(ds:List D):Prop:=∀ A' H',Le A H A' H'->Own (A'++B) H'->∀ (i:Nat),
 (∀ d,ds[i]?=some d->J.go i H'/\∀ x H3,J.yld i H' x H3->bA H' H3/\Rep K (hide (A'++B) H3) d x)/\(ds.length<=i->J.stop i H')
def tIt(K:Frag)(B:List Addr)(f:ItE):TI:=fun σ H R=>∃ A st ds,RS K B A H st σ/\f st = .ok ds/\∀ J H',bA H H'->aV4 K B A H' J ds->R J H'
def tG(K:Frag)(B:List Addr)(g:Tg):TG:=fun v σ H Q=>∃ A st d s1,RS K B A H st σ/\Rep K (hide (A++B) H) d v/\g d st = .ok s1/\∀ σ',RS K B A H s1 σ'->Q σ' H
section
theorem cM{t t':TE}(h:PE X e t)(m:∀ σ H Q,t' σ H Q->t σ H Q):PE X e t':=fun pins s σ H Q I q=>h pins s σ H Q I (m σ H Q q)
theorem aN9{t t':TT}(h:PT X e t)(m:∀ σ H Q,t' σ H Q->t σ H Q):PT X e t':=fun pins s σ H Q I q=>h pins s σ H Q I (m σ H Q q)
theorem aXu{t t':TT}(h:PW X e t)(m:∀ σ H Q,t' σ H Q->t σ H Q):PW X e t':=fun w pins s σ H Q I q=>h w pins s σ H Q I (m σ H Q q)
theorem aXv{t t':TA}(h:PA X es t)(m:∀ σ H Q,t' σ H Q->t σ H Q):PA X es t':=fun pos pins s σ H Q I q=>h pos pins s σ H Q I (m σ H Q q)
theorem aXw{e:Option Expr}{t t':TO}(h:PO X e t)(m:∀ σ H Q,t' σ H Q->t σ H Q):PO X e t':=fun pins s σ H Q I q=>h pins s σ H Q I (m σ H Q q)
theorem lX{st:Stmt}{t t':TS}(h:PS X st t)(m:∀ D σ H,t' D σ H->t D σ H):PS X st t':=fun pins s σ H D I q=>h pins s σ H D I (m D σ H q)
theorem aCf{st:List Stmt}{t t':TS}(h:PSs X st t)(m:∀ D σ H,t' D σ H->t D σ H):PSs X st t':=fun pins s σ H D I q=>h pins s σ H D I (m D σ H q)
theorem aXx{t t':TG}(h:PG X e t)(m:∀ v σ H Q,t' v σ H Q->t v σ H Q):PG X e t':=fun pins s σ H v u Q I r q=>h pins s σ H v u Q I r (m v σ H Q q)
theorem aXy{t t':TI}(h:L2.PI X tg e t)(m:∀ σ H R,t' σ H R->t σ H R):L2.PI X tg e t':=fun pins s σ H R I q=>h pins s σ H R I (m σ H R q)
end
section
variable   {a b:Expr} {h:Ex} 
theorem aA(i:Nat)  (hN:X.N[i]?=some x:=by rfl) (hv:Vis X.env.scope x:=by first | exact Or.inl rfl | exact Or.inr (Or.inl rfl) | exact Or.inr (Or.inr rfl)) (hd:(x==("__debug__" : Str))=false:=by decide)
  (hcd:(x==("__classdict__" : Str))=false:=by decide):PE X (.Name x pos) (tI X.K B (aC i)):=by
 refine cM (yD hN hv hd hcd) ?_
 rintro σ H Q ⟨A,st,d,rs,hd,q⟩
 unfold aC at hd
 split at hd
 ·rename_i d' e
  cases hd
  obtain ⟨v,e1,r⟩:=rs.val i _ e
  exact ⟨v,e1,q v H (bA.refl _) r⟩
 ·cases hd
end
end Pu
variable{σ τ:Pu.LSt}
namespace Pu
open PySem PySem.Spec PyProof.Rows L2
section
variable{X:Cx}{B:List Addr}{a b e:Expr}{f g:Ex}{pos:Pos}
theorem i_c(h:PE X e (tC v))(r:∀ H,Rep X.K H d v):PE X e (tI X.K B (eC d)):=cM h (by
 rintro σ H Q ⟨A,st,d',rs,hd,q⟩
 cases hd
 exact q v H (bA.refl _) (r _))
theorem aL{i:Int}  : PE X (.Constant (.int i) j pos) (tI X.K B (eC (.int i))):=i_c bDl fun _=>aQ.mpr rfl
theorem xJ{q:Bool}  : PE X (.Constant (.bool q) j pos) (tI X.K B (eC (.bl q))):=i_c bHd fun _=>bF.mpr rfl
theorem aLv:PE X (.Constant .none j pos) (tI X.K B (eC .non)):=i_c bDm fun _=>cJ.mpr rfl
theorem rM(s:List Nat)(hx:x=⟨s.toArray⟩:=by first | rfl | decide | decide +kernel):PE X (.Constant (.str x) j pos) (tI X.K B (eC (.str s))):=i_c bDn fun _=>aZ.mpr (by rw [hx])
theorem aJb{y:Str}{t:Tok}(s:List Nat)(hm:X.mg x=some (.str y t))(hg:Gl X x:=by rfl)(hy:y=⟨s.toArray⟩:=by first | rfl | decide | decide +kernel)(hd:(x==("__debug__" : Str))=false:=by decide):PE X (.Name x pos) (tI X.K B (eC (.str s))) :=
 i_c (aE8 (v := .str y) hg hm ⟨t,rfl⟩ hd) fun _=>aZ.mpr (by rw [hy])
theorem aBf{i:Int}{t:Tok}(hm:X.mg x=some (.int i t))(hg:Gl X x:=by rfl)(hd:(x==("__debug__" : Str))=false:=by decide):PE X (.Name x pos) (tI X.K B (eC (.int i))) :=
 i_c (aE8 (v := .int i) hg hm ⟨t,rfl⟩ hd) fun _=>aQ.mpr rfl
theorem toP(h:PE X e (tI X.K B f)):PE X e (tP X.K B f):=cM h (by
 rintro σ H Q ⟨A,st,d,rs,hd,q⟩
 exact ⟨A,st,d,rs,hd,fun v H' s r=>q v H' s (.inl r)⟩)
theorem gC(i:Nat)  (hN:X.N[i]?=some x:=by rfl) (hv:Vis X.env.scope x:=by first | exact Or.inl rfl | exact Or.inr (Or.inl rfl) | exact Or.inr (Or.inr rfl)) (hd:(x==("__debug__" : Str))=false:=by decide)
  (hcd:(x==("__classdict__" : Str))=false:=by decide):PE X (.Name x pos) (tP X.K B (fC i)):=by
 refine cM (yD hN hv hd hcd) ?_
 rintro σ H Q ⟨A,st,d,rs,hd,q⟩
 unfold fC at hd
 split at hd
 ·rename_i d' e
  cases hd
  obtain ⟨v,e1,r⟩:=rs.val i _ e
  exact ⟨v,e1,q v H (bA.refl _) (.inl r)⟩
 ·rename_i k xs e
  cases hd
  obtain ⟨a,o,vs,e1,m,h,ko,r,_⟩:=rs.lst i _ _ e
  exact ⟨_,e1,q _ H (bA.refl _) (.inr ⟨a,_,o,xs,vs,rfl,rfl,h,ko,r⟩)⟩
 ·cases hd
section
variable{K:Frag}   
theorem jV.non(h:jV K A H .non v):v=V.non:=by
 rcases h with h | ⟨_,k,_,_,_,e,_⟩
 ·exact cJ.mp h
 ·cases k<;>cases e
theorem jV.bl{q:Bool}(h:jV K A H (.bl q) v):v=V.bl q:=by
 rcases h with h | ⟨_,k,_,_,_,e,_⟩
 ·exact bF.mp h
 ·cases k<;>cases e
theorem jV.int{i:Int}(h:jV K A H (.int i) v):v=V.int i:=by
 rcases h with h | ⟨_,k,_,_,_,e,_⟩
 ·exact aQ.mp h
 ·cases k<;>cases e
theorem jV.str{s:List Nat}(h:jV K A H (.str s) v):v=V.str ⟨s.toArray⟩:=by
 rcases h with h | ⟨_,k,_,_,_,e,_⟩
 ·exact aZ.mp h
 ·cases k<;>cases e
theorem jV.tup{ds:List D}(h:jV K A H (.tup ds) v):∃ a vs,v=V.ref a/\SqT K H a vs/\bD K (hide A H) ds vs:=by
 rcases h with h | ⟨_,k,_,_,_,e,_⟩
 ·obtain ⟨a,vs,e,q,r⟩:=bL h
  exact ⟨a,vs,e,aBd (bG _ _) q,r⟩
 ·cases k<;>cases e
theorem jV.lst{ds:List D}(h:jV K A H (.lst ds) v):∃ a vs,v=V.ref a/\SqL K H a vs/\bD K (hide A H) ds vs:=by
 rcases h with h | ⟨a,k,o,ds',vs,e,e2,h,ko,r⟩
 ·obtain ⟨a,vs,e,q,r⟩:=bZ.mp h
  exact ⟨a,vs,e,(bG _ _).seq q,r⟩
 ·cases k<;>cases e
  have e3:o = .lst vs:=ko
  subst e3
  exact ⟨a,vs,e2,SqL.of h,r⟩
end
def aBg(K:Frag)(r:R2)(o:Op2):Prop:=∀ (A:List Addr) (H:Hp) (x y d:D) (v u:V) (Q:VK),Own A H->jV K A H x v->jV K A H y u->o x y = .ok d ->
 (∀ w H',bA H H'->Rep K (hide A H') d w->Q w H')->r v u H Q
theorem aNa{r:R2}{o:Op2}(sem:aBg X.K r o)   {Q:VK} (h:tI X.K B (e2 o f g) σ H Q):tOp r (tP X.K B f) (tP X.K B g) σ H Q:=by
 obtain ⟨A,st,d,rs,hd,q⟩:=h
 obtain ⟨x,hx,h2⟩:=R.ok_of hd
 obtain ⟨y,hy,h3⟩:=R.ok_of h2
 refine ⟨A,st,x,rs,hx,fun v H1 s1 r1=>⟨A,st,y,rs.mono s1,hy,fun u H2 s2 r2=>?_⟩⟩
 exact sem (A++B) H2 x y d v u Q (rs.own.mono (s1.trans s2)) (r1.mono s2) r2 h3 fun w H' s' r'=>q w H' (s1.trans (s2.trans s')) r'
theorem aJc{op:Operator}{r:R2}{o:Op2}(ho:OpR X (binaryOp op) r)(sem:aBg X.K r o)(ha:PE X a (tP X.K B f))(hb:PE X b (tP X.K B g)):PE X (.BinOp a op b pos) (tI X.K B (e2 o f g)) :=
 cM (bCk ho ha hb) fun _ _ _ h=>aNa sem h
theorem kZ{r:R2}{o:Op2}(ho:OpR X (compareOp op) r)(sem:aBg X.K r o)(ha:PE X a (tP X.K B f))(hb:PE X b (tP X.K B g))(hm:behindInMarks op b=false):PE X (.Compare a [op] [b] pos) (tI X.K B (e2 o f g)) :=
 cM (aZt ho ha hb hm) fun _ _ _ h=>aNa sem h
theorem bFu{f:Ex}   {Q:Bool->Hp->Prop} (h:tT X.K B f σ H Q):tI X.K B f σ H fun x H'=>∃ k,x = .bl k/\Q k H':=by
 obtain ⟨A,st,k,rs,hk,q⟩:=h
 exact ⟨A,st,.bl k,rs,hk,fun v H' s r=>⟨k,bF.mp r,q H' s⟩⟩
theorem cV{r:R2}{o:Op2}(ho:OpR X (compareOp op) r)(sem:aBg X.K r o)(ha:PE X a (tP X.K B f))(hb:PE X b (tP X.K B g))(hm:behindInMarks op b=false):PT X (.Compare a [op] [b] pos) (tT X.K B (e2 o f g)) :=
 aN9 (aS1 ho ha hb hm) fun _ _ _ h=>aNa sem (bFu h)
theorem fL{f:Ex}(h:PE X e (tI X.K B f))(he:∀ whole,isTrue e X.env whole=(do let v <- whole;standAt e.pos;holding [v] (truthy v)):=by intro _;rfl):PT X e (tT X.K B f) :=
 aN9 (bDo h he) fun _ _ _ q=>bFu q
theorem yS{K:Frag}{g:Int->Int->D}  {o:Op2} (hr:∀ H i j,Rep K H (g i j) (gv i j)) (ho:∀ x y d,o x y = .ok d->∃ i j,x = .int i/\y = .int j/\d=g i j):aBg K (rI0 gv) o:=by
 intro A H x y d v u Q w rx ry e q
 obtain ⟨i,j,rfl,rfl,rfl⟩:=ho x y d e
 exact ⟨i,j,rx.int,ry.int,q _ H (bA.refl _) (hr _ _ _)⟩
theorem aJd{K:Frag}{C:Int->Int->Prop}{g:Int->Int->D}  {o:Op2} (hr:∀ H i j,Rep K H (g i j) (gv i j)) (ho:∀ x y d,o x y = .ok d->∃ i j,x = .int i/\y = .int j/\C i j/\d=g i j):aBg K (rI C gv) o:=by
 intro A H x y d v u Q w rx ry e q
 obtain ⟨i,j,rfl,rfl,c,rfl⟩:=ho x y d e
 exact ⟨i,j,rx.int,ry.int,c,q _ H (bA.refl _) (hr _ _ _)⟩
theorem aPh(ha:PE X a (tP X.K B f))(hb:PE X b (tP X.K B g)):PE X (.BinOp a .Sub b pos) (tI X.K B (e2 aKi f g)) :=
 aJc bE2 (yS (g:=fun i j => .int (i - j)) (fun _ _ _=>aQ.mpr rfl) fun x y d e=>by
  unfold aKi at e
  split at e
  ·cases e;exact ⟨_,_,rfl,rfl,rfl⟩
  ·cases e) ha hb
theorem aBh(ha:PE X a (tP X.K B f))(hb:PE X b (tP X.K B g)):PE X (.BinOp a .FloorDiv b pos) (tI X.K B (e2 nW f g)) :=
 aJc aZr (aJd (g:=fun i j => .int (i / j)) (fun _ _ _=>aQ.mpr rfl) fun x y d e=>by
  unfold nW at e
  split at e
  ·obtain ⟨c,e⟩:=aK e;cases e;exact ⟨_,_,rfl,rfl,c,rfl⟩
  ·cases e) ha hb
theorem rN(ha:PE X a (tP X.K B f))(hb:PE X b (tP X.K B g)):PE X (.BinOp a .Mod b pos) (tI X.K B (e2 pL f g)) :=
 aJc bE3 (aJd (g:=fun i j => .int (i % j)) (fun _ _ _=>aQ.mpr rfl) fun x y d e=>by
  unfold pL at e
  split at e
  ·obtain ⟨c,e⟩:=aK e;cases e;exact ⟨_,_,rfl,rfl,c,rfl⟩
  ·cases e) ha hb
theorem bJu(ha:PE X a (tP X.K B f))(hb:PE X b (tP X.K B g)):PE X (.BinOp a .Pow b pos) (tI X.K B (e2 aWi f g)) :=
 aJc bE4 (aJd (g:=fun i j => .int (i ^ j.toNat)) (fun _ _ _=>aQ.mpr rfl) fun x y d e=>by
  unfold aWi at e
  split at e
  ·obtain ⟨c,e⟩:=aK e;cases e;exact ⟨_,_,rfl,rfl,c,rfl⟩
  ·cases e) ha hb
def bJv(K:Frag):R2:=fun x y H Q=>∃ l b xs zs,x = .ref l/\y = .ref b/\SqL K H l xs/\SqL K H b zs/\xs.length+zs.length<=sizeLine/\∀ p,H p=none->Q (.ref p) (upd H p (.lst (xs++zs)))
theorem bB5:OpR X (binaryOp .Add) (bJv X.K):=by
 intro pins s σ H x y v u Q I rx ry h
 obtain ⟨l,b,xs,zs,rfl,rfl,hH,hB,hz,q⟩:=h
 cases rx
 cases ry
 obtain ⟨its,r,⟨⟨cls,dd,data,sl⟩,n,ho,hc,_,hd⟩,z⟩:=I.list hH
 obtain ⟨its2,r2,⟨⟨cls2,dd2,data2,sl2⟩,n2,ho2,hc2,_,hd2⟩,z2⟩:=I.list hB
 simp only at hc hd hc2 hd2
 subst hc hd hc2 hd2
 have l1:=r.length
 have l2:=r2.length
 refine concat_meets ⟨_,ho,rfl⟩ ⟨_,ho2,rfl⟩ noFill_list_add seq_list_add PySem.F.slot_list_add PySem.F.entry_list_add (PySem.F.args_list_add_2 _ _) (list_addW l b its.toArray its2.toArray n n2 dd dd2 sl sl2 (by simp only [List.size_toArray];omega)) ⟨ho,ho2,?_⟩
 have ea:its.toArray++its2.toArray=(its++its2).toArray:=by simp
 rw [ea]
 exact ⟨.ref _,_,I.lnew (t':=s.toks) (r.append r2) (by rw [length_append];omega),rfl,q _ I.fresh⟩
theorem bB6(x y:List Nat):(⟨x.toArray⟩:Str)++(⟨y.toArray⟩:Str)=⟨(x++y).toArray⟩:=by
 show Str.append _ _=_
 unfold Str.append
 simp
theorem str_len(x:List Nat):(⟨x.toArray⟩:Str).length=x.length:=by simp [Str.length]
theorem lim(h:n<=big):n<=sizeLine:=Nat.le_trans (by rw [jW] at h;exact h:n<=10000000) (by decide)
theorem iB(ha:PE X a (tP X.K B f))(hb:PE X b (tP X.K B g)):PE X (.BinOp a .Add b pos) (tI X.K B (e2 fJ f g)):=by
 refine aJc (bE1.or (aQu.or bB5)) ?_ ha hb
 intro A H x y d v u Q w rx ry e q
 cases x<;>cases y<;>first | (cases e;done) | skip
 ·cases e
  exact .inl ⟨_,_,rx.int,ry.int,q _ H (bA.refl _) (aQ.mpr rfl)⟩
 ·obtain ⟨c,e⟩:=aK e
  cases e
  exact .inr (.inl ⟨_,_,rx.str,ry.str,by rw [str_len,str_len];exact lim c,q _ H (bA.refl _) (aZ.mpr (by rw [bB6]))⟩)
 ·obtain ⟨c,e⟩:=aK e
  cases e
  obtain ⟨l,xs,e1,h1,r1⟩:=rx.lst
  obtain ⟨m,ys,e2,h2,r2⟩:=ry.lst
  have l1:=r1.length
  have l2:=r2.length
  refine .inr (.inr ⟨l,m,xs,ys,e1,e2,h1,h2,by rw [l1,l2];exact lim c,fun p hp=>q _ _ (cG hp) ?_⟩)
  exact gZ w hp (r1.append r2)
theorem aRf{K:Frag}:aBg K (rI0 fun i j => .bl (decide (i<=j))) dLe:=yS (g:=fun i j => .bl (decide (i<=j))) (fun _ _ _=>bF.mpr rfl) fun x y d e=>by
 unfold dLe at e
 split at e
 ·cases e;exact ⟨_,_,rfl,rfl,rfl⟩
 ·cases e
theorem aGc{K:Frag}:aBg K (rI0 fun i j => .bl (decide (j < i))) dGt:=yS (g:=fun i j => .bl (decide (j < i))) (fun _ _ _=>bF.mpr rfl) fun x y d e=>by
 unfold dGt at e
 split at e
 ·cases e;exact ⟨_,_,rfl,rfl,rfl⟩
 ·cases e
theorem aNb{K:Frag}:aBg K (rI0 fun i j => .bl (decide (j<=i))) dGe:=yS (g:=fun i j => .bl (decide (j<=i))) (fun _ _ _=>bF.mpr rfl) fun x y d e=>by
 unfold dGe at e
 split at e
 ·cases e;exact ⟨_,_,rfl,rfl,rfl⟩
 ·cases e
theorem jV.ref{K:Frag}{A:List Addr}{H:Hp}{d:D}{v:V}(h:jV K A H d v)(h1:d ≠ .non)(h2:∀ b,d ≠ .bl b)(h3:∀ i,d ≠ .int i)(h4:∀ s,d ≠ .str s):∃ a,v=V.ref a:=by
 rcases h with h | ⟨a,_,_,_,_,_,e,_⟩
 ·cases d with
  | non=>exact (h1 rfl).elim
  | bl b=>exact (h2 b rfl).elim
  | int i=>exact (h3 i rfl).elim
  | str s=>exact (h4 s rfl).elim
  | tup _=>obtain ⟨a,_,e,_⟩:=bL h;exact ⟨a,e⟩
  | lst _=>obtain ⟨a,_,e,_⟩:=bZ.mp h;exact ⟨a,e⟩
  | dct _ _ _=>obtain ⟨a,_,e,_⟩:=vH.mp h;exact ⟨a,e⟩
  | ins _ _ _=>obtain ⟨a,_,_,_,_,e,_⟩:=aI7.mp h;exact ⟨a,e⟩
  | exn _ _ _=>obtain ⟨a,_,_,e,_⟩:=bB3.mp h;exact ⟨a,e⟩
  | fn _=>obtain ⟨a,e,_⟩:=aRe.mp h;exact ⟨a,e⟩
 ·exact ⟨a,e⟩
theorem aTf{K:Frag}     (h:jV K A H d v):decide (v=V.non)=isN d:=by
 cases d with
 | non=>rw [h.non];rfl
 | bl _=>rw [h.bl];rfl
 | int _=>rw [h.int];rfl
 | str _=>rw [h.str];rfl
 | tup _=>obtain ⟨a,vs,e,_⟩:=h.tup;rw [e];rfl
 | lst _=>obtain ⟨a,vs,e,_⟩:=h.lst;rw [e];rfl
 | dct _ _ _=>obtain ⟨a,e⟩:=h.ref (by intro z;cases z) (by intro _ z;cases z) (by intro _ z;cases z) (by intro _ z;cases z);rw [e];rfl
 | ins _ _ _=>obtain ⟨a,e⟩:=h.ref (by intro z;cases z) (by intro _ z;cases z) (by intro _ z;cases z) (by intro _ z;cases z);rw [e];rfl
 | exn _ _ _=>obtain ⟨a,e⟩:=h.ref (by intro z;cases z) (by intro _ z;cases z) (by intro _ z;cases z) (by intro _ z;cases z);rw [e];rfl
 | fn _=>obtain ⟨a,e⟩:=h.ref (by intro z;cases z) (by intro _ z;cases z) (by intro _ z;cases z) (by intro _ z;cases z);rw [e];rfl
theorem aXz(n:Nat)(i:Int):L2.ixN n i=Pu.ixN n i:=rfl
theorem bD.atI{K:Frag}{H:Hp}{ds:List D}{vs:List V}{i:Int}{d:D}(r:bD K H ds vs)(e:Pu.atI ds i=some d):∃ v,L2.atI vs i=some v/\Rep K H d v:=by
 unfold Pu.atI at e
 unfold L2.atI
 rw [r.length,aXz]
 cases h:Pu.ixN ds.length i with
 | none=>rw [h] at e;cases e
 | some j =>
  rw [h] at e
  exact r.get e
theorem aBi{o:Option α}{a:α}(h:ofO o = .ok a):o=some a:=by
 cases o with
 | none=>cases h
 | some b=>cases h;rfl
theorem bFv{K:Frag}{x:D}(hd:bI3 x=false)(A:List Addr)(H:Hp)(x' y d:D)(v u:V)(Q:VK)(w:Own A H)(rx:jV K A H x v)(ry:jV K A H y u)(e:dIx x y = .ok d)(q:∀ w H',bA H H'->Rep K (hide A H') d w->Q w H'):rIx K v u H Q:=by
 cases x<;>first | (cases hd;done) | skip
 all_goals cases y
 all_goals first | (cases e;done) | skip
 ·rename_i s i
  obtain ⟨hz,e⟩:=aK e
  have e:=aBi e
  cases h:Pu.atI s i with
  | none=>rw [h] at e;cases e
  | some c =>
   rw [h] at e
   cases e
   refine .inr (.inr ⟨_,i,c,rx.str,ry.int,by rw [str_len];exact lim hz,?_,q _ H (bA.refl _) (aZ.mpr rfl)⟩)
   show L2.atI s.toArray.toList i=some c
   rw [List.toList_toArray]
   exact h
 ·rename_i ds i
  have h:=aBi (show ofO (Pu.atI ds i) = .ok d from e)
  obtain ⟨l,xs,e1,h1,r1⟩:=rx.tup
  obtain ⟨z,h2,r2⟩:=r1.atI h
  exact .inr (.inl ⟨l,xs,i,z,e1,ry.int,h1,h2,q _ H (bA.refl _) r2⟩)
 ·rename_i ds i
  have h:=aBi (show ofO (Pu.atI ds i) = .ok d from e)
  obtain ⟨l,xs,e1,h1,r1⟩:=rx.lst
  obtain ⟨z,h2,r2⟩:=r1.atI h
  exact .inl ⟨l,xs,i,z,e1,ry.int,h1,h2,q _ H (bA.refl _) r2⟩
theorem aDu(h:PE X a (tI X.K B f)):PE X (.BoolOp .And [a] pos) (tI X.K B f):=aW1 h
theorem bJw(h:PE X a (tI X.K B f)):PE X (.BoolOp .Or [a] pos) (tI X.K B f):=aW1 h
theorem aD2{rest:List Expr}(ha:PE X a (tI X.K B f))(hb:PE X (.BoolOp .And (b :: rest) pos) (tI X.K B g)):PE X (.BoolOp .And (a :: b :: rest) pos) (tI X.K B (aDl f g)):=by
 refine cM (bDs ha hb) ?_
 rintro σ H Q ⟨A,st,d,rs,hd,q⟩
 obtain ⟨x,hx,h2⟩:=R.ok_of hd
 obtain ⟨k,rfl,h3⟩:=vQ h2
 refine ⟨A,st,_,rs,hx,fun v H1 s1 r1=>⟨k,bF.mp r1,?_⟩⟩
 cases k with
 | true=>exact ⟨A,st,d,rs.mono s1,h3,fun w H' s' r'=>q w H' (s1.trans s') r'⟩
 | false=>cases h3;exact q _ H1 s1 (bF.mpr rfl)
theorem bMb{rest:List Expr}(ha:PE X a (tI X.K B f))(hb:PE X (.BoolOp .Or (b :: rest) pos) (tI X.K B g)):PE X (.BoolOp .Or (a :: b :: rest) pos) (tI X.K B (eOr f g)):=by
 refine cM (bHh ha hb) ?_
 rintro σ H Q ⟨A,st,d,rs,hd,q⟩
 obtain ⟨x,hx,h2⟩:=R.ok_of hd
 obtain ⟨k,rfl,h3⟩:=vQ h2
 refine ⟨A,st,_,rs,hx,fun v H1 s1 r1=>⟨k,bF.mp r1,?_⟩⟩
 cases k with
 | true=>cases h3;exact q _ H1 s1 (bF.mpr rfl)
 | false=>exact ⟨A,st,d,rs.mono s1,h3,fun w H' s' r'=>q w H' (s1.trans s') r'⟩
theorem bDb(ha:PE X a (tI X.K B f)):PE X (.UnaryOp .Not a pos) (tI X.K B (rC f)):=by
 refine cM (bDt ha) ?_
 rintro σ H Q ⟨A,st,d,rs,hd,q⟩
 obtain ⟨x,hx,h2⟩:=R.ok_of hd
 obtain ⟨k,rfl,h3⟩:=vQ h2
 cases h3
 exact ⟨A,st,_,rs,hx,fun v H1 s1 r1=>⟨k,bF.mp r1,q _ H1 s1 (bF.mpr rfl)⟩⟩
theorem aY0(h:PT X a (tT X.K B f)):PW X (.BoolOp .And [a] pos) (tT X.K B f):=aZl h
theorem aLw(h:PT X a (tT X.K B f)):PW X (.BoolOp .Or [a] pos) (tT X.K B f):=bDp h
theorem bDc{rest:List Expr}(ha:PT X a (tT X.K B f))(hb:PW X (.BoolOp .And (b :: rest) pos) (tT X.K B g)):PW X (.BoolOp .And (a :: b :: rest) pos) (tT X.K B (aDl f g)):=by
 refine aXu (bDq ha hb) ?_
 rintro σ H Q ⟨A,st,d,rs,hd,q⟩
 obtain ⟨x,hx,h2⟩:=R.ok_of hd
 obtain ⟨k,rfl,h3⟩:=vQ h2
 refine ⟨A,st,k,rs,hx,fun H1 s1=>?_⟩
 cases k with
 | true=>exact ⟨A,st,d,rs.mono s1,h3,fun H' s'=>q H' (s1.trans s')⟩
 | false=>cases h3;exact q H1 s1
theorem aRg{rest:List Expr}(ha:PT X a (tT X.K B f))(hb:PW X (.BoolOp .Or (b :: rest) pos) (tT X.K B g)):PW X (.BoolOp .Or (a :: b :: rest) pos) (tT X.K B (eOr f g)):=by
 refine aXu (bHe ha hb) ?_
 rintro σ H Q ⟨A,st,d,rs,hd,q⟩
 obtain ⟨x,hx,h2⟩:=R.ok_of hd
 obtain ⟨k,rfl,h3⟩:=vQ h2
 refine ⟨A,st,k,rs,hx,fun H1 s1=>?_⟩
 cases k with
 | true=>cases h3;exact q H1 s1
 | false=>exact ⟨A,st,d,rs.mono s1,h3,fun H' s'=>q H' (s1.trans s')⟩
theorem nO(ha:PT X a (tT X.K B f)):PT X (.UnaryOp .Not a pos) (tT X.K B (rC f)):=by
 refine aN9 (bDr ha) ?_
 rintro σ H Q ⟨A,st,d,rs,hd,q⟩
 obtain ⟨x,hx,h2⟩:=R.ok_of hd
 obtain ⟨k,rfl,h3⟩:=vQ h2
 cases h3
 exact ⟨A,st,k,rs,hx,fun H1 s1=>q H1 s1⟩
theorem bDd{c:Expr}{t:Ex}(hc:PT X c (tT X.K B t))(ha:PE X a (tI X.K B f))(hb:PE X b (tI X.K B g)):PE X (.IfExp c a b pos) (tI X.K B (eIf t f g)):=by
 refine cM (aW2 hc ha hb) ?_
 rintro σ H Q ⟨A,st,d,rs,hd,q⟩
 obtain ⟨x,hx,h2⟩:=R.ok_of hd
 obtain ⟨k,rfl,h3⟩:=vQ h2
 refine ⟨A,st,k,rs,hx,fun H1 s1=>?_⟩
 cases k with
 | true=>exact ⟨A,st,d,rs.mono s1,h3,fun w H' s' r'=>q w H' (s1.trans s') r'⟩
 | false=>exact ⟨A,st,d,rs.mono s1,h3,fun w H' s' r'=>q w H' (s1.trans s') r'⟩
theorem aJ:PA X [] (tA X.K B aN):=aXv iJ (by
 rintro σ H Q ⟨A,st,d,rs,hd,q⟩
 cases hd
 exact q [] H (bA.refl _) .nil)
theorem aB(ha:PE X e (tI X.K B f))(hr:PA X es (tA X.K B r))(hs:starEach (e :: es) X.env=(false,eval e X.env) :: starEach es X.env:=by rfl):PA X (e :: es) (tA X.K B (aD f r)):=by
 refine aXv (dH ha hr hs) ?_
 rintro σ H Q ⟨A,st,ds,rs,hd,q⟩
 obtain ⟨x,hx,h2⟩:=R.ok_of hd
 obtain ⟨xs,hxs,h3⟩:=R.ok_of h2
 cases h3
 refine ⟨A,st,x,rs,hx,fun v H1 s1 r1=>⟨A,st,xs,rs.mono s1,hxs,fun vs H2 s2 r2=>?_⟩⟩
 exact q _ H2 (s1.trans s2) (.cons (r1.mono (bA.hide s2)) r2)
theorem aBj(h:PA X es (tA X.K B r)):PE X (.Tuple es x1 pos) (tI X.K B (aAp r)):=by
 refine cM (bEd h) ?_
 rintro σ H Q ⟨A,st,d,rs,hd,q⟩
 obtain ⟨xs,hx,h2⟩:=R.ok_of hd
 obtain ⟨c,h3⟩:=aK h2
 cases h3
 refine ⟨A,st,xs,rs,hx,fun vs H1 s1 r1=>⟨by rw [r1.length];exact lim c,fun p hp=>q _ _ (s1.trans (cG hp)) ?_⟩⟩
 exact aH7 (rs.own.mono s1) hp r1
theorem aAa(h:PA X es (tA X.K B r)):PE X (.List es pos) (tI X.K B (pG r)):=by
 refine cM (aQz h) ?_
 rintro σ H Q ⟨A,st,d,rs,hd,q⟩
 obtain ⟨xs,hx,h2⟩:=R.ok_of hd
 obtain ⟨c,h3⟩:=aK h2
 cases h3
 refine ⟨A,st,xs,rs,hx,fun vs H1 s1 r1=>⟨by rw [r1.length];exact lim c,fun p hp=>q _ _ (s1.trans (cG hp)) ?_⟩⟩
 exact gZ (rs.own.mono s1) hp r1
def spI(K:Frag)(np:Nat)(p:List D->R D):Sp:=fun vs H Q _=>∃ A ds d,Own A H/\bD K (hide A H) ds vs/\ds.length=np/\p ds = .ok d/\∀ v H',bA H H'->Rep K (hide A H') d v->Q v H'
theorem bFw{k:Nat}          (F:FnOk X.prog X.w X.K X.mg X.base CX0 k fa fd ps (spI X.K np p)) (hr:Room k X.A) (hm:X.mg x=some (.ref fa))
  (hk:keepIn X.K (.ref fa)=true) (hb:Binds X.K fd ps []) (hl:∀ ds d,p ds = .ok d->ds.length=np) (ha:PA X (e :: es) (tA X.K B r)) (hg:Gl X x:=by rfl) (hdb:(x==("__debug__" : Str))=false:=by decide)
  (he:starEach (e :: es) X.env=(false,eval e X.env) :: starEach es X.env:=by rfl) (hpl:(backTo pos (starEach es X.env)).any (·.1)=false:=by rfl) :
  PE X (.Call (.Name x p0) (e :: es) [] pos) (tI X.K B (aP p r)):=by
 refine cM (aMm F hr hg hm hk hb .nil aEa ha hdb he hpl) ?_
 rintro σ H Q ⟨A,st,d,rs,hd,q⟩
 obtain ⟨xs,hx,h2⟩:=R.ok_of hd
 refine ⟨A,st,xs,rs,hx,fun vs H1 s1 r1=>?_⟩
 show spI X.K np p (vs++[]) H1 Q E0
 rw [append_nil]
 exact ⟨A++B,xs,d,rs.own.mono s1,r1,hl _ _ h2,h2,fun w H' s' r'=>q w H' (s1.trans s') r'⟩
end
end Pu
namespace Pu
open PySem PySem.Spec PyProof.Rows L2
theorem aNc(a b:Key):eqK (mK a) (mK b)=decide (a=b):=by
 cases a with
 | inl i =>
  cases b with
  | inl j=>unfold mK eqK;rw [aVw]
  | inr y=>unfold mK eqK;rw [aVy]
 | inr x =>
  cases b with
  | inl j=>unfold mK eqK;rw [aVz]
  | inr y =>
   unfold mK eqK
   rw [aVx,Bool.eq_iff_iff,beq_iff_eq,decide_eq_true_eq]
   constructor
   ·intro h
    cases x;cases y
    congr 1
    exact ext' h
   ·rintro rfl;rfl
theorem aPi:∀ (a b:List Key),aR5 (a.map mK) (b.map mK)=decide (a=b)
 | [],[]=>by unfold aR5;simp
 | [],_ :: _=>by unfold aR5;simp
 | _ :: _,[]=>by unfold aR5;simp
 | x :: a,y :: b=>by
  have ih:=aPi a b
  rw [map_cons,map_cons]
  unfold aR5
  rw [aNc,ih,Bool.eq_iff_iff,and_eq_true,decide_eq_true_eq,decide_eq_true_eq,decide_eq_true_eq,List.cons.injEq]
theorem aPj(a b:List Key):eqK (.tup (a.map mK)) (.tup (b.map mK))=decide (a=b):=by
 rw [<-aPi]
 conv=>lhs;unfold eqK
section
variable{κ:Type}[DecidableEq κ]{E:κ->D}(hE:∀ a b,eqK (E a) (E b)=decide (a=b)){K:Frag}{H:Hp}
include hE
theorem aNd(k:κ):∀ (kvs:List (κ × V)) (ds:List D),bD K H ds (kvs.map (·.2))->(∀ d,aEc (kvs.map fun p=>E p.1) ds (E k)=some d->∃ v,aEb kvs k=some v/\Rep K H d v)/\(aEb kvs k).isSome=vP (kvs.map fun p=>E p.1) (E k)
 | [],ds,r=>⟨fun d h=>by cases ds<;>simp [aEc] at h,rfl⟩
 | (a,v) :: kvs,ds,r=>by
  cases ds with
  | nil=>have:=dG.mp r;simp at this
  | cons d ds =>
   obtain ⟨v',r',e,h1,h2⟩:=bU.mp r
   rw [map_cons] at e
   injection e with e1 e2
   subst e1 e2
   obtain ⟨i1,i2⟩:=aNd k kvs ds h2
   by_cases ha:a=k
   ·have hk:eqK (E a) (E k)=true:=by rw [hE,decide_eq_true_eq];exact ha
    refine ⟨fun d' h=>?_,?_⟩
    ·unfold aEc at h
     rw [map_cons,zip_cons_cons,List.find?_cons_of_pos (by simpa using hk)] at h
     cases h
     exact ⟨v,aAm ha,h1⟩
    ·rw [aAm ha]
     unfold vP
     rw [map_cons,any_cons,hk]
     rfl
   ·have hk:eqK (E a) (E k)=false:=by rw [hE,decide_eq_false_iff_not];exact ha
    refine ⟨fun d' h=>?_,?_⟩
    ·rw [aAn ha]
     refine i1 d' ?_
     unfold aEc at h ⊢
     rw [map_cons,zip_cons_cons,List.find?_cons_of_neg (by simpa using hk)] at h
     exact h
    ·rw [aAn ha,i2]
     unfold vP
     rw [map_cons,any_cons,hk]
     rfl
theorem aY1(k:κ)(kvs:List (κ × V)):(kvs.any fun kv=>decide (kv.1=k))=vP (kvs.map fun p=>E p.1) (E k):=by
 unfold vP
 rw [List.any_map]
 congr 1
 funext p
 simp [hE]
theorem aTg(k:κ)(v:V)(d:D)(hd:Rep K H d v)(kvs:List (κ × V))(ds:List D)(r:bD K H ds (kvs.map (·.2))) :
  (putK kvs k v).map (fun p=>E p.1)=aEd (kvs.map fun p=>E p.1) (E k)/\bD K H (aIo (kvs.map fun p=>E p.1) ds (E k) d) ((putK kvs k v).map (·.2)):=by
 unfold putK aEd aIo
 rw [aY1 hE]
 by_cases hh:vP (kvs.map fun p=>E p.1) (E k)=true
 ·rw [if_pos hh,if_pos hh,if_pos hh]
  constructor
  ·rw [List.map_map]
   refine List.map_congr_left fun p _=>?_
   simp only [Function.comp_apply]
   split<;>rfl
  ·clear hh
   induction kvs generalizing ds with
   | nil=>have:=r.length;cases ds with | nil=>exact .nil | cons _ _=>simp at this
   | cons p kvs ih =>
    obtain ⟨a,w⟩:=p
    cases ds with
    | nil=>have:=dG.mp r;simp at this
    | cons d0 ds =>
     obtain ⟨v',r',e,h1,h2⟩:=bU.mp r
     rw [map_cons] at e
     injection e with e1 e2
     subst e1 e2
     rw [map_cons,map_cons,map_cons,zip_cons_cons,map_cons]
     refine .cons ?_ (ih ds h2)
     by_cases ha:a=k
     ·have hk:eqK (E a) (E k)=true:=by rw [hE,decide_eq_true_eq];exact ha
      rw [if_pos hk,if_pos ha]
      exact hd
     ·have hk:eqK (E a) (E k)=false:=by rw [hE,decide_eq_false_iff_not];exact ha
      rw [if_neg (by rw [hk];exact Bool.false_ne_true),if_neg ha]
      exact h1
 ·rw [if_neg hh,if_neg hh,if_neg hh]
  refine ⟨by rw [List.map_append];rfl,?_⟩
  rw [List.map_append]
  exact r.append (.cons hd .nil)
end
theorem aDv{K:Frag}    (r:Rep K H d v) (h:keyOk false d=true):∃ k:Key,d=mK k/\v=kV k:=by
 cases d<;>first | (cases h;done) | skip
 ·exact ⟨.inl _,rfl,aQ.mp r⟩
 ·exact ⟨.inr _,rfl,aZ.mp r⟩
theorem aFa{K:Frag}{H:Hp}:∀ {ds:List D} {vs:List V},bD K H ds vs->ds.all aOj=true->∃ ks:List Key,ds=ks.map mK/\vs=ks.map kV
 | [],vs,r,_=>⟨[],rfl,dG.mp r⟩
 | d :: ds,vs,r,h=>by
  obtain ⟨v,r',rfl,h1,h2⟩:=bU.mp r
  rw [List.all_cons,and_eq_true] at h
  obtain ⟨ks,e1,e2⟩:=aFa h2 h.2
  obtain ⟨k,e3,e4⟩:=aDv h1 (by cases d<;>first | (cases h.1;done) | rfl)
  exact ⟨k :: ks,by rw [e1,e3];rfl,by rw [e2,e4];rfl⟩
theorem aH8{K:Frag}    (r:Rep K H d v) (h:keyOk true d=true):∃ (ks:List Key) (b:Addr),d = .tup (ks.map mK)/\v = .ref b/\H b=some (.tup (ks.map kV)):=by
 cases d<;>first | (cases h;done) | skip
 rename_i xs
 obtain ⟨b,vs,e,hb,rs⟩:=uN.mp r
 have h':xs.all aOj=true:=by
  unfold keyOk at h
  simpa using h
 obtain ⟨ks,e1,e2⟩:=aFa rs h'
 exact ⟨ks,b,by rw [e1],e,by rw [<-e2];exact hb⟩
theorem aI8{K:Frag}   {t:Bool}  {k:D} {u:V} (rx:jV K A H (.dct t ks ds) v) (ry:Rep K H k u) (hk:keyOk t k=true) :
  ∃ a o,v = .ref a/\aCr H a u o/\o.isSome=vP ks k/\∀ d,aEc ks ds k=some d->∃ w,o=some w/\Rep K (hide A H) d w:=by
 have key:∃ a vs,v=V.ref a/\((t=false/\∃ kvs:List (Key × V),H a=some (.dK kvs)/\kvs.map (fun p=>mK p.1)=ks/\vs=kvs.map (·.2))\/(t=true/\∃ kvs:List (List Key × V),H a=some (.dT kvs)/\kvs.map (fun p=>D.tup (p.1.map mK))=ks/\vs=kvs.map (·.2)))/\bD K (hide A H) ds vs:=by
  rcases rx with h | ⟨a,kk,o,ds',vs,e,e2,h,ko,r⟩
  ·obtain ⟨a,vs,e,q,r⟩:=vH.mp h
   refine ⟨a,vs,e,?_,r⟩
   rcases q with ⟨q0,kvs,q1,q2⟩ | ⟨q0,kvs,q1,q2⟩
   ·exact .inl ⟨q0,kvs,bG _ _ _ _ q1,q2⟩
   ·exact .inr ⟨q0,kvs,bG _ _ _ _ q1,q2⟩
  ·cases kk<;>cases e
   refine ⟨a,vs,e2,?_,r⟩
   rcases ko with ⟨q0,kvs,q1,q2⟩ | ⟨q0,kvs,q1,q2⟩
   ·subst q1;exact .inl ⟨q0,kvs,h,q2⟩
   ·subst q1;exact .inr ⟨q0,kvs,h,q2⟩
 obtain ⟨a,vs,e,q,r⟩:=key
 rcases q with ⟨rfl,kvs,q1,rfl,rfl⟩ | ⟨rfl,kvs,q1,rfl,rfl⟩
 ·obtain ⟨k',e1,e2⟩:=aDv ry hk
  subst e1 e2
  obtain ⟨i1,i2⟩:=aNd aNc k' kvs ds r
  exact ⟨a,_,e,aCr.k q1,i2,fun d hd=>let ⟨w,h1,h2⟩:=i1 d hd;⟨w,h1,h2⟩⟩
 ·obtain ⟨k',b,e1,e2,e3⟩:=aH8 ry hk
  subst e1 e2
  obtain ⟨i1,i2⟩:=aNd aPj k' kvs ds r
  exact ⟨a,_,e,aCr.t q1 e3,i2,fun d hd=>let ⟨w,h1,h2⟩:=i1 d hd;⟨w,h1,h2⟩⟩
section
variable{X:Cx}{B:List Addr}{a b e:Expr}{f g:Ex}{pos:Pos}
def bJx:R2:=fun x y H Q=>∃ p v,x = .ref p/\aCr H p y (some v)/\Q v H
theorem bB7(hu:X.A.units+64 < cLine):IxR X bJx:=by
 intro value slice pins s σ H x y v u Q I rx ry h hs
 obtain ⟨p,z,rfl,g,q⟩:=h
 cases rx
 have hT:=aOg I g
 unfold subscriptTail
 refine wpAny_bind ?_
 rw [getitemInPython_of_ne hT.not_modules]
 refine wpAny_bind (wpAny_specialOf hT PySem.F.slot_dict_getitem.lookup ?_)
 have h2:wpAny (model X.prog X.w) X.A (getItem (.ref p) u) (EP X pins σ Q) X.xe s:=aUm (by omega) I g ry fun w' s3 I3 rw'=>⟨z,H,I3,rw',q⟩
 have fin:wpAny (model X.prog X.w) X.A (subscripted slice false (.ref p) u) (fun r s3=>wpAny (model X.prog X.w) X.A (letTemporaryGo value (.ref p) r >>= fun _=>pure r) (EP X pins σ Q) X.xe s3) X.xe s:=by
  rw [hs]
  exact wpAny_operating (wpAny_mono h2 (fun r s3 h3=>wpAny_bind (wpAny_letTemporaryGo (wpAny_pure h3))) fun _ _ x=>x)
 first
  | exact wpAny_pure (wpAny_bind fin)
  | exact wpAny_bind (wpAny_pure (wpAny_bind fin))
  | exact wpAny_bind fin
theorem bB8{K:Frag}:aBg K (fun x y H Q=>rIx K x y H Q\/bJx x y H Q) dIx:=by
 intro A H x y d v u Q w rx ry e q
 by_cases hx:bI3 x=true
 ·cases x<;>first | (cases hx;done) | skip
  rename_i t ks vs
  have e':aO (keyOk t y=true) (ofO (aEc ks vs y)) = .ok d:=by cases y<;>exact e
  obtain ⟨hk,e2⟩:=aK e'
  have ryr:Rep K H y u:=by
   rcases ry with h | ⟨a,kk,o,ds,vs',e1,_⟩
   ·exact h.mono (bG _ _)
   ·subst e1;cases kk<;>cases t<;>cases hk
  obtain ⟨a,o,e3,g,_,g2⟩:=aI8 rx ryr hk
  obtain ⟨z,e4,rz⟩:=g2 d (aBi e2)
  subst e4
  exact .inr ⟨a,z,e3,g,q _ H (bA.refl _) rz⟩
 ·exact .inl (bFv (by simpa using hx) A H x y d v u Q w rx ry e q)
theorem cN(hu:X.A.units+64 < cLine)(ha:PE X a (tP X.K B f))(hb:PE X b (tP X.K B g))(hs:aS3 b:=by intro _ _;rfl):PE X (.Subscript a b pos) (tI X.K B (e2 dIx f g)) :=
 cM (bHw (bEg.or (bB7 hu)) ha hb hs) fun _ _ _ h=>aNa bB8 h
theorem aV5:mC X (.builtin "len") (fun xs H Q=>∃ a kvs,xs=[V.ref a]/\H a=some (.dK kvs)/\Q (.int kvs.length) H):=by
 intro pins s σ H xs us Q I r h
 obtain ⟨a,kvs,rfl,hk,q⟩:=h
 obtain ⟨u,rfl,ru⟩:=r.one
 obtain rfl:u=Value.ref a:=ru
 exact bI1 I (.inl hk) fun t s' I'=>⟨.int kvs.length,H,I',⟨t,rfl⟩,q⟩
theorem bB9{K:Frag}     (rx:jV K A H (.dct false ks ds) v):∃ a kvs,v = .ref a/\H a=some (.dK kvs)/\kvs.length=ks.length:=by
 rcases rx with h | ⟨a,kk,o,ds',vs,e,e2,h,ko,r⟩
 ·obtain ⟨a,vs,e,q,r⟩:=vH.mp h
  rcases q with ⟨_,kvs,q1,rfl,_⟩ | ⟨q0,_⟩
  ·exact ⟨a,kvs,e,bG _ _ _ _ q1,by simp⟩
  ·cases q0
 ·cases kk<;>cases e
  rcases ko with ⟨_,kvs,rfl,rfl,_⟩ | ⟨q0,_⟩
  ·exact ⟨a,kvs,e2,h,by simp⟩
  ·cases q0
end
end Pu
namespace Pu
open PySem PySem.Spec PyProof.Rows L2
section
variable{K:Frag}   {st:PSt} 
theorem aCg{k:OK}  (h:(st.set i (some (.v d)))[j]?=some (some (.o k xs))):j≠i/\st[j]?=some (some (.o k xs)):=by
 rw [List.getElem?_set] at h
 by_cases e:i=j
 ·subst e
  rw [if_pos rfl] at h
  split at h<;>simp at h
 ·rw [if_neg e] at h
  exact ⟨fun z=>e z.symm,h⟩
theorem Le.app{A':List Addr}  (l:Le A H A' H'):bA (hide (A++B) H) (hide (A'++B) H'):=fun b u q=>by
 have q1:=bG _ _ _ _ q
 have hb:b ∉ A++B:=fun z=>by rw [eY z] at q;cases q
 have q2:hide A H b=some u:=by rw [bY fun z=>hb (List.mem_append_left _ z)];exact q1
 have q3:=l b u q2
 have hb':b ∉ A':=fun z=>by rw [eY z] at q3;cases q3
 rw [bY fun z=>(List.mem_append.mp z).elim hb' fun z=>hb (List.mem_append_right _ z)]
 exact bG _ _ _ _ q3
theorem RS.set(r:RS K B A H st σ){d:D}{v:V}(i:Nat)(h:Rep K (hide (A++B) H) d v):RS K B A H (st.set i (some (.v d))) (σ.set i (some v)) where
 len:=by rw [length_set,length_set,r.len]
 own:=r.own
 dis:=r.dis
 val:=fun j d' e=>by
  rw [List.getElem?_set] at e
  by_cases hij:i=j
  ·subst hij
   rw [if_pos rfl] at e
   split at e
   ·rename_i hl
    simp at e
    subst e
    exact ⟨v,by rw [List.getElem?_set,if_pos rfl,if_pos (by rw [<-r.len];exact hl)],h⟩
   ·cases e
  ·rw [if_neg hij] at e
   obtain ⟨u,e1,q⟩:=r.val j d' e
   exact ⟨u,by rw [List.getElem?_set,if_neg hij];exact e1,q⟩
 lst:=fun j kk xs e=>by
  obtain ⟨hj,e'⟩:=aCg e
  obtain ⟨a,o,vs,e1,m,h1,ko,q,u⟩:=r.lst j kk xs e'
  refine ⟨a,o,vs,by rw [List.getElem?_set,if_neg fun z=>hj z.symm];exact e1,m,h1,ko,q,fun k k' ys ek ek2=>?_⟩
  obtain ⟨hk,ek'⟩:=aCg ek
  rw [List.getElem?_set,if_neg fun z=>hk z.symm] at ek2
  exact u k k' ys ek' ek2
theorem bBa{p:Addr}  (w:Own (A++B) H):Own ((p :: A)++B) (upd H p o):=fun a ha=>by
 by_cases e:a=p
 ·subst e;rw [bT];rfl
 ·rw [bM e]
  exact w a ((List.mem_cons.mp ha).resolve_left e)
theorem aFb{p:Addr}  (hp:H p=none):bA (hide (A++B) H) (hide ((p :: A)++B) (upd H p o)):=fun b u q=>by
 have q1:=bG _ _ _ _ q
 have hb:b ∉ A++B:=fun z=>by rw [eY z] at q;cases q
 have ne:b≠p:=aX q1 hp
 rw [bY (show b ∉ (p :: A)++B from fun z=>(List.mem_cons.mp z).elim ne hb),bM ne]
 exact q1
theorem aJe{p:Addr}  (hp:H p=none):Le A H (p :: A) (upd H p o):=fun b u q=>by
 have q1:=bG _ _ _ _ q
 have hb:b ∉ A:=fun z=>by rw [eY z] at q;cases q
 have ne:b≠p:=aX q1 hp
 rw [bY fun z=>(List.mem_cons.mp z).elim ne hb,bM ne]
 exact q1
theorem RS.setO(r:RS K B A H st σ){p:Addr}{kk:OK}    (i:Nat) (hp:H p=none) (ko:KOk K kk p o vs) (h:bD K (hide (A++B) H) ds vs) :
  RS K B (p :: A) (upd H p o) (st.set i (some (.o kk ds))) (σ.set i (some (.ref p))) where
 len:=by rw [length_set,length_set,r.len]
 own:=bBa r.own
 dis:=fun a ha hb=>by
  rcases List.mem_cons.mp ha with rfl | ha
  ·exact r.own.free hp (List.mem_append_right _ hb)
  ·exact r.dis a ha hb
 val:=fun j d' e=>by
  rw [List.getElem?_set] at e
  by_cases hij:i=j
  ·subst hij
   rw [if_pos rfl] at e
   split at e<;>simp at e
  ·rw [if_neg hij] at e
   obtain ⟨u,e1,q⟩:=r.val j d' e
   exact ⟨u,by rw [List.getElem?_set,if_neg hij];exact e1,q.mono (aFb hp)⟩
 lst:=fun j k0 xs e=>by
  rw [List.getElem?_set] at e
  by_cases hij:i=j
  ·subst hij
   rw [if_pos rfl] at e
   split at e
   ·rename_i hl
    simp at e
    obtain ⟨e0,e⟩:=e
    subst e0 e
    refine ⟨p,o,vs,by rw [List.getElem?_set,if_pos rfl,if_pos (by rw [<-r.len];exact hl)],mem_cons_self,bT,ko,h.mono (aFb hp),fun k k' ys ek ek2=>?_⟩
    by_cases hk:i=k
    ·exact hk.symm
    ·rw [List.getElem?_set,if_neg hk] at ek ek2
     obtain ⟨a,o',vs',e1,m,h1,_⟩:=r.lst k k' ys ek
     rw [e1] at ek2
     cases ek2
     rw [hp] at h1;cases h1
   ·cases e
  ·rw [if_neg hij] at e
   obtain ⟨a,o',vs',e1,m,h1,ko',q,u⟩:=r.lst j k0 xs e
   have ne:a≠p:=aX h1 hp
   refine ⟨a,o',vs',by rw [List.getElem?_set,if_neg hij];exact e1,mem_cons_of_mem _ m,by rw [bM ne];exact h1,ko',q.mono (aFb hp),fun k k' ys ek ek2=>?_⟩
   by_cases hk:i=k
   ·subst hk
    rw [List.getElem?_set,if_pos rfl] at ek2
    split at ek2
    ·simp at ek2;exact absurd ek2.symm ne
    ·cases ek2
   ·rw [List.getElem?_set,if_neg hk] at ek ek2
    exact u k k' ys ek ek2
theorem RS.write(r:RS K B A H st σ)   {k0 k1:OK} {o':HO}  {vs':List V} (hi:st[i]?=some (some (.o k0 xs))) (hs:σ[i]?=some (some (.ref a))) (ko:KOk K k1 a o' vs') (h:bD K (hide (A++B) H) ds vs') :
  RS K B A (upd H a o') (st.set i (some (.o k1 ds))) σ/\Le A H A (upd H a o'):=by
 obtain ⟨a',o,vs,e1,m,h1,_,q,u⟩:=r.lst i k0 xs hi
 rw [hs] at e1
 cases e1
 have hh:hide (A++B) (upd H a o')=hide (A++B) H:=aBe (List.mem_append_left _ m)
 refine ⟨⟨by rw [length_set,r.len],fun b hb=>?_,r.dis,fun j d e=>?_,fun j kj ys e=>?_⟩,?_⟩
 ·by_cases e:b=a
  ·subst e;rw [bT];rfl
  ·rw [bM e];exact r.own b hb
 ·rw [hh]
  rw [List.getElem?_set] at e
  by_cases hij:i=j
  ·subst hij
   rw [if_pos rfl] at e
   split at e<;>simp at e
  ·rw [if_neg hij] at e
   exact r.val j d e
 ·rw [hh]
  have ne:∀ {k:Nat} {kz:OK} {zs:List D},(st.set i (some (.o k1 ds)))[k]?=some (some (.o kz zs))->∃ kw ws,st[k]?=some (some (.o kw ws)):=fun {k kz zs} ek=>by
   rw [List.getElem?_set] at ek
   by_cases hk:i=k
   ·subst hk;exact ⟨_,_,hi⟩
   ·rw [if_neg hk] at ek;exact ⟨_,_,ek⟩
  rw [List.getElem?_set] at e
  by_cases hij:i=j
  ·subst hij
   rw [if_pos rfl] at e
   split at e
   ·simp at e
    obtain ⟨e0,e⟩:=e
    subst e0 e
    exact ⟨a,o',vs',hs,m,bT,ko,h,fun k kz zs ek ek2=>let ⟨kw,ws,ew⟩:=ne ek;u k kw ws ew ek2⟩
   ·cases e
  ·rw [if_neg hij] at e
   obtain ⟨c,oc,ws,c1,cm,ch,kc,cq,cu⟩:=r.lst j kj ys e
   have hca:c≠a:=fun z=>by subst z;exact hij (u j kj ys e c1).symm
   exact ⟨c,oc,ws,c1,cm,by rw [bM hca];exact ch,kc,cq,fun k kz zs ek ek2=>let ⟨kw,ws,ew⟩:=ne ek;cu k kw ws ew ek2⟩
 ·unfold Le
  rw [aBe m]
  exact bA.refl _
theorem RS.fz1(r:RS K B A H st σ)(i:Nat):∃ A',RS K B A' H (Pu.fz1 st i) σ/\Le A H A' H:=by
 unfold Pu.fz1
 split
 ·rename_i kk xs e
  obtain ⟨a,o,vs,e1,m,h1,ko,q,u⟩:=r.lst i kk xs e
  have hsub:∀ b∈A.filter (fun c=>decide (c≠a)),b∈A:=fun b hb=>(List.mem_filter.mp hb).1
  have hsub2:∀ b∈A.filter (fun c=>decide (c≠a))++B,b∈A++B:=fun b hb=>(List.mem_append.mp hb).elim (fun z=>List.mem_append_left _ (hsub b z)) (List.mem_append_right _)
  have sm:bA (hide (A++B) H) (hide (A.filter (fun c=>decide (c≠a))++B) H):=lJ hsub2
  have hout:a ∉ A.filter (fun c=>decide (c≠a))++B:=fun z=>(List.mem_append.mp z).elim (fun z=>of_decide_eq_true (List.mem_filter.mp z).2 rfl) (r.dis a m)
  refine ⟨A.filter fun c=>decide (c≠a),⟨by rw [length_set,r.len],fun b hb=>r.own b (hsub2 b hb),fun b hb=>r.dis b (hsub b hb),fun j d ej=>?_,fun j kj ys ej=>?_⟩,lJ hsub⟩
  ·rw [List.getElem?_set] at ej
   by_cases hij:i=j
   ·subst hij
    rw [if_pos rfl] at ej
    split at ej
    ·simp at ej
     subst ej
     exact ⟨_,e1,ko.rep (by rw [bY hout];exact h1) (q.mono sm)⟩
    ·cases ej
   ·rw [if_neg hij] at ej
    obtain ⟨v,e2,q2⟩:=r.val j d ej
    exact ⟨v,e2,q2.mono sm⟩
  ·obtain ⟨hj,ej'⟩:=aCg ej
   obtain ⟨c,oc,ws,c1,cm,ch,kc,cq,cu⟩:=r.lst j kj ys ej'
   have hca:c≠a:=fun z=>by subst z;exact hj (u j kj ys ej' c1)
   exact ⟨c,oc,ws,c1,List.mem_filter.mpr ⟨cm,decide_eq_true hca⟩,ch,kc,cq.mono sm,fun k kz zs ek ek2=>cu k kz zs (aCg ek).2 ek2⟩
 ·exact ⟨A,r,Le.refl⟩
theorem RS.fz(is:List Nat):∀ {A:List Addr} {st:PSt},RS K B A H st σ->∃ A',RS K B A' H (is.foldl Pu.fz1 st) σ/\Le A H A' H:=by
 induction is with
 | nil=>exact fun r=>⟨_,r,Le.refl⟩
 | cons i is ih =>
  intro A st r
  obtain ⟨A1,r1,l1⟩:=r.fz1 i
  obtain ⟨A2,r2,l2⟩:=ih r1
  exact ⟨A2,r2,l1.trans l2⟩
end
section
variable{X:Cx}{B:List Addr}{a b e:Expr}{f g:Ex}{pos:Pos}{bd bd':Bd}{sm:Stmt}{rest:List Stmt}
theorem dZ:PSs X [] (tS X.K B cY):=aCf aZm (by
 rintro Dn σ H ⟨A,st,r,rs,hr,p⟩
 cases hr
 exact p A σ H Le.refl rs)
theorem aH(h1:PS X sm (tS X.K B bd))(h2:PSs X rest (tS X.K B bd')):PSs X (sm :: rest) (tS X.K B (aU bd bd')):=by
 refine aCf (aIg h1 h2) ?_
 rintro Dn σ H ⟨A,st,r,rs,hr,p⟩
 obtain ⟨x,hx,h3⟩:=R.ok_of hr
 refine ⟨A,st,x,rs,hx,?_⟩
 cases x with
 | nx s1=>exact fun A' σ' H' l rs'=>⟨A',s1,r,rs',h3,p.mono l⟩
 | rt d=>cases h3;exact p
 | bk s1=>cases h3;exact p
 | ct s1=>cases h3;exact p
theorem aM(h1:PS X sm (tS X.K B bd)):PSs X [sm] (tS X.K B bd):=aMh h1
theorem aNe(is:List Nat)(h:PS X sm (tS X.K B bd)):PS X sm (tS X.K B (sFz is bd)):=lX h (by
 rintro Dn σ H ⟨A,st,r,rs,hr,p⟩
 obtain ⟨A',rs',l⟩:=RS.fz is rs
 exact ⟨A',_,r,rs',hr,p.mono l⟩)
theorem bI(h:PE X e (tI X.K B f)):PS X (.Return (some e) pos) (tS X.K B (cL f)):=lX (aQp h) (by
 rintro Dn σ H ⟨A,st,r,rs,hr,p⟩
 obtain ⟨d,hd,h3⟩:=R.ok_of hr
 cases h3
 exact ⟨A,st,d,rs,hd,fun v H' s q=>p A v H' (Le.of s) q⟩)
theorem aLx(h:PE X e (tI X.K B f))(hs:swapsWith e none pos.line X.env=pure false:=by rfl):PS X (.Expr e pos) (tS X.K B (aIq f)):=lX (aMi h hs) (by
 rintro Dn σ H ⟨A,st,r,rs,hr,p⟩
 obtain ⟨d,hd,h3⟩:=R.ok_of hr
 cases h3
 exact ⟨A,st,d,rs,hd,fun v H' s q=>p A σ H' (Le.of s) (rs.mono s)⟩)
theorem bR(i:Nat)   (he:PE X e (tI X.K B f)) (hN:X.N.Nodup) (hi:X.N[i]?=some x:=by rfl) (hx:Loc X.env.scope x:=by first | exact Or.inl rfl | exact Or.inr rfl) (hs:swapsWith e (some (.Name x pos')) pos.line X.env=pure false:=by rfl)
  (hf:X.fn x=true\/X.env.scope.names.lookup x=some .local:=by first | exact .inl rfl | exact .inr rfl | assumption):PS X (.Assign [.Name x pos'] e pos) (tS X.K B (cO i f)):=lX (aFy hN hi hx he hs hf) (by
 rintro Dn σ H ⟨A,st,r,rs,hr,p⟩
 obtain ⟨d,hd,h3⟩:=R.ok_of hr
 cases h3
 exact ⟨A,st,d,rs,hd,fun v H' s q=>p A _ H' (Le.of s) ((rs.mono s).set i q)⟩)
def tF(K:Frag)(B:List Addr)(f:Ex):TE:=fun σ H Q=>∃ A st ds,RS K B A H st σ/\f st = .ok (.lst ds)/\∀ p vs H',bA H H'->H' p=none->bD K (hide (A++B) H') ds vs->Q (.ref p) (upd H' p (.lst vs))
theorem aFc(h:PA X es (tA X.K B r)):PE X (.List es pos) (tF X.K B (pG r)):=by
 refine cM (aQz h) ?_
 rintro σ H Q ⟨A,st,d,rs,hd,q⟩
 obtain ⟨xs,hx,h2⟩:=R.ok_of hd
 obtain ⟨c,h3⟩:=aK h2
 cases h3
 exact ⟨A,st,_,rs,hx,fun vs H1 s1 r1=>⟨by rw [r1.length];exact lim c,fun p hp=>q p vs H1 s1 hp r1⟩⟩
theorem wI(i:Nat)   (he:PE X e (tF X.K B f)) (hN:X.N.Nodup) (hi:X.N[i]?=some x:=by rfl) (hx:Loc X.env.scope x:=by first | exact Or.inl rfl | exact Or.inr rfl) (hs:swapsWith e (some (.Name x pos')) pos.line X.env=pure false:=by rfl)
  (hf:X.fn x=true\/X.env.scope.names.lookup x=some .local:=by first | exact .inl rfl | exact .inr rfl | assumption):PS X (.Assign [.Name x pos'] e pos) (tS X.K B (wU i f)):=lX (aFy hN hi hx he hs hf) (by
 rintro Dn σ H ⟨A,st,r,rs,hr,p⟩
 obtain ⟨d,hd,h3⟩:=R.ok_of hr
 cases d<;>first | (cases h3;done) | skip
 cases h3
 exact ⟨A,st,_,rs,hd,fun a vs H' s hn q=>p (a :: A) _ _ ((Le.of s).trans (aJe hn)) ((rs.mono s).setO (kk := .l) i hn rfl q)⟩)
theorem jA{c:Expr}{t:Ex}{x y:List Stmt}(hc:PT X c (tT X.K B t))(ha:PSs X x (tS X.K B bd))(hb:PSs X y (tS X.K B bd')):PS X (.If c x y pos) (tS X.K B (sIf t bd bd')):=lX (bHk hc ha hb) (by
 rintro Dn σ H ⟨A,st,r,rs,hr,p⟩
 obtain ⟨d,hd,h3⟩:=R.ok_of hr
 obtain ⟨k,rfl,h4⟩:=vQ h3
 refine ⟨A,st,k,rs,hd,fun H1 s1=>?_⟩
 cases k with
 | true=>exact ⟨A,st,r,rs.mono s1,h4,p.mono (Le.of s1)⟩
 | false=>exact ⟨A,st,r,rs.mono s1,h4,p.mono (Le.of s1)⟩)
theorem cD(i:Nat)  (hN:X.N.Nodup) (hi:X.N[i]?=some x:=by rfl) (hx:Loc X.env.scope x:=by first | exact Or.inl rfl | exact Or.inr rfl)
  (hf:X.fn x=true\/X.env.scope.names.lookup x=some .local:=by first | exact .inl rfl | exact .inr rfl | assumption):PG X (.Name x pos) (tG X.K B (tgN i)):=aXx (aZn hN hi hx hf) (by
 rintro v σ H Q ⟨A,st,d,s1,rs,hr,hg,q⟩
 cases hg
 exact q _ (rs.set i hr))
def tGs(K:Frag)(B:List Addr)(is:List Nat):TGs:=fun vs σ H Q=>∃ A st ds s1,RS K B A H st σ/\bD K (hide (A++B) H) ds vs/\vR is ds st = .ok s1/\∀ σ',RS K B A H s1 σ'->Q σ' H
theorem aTh{t t':TGs}(h:PGs X es t)(m:∀ v σ H Q,t' v σ H Q->t v σ H Q):PGs X es t':=fun pins s σ H v u Q I r q=>h pins s σ H v u Q I r (m v σ H Q q)
theorem bFx:PGs X [] (tGs X.K B []):=aTh aZo (by
 rintro v σ H Q ⟨A,st,ds,s1,rs,hr,hg,q⟩
 cases ds with
 | nil=>cases hg;exact ⟨dG.mp hr,q σ rs⟩
 | cons _ _=>exact nomatch hg)
theorem aTi(i:Nat){is:List Nat}   (h2:PGs X es (tGs X.K B is)) (hN:X.N.Nodup) (hi:X.N[i]?=some x:=by rfl) (hx:Loc X.env.scope x:=by first | exact Or.inl rfl | exact Or.inr rfl)
  (hf:X.fn x=true\/X.env.scope.names.lookup x=some .local:=by first | exact .inl rfl | exact .inr rfl | assumption)
  (hs:(assignEach (.Name x pos :: es) X.env).map (·.2)=assign (.Name x pos) X.env :: (assignEach es X.env).map (·.2):=by rfl):PGs X (.Name x pos :: es) (tGs X.K B (i :: is)):=aTh (aW3 (cD i (pos:=pos) hN hi hx hf) h2 hs) (by
 rintro v σ H Q ⟨A,st,ds,s1,rs,hr,hg,q⟩
 cases ds with
 | nil=>exact nomatch hg
 | cons d ds =>
  obtain ⟨u,r,e,r1,r2⟩:=bU.mp hr
  exact ⟨u,r,e,A,st,d,st.set i (some (.v d)),rs,r1,rfl,fun σ' rs'=>⟨A,_,ds,s1,rs',r2,hg,q⟩⟩)
theorem aJf{it:Addr}  (hl:h.IsList l items) (s:Heap.SameBut it h h') (hne:l≠it):h'.IsList l items:=by
 obtain ⟨o,e,r⟩:=hl
 exact ⟨o,(s.2 l hne).trans e,r⟩
theorem aLy{M:Program}{w:World}{A:Around}{E:Value->Shared->Prop}{it t:Addr}{items:Array Value}(hne:t≠it):∀ (n i:Nat) (s:Shared) (Q:List Value->Shared->Prop),s.heap.IsListIter it t i->s.heap.IsList t items->i+n<=items.size ->
  (∀ h',h'.IsListIter it t (i+n)->Heap.SameBut it s.heap h'->Q ((items.toList.drop i).take n) { s with heap:=h' })->wpAny (model M w) A (draw (.ref it) n) Q E s
 | 0,i,s,Q,hit,_,_,hQ=>by
  show wpAny _ _ (pure []) Q E s
  exact wpAny_pure (by simpa using hQ s.heap hit (Heap.SameBut.refl ..))
 | n+1,i,s,Q,hit,ht,hle,hQ=>by
  have hlt:i < items.size:=by omega
  show wpAny _ _ (pyNext (.ref it) >>= _) Q E s
  refine wpAny_bind (wpAny_pyNext_list_item hit ht (x:=items[i]) (by simp [hlt]) fun h1 hit1 hs1=>?_)
  refine wpAny_bind (wpAny_holding (aLy hne n (i+1) _ _ hit1 (aJf ht hs1 hne) (by omega) fun h2 hit2 hs2=>wpAny_pure ?_))
  have hd:items.toList.drop i=items[i] :: items.toList.drop (i+1):=by simp [List.drop_eq_getElem_cons,hlt]
  have:=hQ h2 (by rw [show i+(n+1)=i+1+n by omega];exact hit2) (hs1.trans hs2)
  rw [hd,List.take_succ_cons] at this
  exact this
theorem aFd{M:Program}  {A:Around}  {s:Shared}    {pos:Pos} {t:Addr}  {Q:Unit->Shared->Prop} (hh:A.handled=none) (ht:s.heap.IsList t items)
  (hn:(assignEach elts env).length=items.size) (hstar:(assignEach elts env).findIdx? (·.1)=none)
  (h:∀ h',Heap.ExtBut s.heap.objs.size s.heap h'->wpAny (model M w) A (assignInOrder ((assignEach elts env).map (·.2)) items.toList) Q E { s with heap:=h' }) :
  wpAny (model M w) A (assign (.Tuple elts x1 pos) env (.ref t)) Q E s:=by
 have hlt:t≠s.heap.objs.size:=by obtain ⟨o,ho,_⟩:=ht;exact Nat.ne_of_lt (Heap.lt_size ho)
 rw [assign_Tuple]
 refine wpAny_bind (wpAny_standAt ?_)
 unfold unpack
 rw [hn,hstar]
 refine wpAny_bind (wpAny_holding ?_)
 unfold unpackItems
 refine wpAny_bind ?_
 unfold notIterableAtAll
 refine wpAny_bind (wpAny_specialOf ht.typeIs PySem.F.slot_list_iter.lookup ?_)
 refine wpAny_pure ?_
 simp only [Bool.false_eq_true,if_false]
 refine wpAny_bind (wpAny_holding (wpAny_pyIter_list ht ?_))
 have ht0:(s.heap.push { cls := .type "list_iterator", data := .fields #[.ref t,rawInt 0] }).IsList t items:=by
  obtain ⟨o,ho,r⟩:=ht
  exact ⟨o,Heap.get?_push_of_some _ ho,r⟩
 refine wpAny_bind (wpAny_holding (aLy hlt items.size 0 _ _ ⟨_,Heap.get?_push_size _ rfl,rfl,rfl⟩ ht0 (by omega) fun h1 hit1 hs1=>?_))
 have hall:List.take items.size (List.drop 0 items.toList)=items.toList:=by
  rw [drop_zero];exact take_of_length_le (by simp)
 rw [hall]
 rw [if_neg (by simp)]
 refine wpAny_bind (wpAny_holding (wpAny_pyNext_list_end hh hit1 (aJf ht0 hs1 hlt) (by simp) fun h2 he2=>?_))
 simp only [Option.isSome_none,Bool.false_eq_true,if_false]
 refine wpAny_pure (h h2 fun b o hb e=>he2 b o hb (hs1.extBut b o hb (Heap.get?_push_of_some _ e)))
def bMc(K:Frag)(n:Nat)(t:TGs):TG:=fun v σ H Q=>∃ a xs,v = .ref a/\(SqT K H a xs\/SqL K H a xs)/\xs.length=n/\t xs σ H Q
theorem bFy{k:Nat}{t:TGs}  (hc:X.calm=true) (h:PGs X es t)
  (hn:(assignEach es X.env).length=n:=by rfl) (hst:(assignEach es X.env).findIdx? (·.1)=none:=by rfl):PG X (.Tuple es k pos) (bMc X.K n t):=by
 intro pins s σ H v u Q I r hw
 obtain ⟨a,xs,e1,hq,hl,hw⟩:=hw
 rcases hq with hq | hq
 ·exact bDv hc h hn hst pins s σ H v u Q I r ⟨a,xs,e1,hq,hl,hw⟩
 ·subst e1
  cases r
  obtain ⟨its,rv,ht,hz⟩:=I.list hq
  refine aFd (I.ok.hd hc) ht.isList (by simp [hn,<-hl,rv.length]) hst fun h' hx=>?_
  have I1:Inv X pins σ H { s with heap:=h' }:=I.kept (t':=s.toks) fun b o e=>hx b o (Nat.ne_of_lt (Heap.lt_size e)) e
  exact h pins _ σ H xs _ Q I1 (by simpa using rv) hw
theorem aJg{s1:PSt}:∀ (is:List Nat) (ds:List D) (st:PSt),vR is ds st = .ok s1->ds.length=is.length:=by
 intro is
 induction is with
 | nil=>intro ds st h;cases ds with | nil=>rfl | cons _ _=>exact nomatch h
 | cons i is ih=>intro ds st h;cases ds with | nil=>exact nomatch h | cons _ ds=>exact congrArg (· + 1) (ih ds _ h)
theorem bJy{is:List Nat}  {k:Nat} (hc:X.calm=true) (h:PGs X es (tGs X.K B is)) (hn:(assignEach es X.env).length=is.length:=by rfl) (hst:(assignEach es X.env).findIdx? (·.1)=none:=by rfl):PG X (.Tuple es k pos) (tG X.K B (tgT is)):=aXx (bFy hc h hn hst) (by
 rintro v σ H Q ⟨A,st,d,s1,rs,hr,hg,q⟩
 cases d<;>first | (cases hg;done) | skip
 ·rename_i ds
  obtain ⟨a,vs,e,h1,h2⟩:=bL hr
  exact ⟨a,vs,e,.inl (aBd (bG _ _) h1),by rw [h2.length];exact aJg is ds st hg,A,st,ds,s1,rs,h2,hg,q⟩
 ·rename_i ds
  obtain ⟨a,vs,e,h1,h2⟩:=bZ.mp hr
  exact ⟨a,vs,e,.inr ((bG _ _).seq h1),by rw [h2.length];exact aJg is ds st hg,A,st,ds,s1,rs,h2,hg,q⟩)
theorem lA{iter:Expr}  {t:Tg}  (hi:L2.PI X tg iter (tIt X.K B it)) (hg:PG X tg (tG X.K B t)) (hb:PSs X body (tS X.K B bd)) (hp:PassesOwn (model X.prog X.w) X.A X.env X.xe) (hc:X.calm=true)
  (hs:∀ x,foldedSetIterable iter X.env x=pure x:=by intro _;rfl):PS X (.For tg iter body [] pos) (tS X.K B (pN t it bd)):=lX (bDz hp hc hi hg hb hs) (by
 rintro Dn σ H ⟨A,st,r,rs,hr,p⟩
 obtain ⟨ds,hd,h3⟩:=R.ok_of hr
 refine ⟨A,st,ds,rs,hd,fun J H1 s1 ito=>?_⟩
 refine ⟨fun i m σ' H'=>∃ A' st',m=ds.length - i/\i<=ds.length/\RS X.K B A' H' st' σ'/\forR t bd (ds.drop i) st' = .ok r/\Le A H1 A' H',⟨ds.length,A,st,by simp,zero_le _,rs.mono s1,by rw [drop_zero];exact h3,Le.refl⟩,?_⟩
 rintro i m σ' H' ⟨A',st',rfl,hle,rs',hf,l⟩
 obtain ⟨i1,i2⟩:=ito A' H' l rs'.own i
 by_cases hlt:i < ds.length
 ·have hd':ds[i]?=some ds[i]:=List.getElem?_eq_getElem hlt
  obtain ⟨go,yl⟩:=i1 _ hd'
  rw [List.drop_eq_getElem_cons hlt] at hf
  obtain ⟨s2,hs2,h5⟩:=R.ok_of hf
  obtain ⟨fl,hfl,h6⟩:=R.ok_of h5
  refine .inr ⟨go,fun σ2 H2=>∃ A2 st2,i+1<=ds.length/\RS X.K B A2 H2 st2 σ2/\forR t bd (ds.drop (i+1)) st2 = .ok r/\Le A H1 A2 H2,?_,fun x H2 y=>?_⟩
  ·rintro σ2 H2 ⟨A2,st2,hle2,rs2,hf2,l2⟩
   exact ⟨ds.length - (i+1),by omega,A2,st2,rfl,hle2,rs2,hf2,l2⟩
  ·obtain ⟨sm,rx⟩:=yl x H2 y
   have l5:Le A H1 A' H2:=l.trans (Le.of sm)
   refine ⟨A',st',ds[i],s2,rs'.mono sm,rx,hs2,fun σ3 rs3=>⟨A',s2,fl,rs3,hfl,?_⟩⟩
   cases fl with
   | nx s4=>exact fun A4 σ4 H4 l4 rs4=>⟨A4,s4,hlt,rs4,h6,l5.trans l4⟩
   | ct s4=>exact fun A4 σ4 H4 l4 rs4=>⟨A4,s4,hlt,rs4,h6,l5.trans l4⟩
   | bk s4=>cases h6;exact p.mono ((Le.of s1).trans l5)
   | rt d=>cases h6;exact p.mono ((Le.of s1).trans l5)
 ·have e:i=ds.length:=by omega
  subst e
  rw [List.drop_length] at hf
  cases hf
  exact .inl ⟨i2 (Nat.le_refl _),p A' σ' H' ((Le.of s1).trans l) rs'⟩)
theorem aFe(n:Nat){c:Expr}{t:Ex}  (hc:PT X c (tT X.K B t)) (hb:PSs X body (tS X.K B bd)) (hp:PassesOwn (model X.prog X.w) X.A X.env X.xe):PS X (.While c body [] pos) (tS X.K B (aDm n t bd)):=lX (aW4 hp hc hb) (by
 rintro Dn σ H ⟨A,st,r,rs,hr,p⟩
 refine ⟨fun m σ' H'=>∃ A' st',RS X.K B A' H' st' σ'/\uA t bd m st' = .ok r/\Le A H A' H',⟨n,A,st,rs,hr,Le.refl⟩,?_⟩
 rintro m σ' H' ⟨A',st',rs',hw,l⟩
 cases m with
 | zero=>exact nomatch hw
 | succ m =>
  obtain ⟨d,hd,h3⟩:=R.ok_of hw
  obtain ⟨k,rfl,h4⟩:=vQ h3
  refine ⟨A',st',k,rs',hd,fun H1 s1=>?_⟩
  cases k with
  | false =>
   cases h4
   exact p A' σ' H1 (l.trans (Le.of s1)) (rs'.mono s1)
  | true =>
   obtain ⟨fl,hfl,h6⟩:=R.ok_of h4
   refine ⟨fun σ2 H2=>∃ A2 st2,RS X.K B A2 H2 st2 σ2/\uA t bd m st2 = .ok r/\Le A H A2 H2,?_,A',st',fl,rs'.mono s1,hfl,?_⟩
   ·rintro σ2 H2 ⟨A2,st2,rs2,hf2,l2⟩
    exact ⟨m,Nat.lt_succ_self m,A2,st2,rs2,hf2,l2⟩
   ·cases fl with
    | nx s4=>exact fun A4 σ4 H4 l4 rs4=>⟨A4,s4,rs4,h6,l.trans ((Le.of s1).trans l4)⟩
    | ct s4=>exact fun A4 σ4 H4 l4 rs4=>⟨A4,s4,rs4,h6,l.trans ((Le.of s1).trans l4)⟩
    | bk s4=>cases h6;exact p.mono (l.trans (Le.of s1))
    | rt d=>cases h6;exact p.mono (l.trans (Le.of s1)))
theorem bFz{K:Frag}      (hq:SqL K (hide (A++B) H) l vs) (r:bD K (hide (A++B) H) ds vs):aV4 K B A H (Itl K l) ds:=by
 intro A' H' le own i
 have hq':SqL K H' l vs:=(bG _ _).seq ((Le.app le).seq hq)
 refine ⟨fun d hd=>?_,fun hl=>⟨vs,hq',by rw [r.length];exact hl⟩⟩
 obtain ⟨v,hv,rv⟩:=r.get hd
 refine ⟨⟨vs,v,hq',hv⟩,fun x H3 y=>⟨by rw [y.1];exact bA.refl _,?_⟩⟩
 have hx:=y.2 vs hq'
 rw [y.1]
 rw [hv] at hx
 cases hx
 exact rv.mono (Le.app le)
theorem bG0{K:Frag}      (hq:SqT K (hide (A++B) H) l vs) (r:bD K (hide (A++B) H) ds vs):aV4 K B A H (Itt K l) ds:=by
 intro A' H' le own i
 have hq':SqT K H' l vs:=aBd (bG _ _) (aBd (Le.app le) hq)
 refine ⟨fun d hd=>?_,fun hl=>⟨vs,hq',by rw [r.length];exact hl⟩⟩
 obtain ⟨v,hv,rv⟩:=r.get hd
 refine ⟨⟨vs,v,hq',hv⟩,fun x H3 y=>⟨by rw [y.1];exact bA.refl _,?_⟩⟩
 have hx:=y.2 vs hq'
 rw [y.1]
 rw [hv] at hx
 cases hx
 exact rv.mono (Le.app le)
theorem bG1{K:Frag}   {lo:Int}  : aV4 K B A H (Itr lo n) (pM lo n):=by
 intro A' H' le own i
 have hl:(pM lo n).length=n:=by simp [pM]
 refine ⟨fun d hd=>?_,fun h=>by rw [hl] at h;exact h⟩
 have hi:i < n:=by
  have:=(List.getElem?_eq_some_iff.mp hd).1
  rw [hl] at this;exact this
 have e:d = .int (lo+(i:Int)):=by
  unfold pM at hd
  rw [List.getElem?_map,List.getElem?_range hi] at hd
  exact (Option.some.inj hd).symm
 subst e
 exact ⟨hi,fun x H3 y=>⟨by rw [y.1];exact bA.refl _,aQ.mpr y.2⟩⟩
def Its(z:List Nat):It:=⟨fun i _=>i < z.length,fun i H x H'=>H'=H/\∃ c,z[i]?=some c/\x = .str ⟨#[c]⟩,fun i _=>z.length<=i⟩
theorem aY2{K:Frag}   {it:Addr} {n:String} {t:Tok} (hn:n = "str_ascii_iterator" \/ n = "str_iterator"):Turn P w K tg (Its z) [it] it (fun i h=>h.IsStrIter it n ⟨z.toArray⟩ t i) where
 mem:=by simp
 obj:=fun i h st b hb=>by
  have e:b=it:=by simpa using hb
  subst e
  obtain ⟨o,e,c,d⟩:=st
  exact ⟨o,e,fun v z=>by rw [d] at z;cases z⟩
 keep:=fun i h h' st k=>let ⟨o,e,r⟩:=st;⟨o,k it (by simp) o e,r⟩
 item:=by
  intro X hP hw hK hc i pins s σ H E I hf st hg
  subst hP hw hK
  obtain ⟨f0,f1,f2,f3,f4,f5⟩:=hf it (by simp)
  have fin:∀ v h' tk,SignAt ⟨z.toArray⟩ i v->Heap.IsStrIter h' it n ⟨z.toArray⟩ t (i+1)->(∀ b o,b ∉ [it]->s.heap.get? b=some o->h'.get? b=some o) ->
    ∃ u,some v=some u/\wpAny (model X.prog X.w) X.A (letOwnedTupleGo tg (.ref it) u) (fun _ s2=>∃ x H',Inv X pins σ H' s2/\RelV x u/\(Its z).yld i H x H'/\Heap.IsStrIter s2.heap it n ⟨z.toArray⟩ t (i+1)/\∀ b∈[it],H' b=none) E { s with heap:=h',toks:=tk }:=by
   intro v h' tk hv st' kk
   obtain ⟨c,u,hcu,rfl⟩:=hv
   have I1:Inv X pins σ H { s with heap:=h',toks:=tk }:=I.turned (fun b o hb e=>kk b o (by simpa using hb) e) f0 f1 f3 f4 f5
   obtain ⟨o,e,c',d⟩:=id st'
   refine ⟨_,rfl,aRz (s:={ s with heap:=h',toks:=tk }) e c' d (by rcases hn with rfl | rfl<;>decide) ⟨.str ⟨#[c]⟩,H,I1,⟨u,rfl⟩,⟨rfl,c,?_,rfl⟩,st',fun b hb=>(hf b hb).1⟩⟩
   simpa using hcu
  have hg2:i < z.length:=hg
  have hg':i < (⟨z.toArray⟩:Str).cps.size:=by simpa using hg2
  rcases hn with rfl | rfl
  ·exact (Walks.strAscii (prog:=X.prog) (w:=X.w) (I.ok.hd hc) it ⟨z.toArray⟩ t).item i s _ _ hg' st fun v h' tk hv st' kk=>fin v h' tk hv st' kk
  ·exact (Walks.strWide (prog:=X.prog) (w:=X.w) (I.ok.hd hc) it ⟨z.toArray⟩ t).item i s _ _ hg' st fun v h' tk hv st' kk=>fin v h' tk hv st' kk
 done:=by
  intro X hP hw hK hc i pins s σ H E I hf st hg
  subst hP hw hK
  obtain ⟨f0,f1,f2,f3,f4,f5⟩:=hf it (by simp)
  have hg2:z.length<=i:=hg
  rcases hn with rfl | rfl
  ·exact wpAny_pyNext_ascii_end (I.ok.hd hc) st (by simpa using hg2) fun h' eb=>⟨rfl,I.turned (t':=s.toks) (fun b o hb e=>eb b o hb e) f0 f1 f3 f4 f5⟩
  ·exact wpAny_pyNext_wide_end (I.ok.hd hc) st (by simpa using hg2) fun h' eb=>⟨rfl,I.turned (t':=s.toks) (fun b o hb e=>eb b o hb e) f0 f1 f3 f4 f5⟩
 self:=fun _ _ _ _ _ st h=>by
  rcases hn with rfl | rfl
  ·exact wpAny_pyIter_striter_ascii st h
  ·exact wpAny_pyIter_striter_wide st h
theorem bG2{K:Frag}    : aV4 K B A H (Its z) (z.map fun c => .str [c]):=by
 intro A' H' le own i
 refine ⟨fun d hd=>?_,fun h=>(by simpa using h:z.length<=i)⟩
 rw [List.getElem?_map] at hd
 cases hz:z[i]? with
 | none=>rw [hz] at hd;cases hd
 | some c =>
  rw [hz] at hd
  cases hd
  refine ⟨(List.getElem?_eq_some_iff.mp hz).1,fun x H3 y=>⟨by rw [y.1];exact bA.refl _,?_⟩⟩
  obtain ⟨c',hc',rfl⟩:=y.2
  rw [hz] at hc'
  cases hc'
  exact aZ.mpr rfl
def bMd(K:Frag)(tl:TE):TI:=fun σ H R=>tl σ H fun x H1=>(∃ a,x = .ref a/\(((∃ xs,SqL K H1 a xs)/\R (Itl K a) H1)\/((∃ xs,SqT K H1 a xs)/\R (Itt K a) H1)))\/∃ z:List Nat,x = .str ⟨z.toArray⟩/\R (Its z) H1
theorem bG3{l:Expr}{tl:TE}(hl:PE X l tl):L2.PI X tg l (bMd X.K tl):=by
 intro pins s σ H R I h
 refine thn (hl pins s σ H _ I h) fun v s1 ⟨x,H1,I1,r1,q1⟩=>?_
 rcases q1 with ⟨a,e,q⟩ | ⟨z,rfl,q⟩
 rotate_left
 ·obtain ⟨t,rfl⟩:=r1
  refine wpAny_pyIter_strU ?_
  refine ⟨s1.heap.objs.size,[s1.heap.objs.size],_,_,H1,rfl,I1.kept (t':=s1.toks) fun b o e=>Heap.get?_push_of_some _ e,aY2 (z:=z) (n:=strIterType ⟨z.toArray⟩) (t:=t) (by unfold strIterType;split<;>simp),⟨_,Heap.get?_push_size _ rfl,rfl,rfl⟩,fun b hb=>?_,q⟩
  have e:b=s1.heap.objs.size:=by simpa using hb
  subst e
  exact I1.fpOk (Nat.le_refl _) (I1.hok.fresh (Nat.le_refl _))
 subst e
 cases r1
 rcases q with ⟨⟨xs,hq⟩,q⟩ | ⟨⟨xs,hq⟩,q⟩
 ·obtain ⟨its,rv,p,hz⟩:=I1.list hq
  refine wpAny_pyIter_list p.isList ?_
  refine ⟨s1.heap.objs.size,[s1.heap.objs.size],_,_,H1,rfl,I1.kept (t':=s1.toks) fun b o e=>Heap.get?_push_of_some _ e,aU6 a _,⟨_,Heap.get?_push_size _ rfl,rfl,rfl⟩,fun b hb=>?_,q⟩
  have e:b=s1.heap.objs.size:=by simpa using hb
  subst e
  exact I1.fpOk (Nat.le_refl _) (I1.hok.fresh (Nat.le_refl _))
 ·obtain ⟨its,rv,p,hz⟩:=I1.tuple hq
  refine wpAny_pyIter_tuple (show s1.heap.IsTuple a its.toArray from p) ?_
  refine ⟨s1.heap.objs.size,[s1.heap.objs.size],_,_,H1,rfl,I1.kept (t':=s1.toks) fun b o e=>Heap.get?_push_of_some _ e,aQq a _,⟨_,Heap.get?_push_size _ rfl,rfl,rfl⟩,fun b hb=>?_,q⟩
  have e:b=s1.heap.objs.size:=by simpa using hb
  subst e
  exact I1.fpOk (Nat.le_refl _) (I1.hok.fresh (Nat.le_refl _))
theorem jM{l:Expr}(hl:PE X l (tI X.K B f)):L2.PI X tg l (tIt X.K B (itE f)):=aXy (bG3 hl) (by
 rintro σ H Rq ⟨A,st,ds,rs,hd,q⟩
 obtain ⟨x,hx,h2⟩:=R.ok_of hd
 refine ⟨A,st,x,rs,hx,fun v H1 s1 r1=>?_⟩
 cases x<;>first | (cases h2;done) | skip
 ·obtain ⟨_,h2⟩:=aK h2
  cases h2
  exact .inr ⟨_,aZ.mp r1,q _ H1 s1 bG2⟩
 ·cases h2
  obtain ⟨a,vs,e,h3,r3⟩:=bL r1
  exact .inl ⟨a,e,.inr ⟨⟨vs,aBd (bG _ _) h3⟩,q _ H1 s1 (bG0 h3 r3)⟩⟩
 ·cases h2
  obtain ⟨a,vs,e,h3,r3⟩:=bZ.mp r1
  exact .inl ⟨a,e,.inl ⟨⟨vs,(bG _ _).seq h3⟩,q _ H1 s1 (bFz h3 r3)⟩⟩)
theorem aJh{p:Pos}(hm:X.mg "range" = none)(ha:PE X a (tP X.K B f))(hg:Gl X "range" := by rfl)(hs:starEach [a] X.env=[(false,eval a X.env)]:=by rfl):L2.PI X tg (.Call (.Name "range" p) [a] [] pos) (tIt X.K B (aHi f)):=aXy (aU7 hg hm (dH ha iJ hs) hs) (by
 rintro σ H Rq ⟨A,st,ds,rs,hd,q⟩
 obtain ⟨x,hx,h2⟩:=R.ok_of hd
 obtain ⟨j,rfl,h3⟩:=aR7 h2
 obtain ⟨c,h4⟩:=aK h3
 rw [jW] at c
 cases h4
 exact ⟨A,st,_,rs,hx,fun v H1 s1 r1=>⟨j,by rw [r1.int],by omega,by omega,q _ H1 s1 bG1⟩⟩)
end
theorem aJi{K:Frag}      (w:Own B H) (r:bD K (hide B H) ds vs):RS K B [] H (ds.map (fun d=>some (Sl.v d))++List.replicate (N.length - ds.length) none) (L2.start N vs):=by
 have hl:=r.length
 have nov:∀ (i:Nat) (s:Sl),(ds.map (fun d=>some (Sl.v d))++List.replicate (N.length - ds.length) none)[i]?=some (some s)->∃ d,ds[i]?=some d/\s = .v d:=fun i s e=>by
  by_cases hi:i < ds.length
  ·rw [List.getElem?_append_left (by simpa using hi),List.getElem?_map,List.getElem?_eq_getElem hi] at e
   simp at e
   exact ⟨ds[i],List.getElem?_eq_getElem hi,e.symm⟩
  ·rw [List.getElem?_append_right (by simpa using hi),List.getElem?_replicate] at e
   split at e<;>simp at e
 refine ⟨by unfold L2.start;simp [hl],by rw [nil_append];exact w,fun a ha=>absurd ha (by simp),fun i d e=>?_,fun i kk xs e=>?_⟩
 ·obtain ⟨d',e1,e2⟩:=nov i _ e
  cases e2
  obtain ⟨v,hv,rv⟩:=r.get e1
  refine ⟨v,?_,by rw [nil_append];exact rv⟩
  unfold L2.start
  have hi:i < vs.length:=(List.getElem?_eq_some_iff.mp hv).1
  rw [List.getElem?_append_left (by simpa using hi),List.getElem?_map,hv]
  rfl
 ·obtain ⟨d',e1,e2⟩:=nov i _ e
  cases e2
theorem xK(ds:List D)(d:D)(h:cF np n bd ds = .ok d):ds.length=np:=(aK h).1
end Pu
namespace Pu
open PySem PySem.Spec PyProof.Rows L2
structure DefOk(P:Program)(w:World)(K:Frag)(mg:Str->Option Value)(base:Heap)(x:Str)(k np:Nat)(p:List D->R D):Prop where
 ex:∃ (fa:Addr) (fd:FuncData) (ps:List Str),FnOk P w K mg base CX0 k fa fd ps (spI K np p)/\mg x=some (.ref fa)/\keepIn K (.ref fa)=true/\Binds K fd ps []
 len:∀ ds d,p ds = .ok d->ds.length=np
theorem DefOk.of{K:Frag}    {k:Nat}     (h:FnOk P w K mg base CX0 k fa fd ps (spI K np p)) (m:mg x=some (.ref fa))
  (kp:keepIn K (.ref fa)=true) (b:Binds K fd ps []) (l:∀ ds d,p ds = .ok d->ds.length=np):DefOk P w K mg base x k np p:=⟨⟨fa,fd,ps,h,m,kp,b⟩,l⟩
section
variable{X:Cx}{B:List Addr}{a b e:Expr}{f g:Ex}{pos:Pos}
theorem aG{k:Nat}     (h:DefOk X.prog X.w X.K X.mg X.base x k np p) (hr:Room j X.A) (hk:k<=j) (ha:PA X (e :: es) (tA X.K B r)) (hg:Gl X x:=by rfl) (hdb:(x==("__debug__" : Str))=false:=by decide)
  (he:starEach (e :: es) X.env=(false,eval e X.env) :: starEach es X.env:=by rfl) (hpl:(backTo pos (starEach es X.env)).any (·.1)=false:=by rfl):PE X (.Call (.Name x p0) (e :: es) [] pos) (tI X.K B (aP p r)):=by
 obtain ⟨fa,fd,ps,F,m,kp,bd⟩:=h.ex
 exact bFw F (hr.mono hk) m kp bd h.len ha hg hdb he hpl
theorem bG4{K:Frag}  {a:Addr}   {E:XK} (hS:SqL K H a (ns.map V.int)) (h:p [.lst (ns.map D.int)] = .ok (.bl true)):spI K 1 p [.ref a] H (fun v _=>v = .bl true) E:=by
 refine ⟨[],[.lst (ns.map D.int)],.bl true,fun b hb=>absurd hb (by simp),?_,rfl,h,fun v H' _ r=>bF.mp r⟩
 rw [xH]
 refine .cons (bZ.mpr ⟨a,_,rfl,hS,?_⟩) .nil
 clear hS h
 induction ns with
 | nil=>exact .nil
 | cons n ns ih=>exact .cons (aQ.mpr rfl) ih
theorem nP(hm:X.mg "len" = none)(ha:PE X a (tP X.K B f))(hg:Gl X "len" := by rfl)(hs:starEach [a] X.env=(false,eval a X.env) :: starEach [] X.env:=by rfl):PE X (.Call (.Name "len" p0) [a] [] pos) (tI X.K B (e1 lF f)):=by
 refine cM (rA (aMp.or (aMq.or aV5)) hg hm PySem.boot_len (dH ha iJ hs) (he:=hs)) ?_
 rintro σ H Q ⟨A,st,d,rs,hd,q⟩
 obtain ⟨x,hx,h2⟩:=R.ok_of hd
 refine ⟨A,st,x,rs,hx,fun v H1 s1 r1=>?_⟩
 cases x<;>first | (cases h2;done) | skip
 ·obtain ⟨c,h3⟩:=aK h2
  cases h3
  exact .inr (.inl ⟨_,by rw [r1.str],by rw [str_len];exact lim c,by rw [str_len];exact q _ H1 s1 (aQ.mpr rfl)⟩)
 ·cases h2
  obtain ⟨l,vs,e,h3,r3⟩:=r1.tup
  exact .inl ⟨l,vs,by rw [e],.inr h3,by rw [r3.length];exact q _ H1 s1 (aQ.mpr rfl)⟩
 ·cases h2
  obtain ⟨l,vs,e,h3,r3⟩:=r1.lst
  exact .inl ⟨l,vs,by rw [e],.inl h3,by rw [r3.length];exact q _ H1 s1 (aQ.mpr rfl)⟩
 ·rename_i t ks ds
  cases t<;>first | (cases h2;done) | skip
  cases h2
  obtain ⟨a,kvs,e,h3,h4⟩:=bB9 r1
  exact .inr (.inr ⟨a,kvs,by rw [e],h3,by rw [h4];exact q _ H1 s1 (aQ.mpr rfl)⟩)
theorem uO:PO X none (tO X.K B rD):=aXw aZz (by
 rintro σ H Q ⟨A,st,o,rs,ho,q⟩
 cases ho
 exact q H (bA.refl _))
theorem pZ(h:PE X e (tP X.K B f)):PO X (some e) (tO X.K B (gU f)):=aXw (bA0 h) (by
 rintro σ H Q ⟨A,st,o,rs,ho,q⟩
 obtain ⟨x,hx,h2⟩:=R.ok_of ho
 obtain ⟨i,rfl,h3⟩:=aR7 h2
 cases h3
 exact ⟨A,st,_,rs,hx,fun v H1 s1 r1=>⟨i,r1.int,q H1 s1⟩⟩)
theorem aPk{α:Type}(x:List α):∀ (k a:Nat),((List.range k).map (a + ·)).filterMap (x[·]?)=(x.drop a).take k
 | 0,a=>by simp
 | k+1,a=>by
  rw [List.range_succ_eq_map,map_cons,List.filterMap_cons,List.map_map]
  have e:((fun b=>a+b) ∘ Nat.succ)=fun b=>(a+1)+b:=by funext b;simp only [Function.comp_apply];omega
  rw [e]
  have ih:=aPk x k (a+1)
  rw [ih]
  by_cases h:a < x.length
  ·rw [Nat.add_zero,List.getElem?_eq_getElem h]
   simp only [List.drop_eq_getElem_cons h,List.take_succ_cons]
  ·rw [Nat.add_zero,List.getElem?_eq_none (by omega)]
   simp only [List.drop_eq_nil_of_le (by omega:x.length<=a),List.drop_eq_nil_of_le (by omega:x.length<=a+1),List.take_nil]
theorem aTj(n d:Nat)(o:Option Int):(match o with | none=>(d:Int) | some i=>if (1:Int) > 0 then max 0 (min (if i < 0 then i+(n:Int) else i) (n:Int)) else max (-1) (min (if i < 0 then i+(n:Int) else i) ((n:Int) - 1)))=((sIx n d o:Nat):Int):=by
 cases o with
 | none=>rfl
 | some i =>
  show (if (1:Int) > 0 then _ else _)=(((if i < 0 then (i+(n:Int)).toNat else min i.toNat n):Nat):Int)
  rw [if_pos (by decide)]
  by_cases h:i < 0
  ·rw [if_pos h,if_pos h];omega
  ·rw [if_neg h,if_neg h];omega
theorem aY3(lo hi:Option Int)(n:Nat):Builtin.Str.strSliceIndices lo hi 1 n=(List.range (sIx n n hi - sIx n 0 lo)).map (sIx n 0 lo + ·):=by
 unfold Builtin.Str.strSliceIndices
 simp only [show (1:Int) > 0 by decide,if_true]
 have e1:=aTj n 0 lo
 have e2:=aTj n n hi
 simp only [show (1:Int) > 0 by decide,if_true] at e1 e2
 rw [show ((0:Nat):Int)=0 from rfl] at e1
 refine Eq.trans (congrArg (fun z=>sliceRange z _ 1) (show _=((sIx n 0 lo:Nat):Int) from e1)) (Eq.trans (congrArg (fun z=>sliceRange _ z 1) (show _=((sIx n n hi:Nat):Int) from e2)) ?_)
 unfold sliceRange
 simp only [show (1:Int) > 0 by decide,if_true]
 have hc:(if ((sIx n 0 lo:Nat):Int) < ((sIx n n hi:Nat):Int) then (((sIx n n hi:Nat):Int) - ((sIx n 0 lo:Nat):Int)+1 - 1) / 1 else 0).toNat=sIx n n hi - sIx n 0 lo:=by
  by_cases h:((sIx n 0 lo:Nat):Int) < ((sIx n n hi:Nat):Int)
  ·rw [if_pos h,Int.ediv_one];omega
  ·rw [if_neg h];omega
 rw [hc]
 refine List.map_congr_left fun k _=>?_
 omega
theorem bBb(n d:Nat)(hd:d<=n)(o:Option Int):sIx n d o<=n:=by
 cases o with
 | none=>exact hd
 | some v =>
  show (if v < 0 then (v+(n:Int)).toNat else min v.toNat n)<=n
  by_cases hv:v < 0
  ·rw [if_pos hv];omega
  ·rw [if_neg hv];omega
theorem aV6(x:List Nat)(lo hi:Option Int):Txt.slice ⟨x.toArray⟩ lo hi=⟨(cut x lo hi).toArray⟩:=by
 unfold Txt.slice cut
 rw [str_len,aY3,length_map,length_range]
 have h1:=bBb x.length x.length (Nat.le_refl _) hi
 by_cases h:sIx x.length x.length hi - sIx x.length 0 lo=x.length
 ·have e0:sIx x.length 0 lo=0\/x.length=0:=by omega
  rw [if_pos (by simp [h]),h]
  rcases e0 with e0 | e0
  ·rw [e0,drop_zero,List.take_length]
  ·rw [List.length_eq_zero_iff.mp e0];simp
 ·rw [if_neg (by simp [h])]
  have e:(fun (i:Nat)=>(⟨x.toArray⟩:Str).cps[i]?)=fun i=>x[i]?:=by funext i;simp
  rw [e,aPk]
def bMe:V->Option Int->Option Int->Hp->VK->Prop:=fun x lo hi H Q=>∃ z:List Nat,x = .str ⟨z.toArray⟩/\z.length<=sizeLine/\Q (.str ⟨(cut z lo hi).toArray⟩) H
theorem bG5:SlR X bMe:=by
 intro pins s σ H x v vl vu lo hi sl Q I rx hs pl pu h
 obtain ⟨z,rfl,hz,q⟩:=h
 obtain ⟨t,rfl⟩:=rx
 refine ⟨"str", _,PySem.F.slot_str_getitem.lookup,typeIs_str _ _ _,?_⟩
 have hl:(Txt.slice ⟨z.toArray⟩ lo hi).length<=sizeLine:=Nat.le_trans (Txt.slice_le _ _ _) (by rw [str_len];exact hz)
 have fin:∀ t' k,EP X pins σ Q (.str (Txt.slice ⟨z.toArray⟩ lo hi) t') { s with toks:=k }:=fun t' k=>⟨.str ⟨(cut z lo hi).toArray⟩,H,I.tok k,⟨t',by rw [aV6]⟩,q⟩
 cases pl with
 | none =>
  cases pu with
  | none=>exact wpAny_getItem_str_slice (l:=none) (u:=none) (st:=none) hs rfl (post_val_or_str ⟨hl,fin⟩)
  | int j uj=>exact wpAny_getItem_str_slice (l:=none) (u:=some (j,uj)) (st:=none) hs rfl (post_val_or_str ⟨hl,fin⟩)
 | int i ui =>
  cases pu with
  | none=>exact wpAny_getItem_str_slice (l:=some (i,ui)) (u:=none) (st:=none) hs rfl (post_val_or_str ⟨hl,fin⟩)
  | int j uj=>exact wpAny_getItem_str_slice (l:=some (i,ui)) (u:=some (j,uj)) (st:=none) hs rfl (post_val_or_str ⟨hl,fin⟩)
theorem aPl{K:Frag}    (lo hi:Option Int) (r:bD K H ds vs):bD K H (cut ds lo hi) (aUh vs lo hi):=by
 unfold cut aUh
 rw [r.length]
 exact (r.drop _).take _
theorem aJj{lo hi:Option Expr}{l u:ExO}  (ha:PE X a (tP X.K B f)) (hl:PO X lo (tO X.K B l)) (hu:PO X hi (tO X.K B u)):PE X (.Subscript a (.Slice lo hi none p2) pos) (tI X.K B (eSl f l u)):=by
 refine cM (aOb (aS4.or bG5) ha hl hu) ?_
 rintro σ H Q ⟨A,st,d,rs,hd,q⟩
 obtain ⟨x,hx,h2⟩:=R.ok_of hd
 obtain ⟨l',hl',h3⟩:=R.ok_of h2
 obtain ⟨u',hu',h4⟩:=R.ok_of h3
 refine ⟨A,st,x,rs,hx,fun v H1 s1 r1=>⟨A,st,l',rs.mono s1,hl',fun H2 s2=>⟨A,st,u',rs.mono (s1.trans s2),hu',fun H3 s3=>?_⟩⟩⟩
 have r3:=r1.mono (s2.trans s3)
 cases x<;>first | (cases h4;done) | skip
 ·obtain ⟨c,h5⟩:=aK h4
  cases h5
  exact .inr ⟨_,r3.str,lim c,q _ H3 (s1.trans (s2.trans s3)) (aZ.mpr rfl)⟩
 ·cases h4
  obtain ⟨p,vs,e,h6,r6⟩:=r3.lst
  refine .inl ⟨p,vs,e,h6,fun n hn=>q _ _ (s1.trans (s2.trans (s3.trans (cG hn)))) ?_⟩
  exact gZ (rs.own.mono (s1.trans (s2.trans s3))) hn (aPl _ _ r6)
end
end Pu
namespace Pu
open PySem PySem.Spec PyProof.Rows L2
def clo(cells:List (Str × Addr)):List (Str × NameKind)->List (Str × Addr)->List (Str × Addr)
 | [],acc=>acc
 | (n,k) :: r,acc=>if k == .free then clo cells r ((n,(cells.lookup n).getD 0) :: acc) else clo cells r acc
theorem aDw{env:Env}:∀ (names:List (Str × NameKind)) (acc:List (Str × Addr)),(∀ y∈names,y.2 = .free->∃ c,env.cells.lookup y.1=some c) ->
  (forIn names acc fun x cs=>if x.2 == .free then (do let c <- cellOf env x.1;pure (ForInStep.yield ((x.1,c) :: cs))) else pure (ForInStep.yield cs):Sem (List (Str × Addr)))=pure (clo env.cells names acc)
 | [],acc,_=>by rw [forIn_nil];rfl
 | (n,k) :: r,acc,h=>by
  rw [forIn_cons]
  unfold clo
  by_cases hk:k = .free
  ·subst hk
   obtain ⟨c,e⟩:=h (n,.free) mem_cons_self rfl
   have e2:cellOf env n=pure c:=by unfold cellOf;rw [e]
   simp only [beq_self_eq_true,if_true,e2,e,getD_some]
   show (forIn r ((n,c) :: acc) _:Sem (List (Str × Addr)))=_
   exact aDw r _ fun y hy=>h y (mem_cons_of_mem _ hy)
  ·have hb:(k==NameKind.free)=false:=by simpa using hk
   simp only [hb,Bool.false_eq_true,if_false]
   show (forIn r acc _:Sem (List (Str × Addr)))=_
   exact aDw r _ fun y hy=>h y (mem_cons_of_mem _ hy)
theorem aKk{scope:Scope}  (h:∀ y∈scope.names,y.2 = .free->∃ c,env.cells.lookup y.1=some c):closureFor scope env=pure (clo env.cells scope.names []):=by
 have q:=aDw (env:=env) scope.names [] h
 unfold closureFor
 rw [<-q]
 simp only [pure_bind,bind_pure]
theorem aNf{cells:List (Str × Addr)}:∀ (names:List (Str × NameKind)) (acc:List (Str × Addr)) (x:Str) (c:Addr),(∀ y∈names,y.2 = .free->∃ c,cells.lookup y.1=some c)->(x,c)∈clo cells names acc->((x,NameKind.free)∈names/\cells.lookup x=some c)\/(x,c)∈acc
 | [],acc,x,c,_,h => .inr h
 | (n,k) :: r,acc,x,c,hn,h=>by
  unfold clo at h
  have hr:∀ y∈r,y.2 = .free->∃ c,cells.lookup y.1=some c:=fun y hy=>hn y (mem_cons_of_mem _ hy)
  by_cases hk:k = .free
  ·subst hk
   rw [if_pos (by simp)] at h
   obtain ⟨c',e⟩:=hn (n,.free) mem_cons_self rfl
   rcases aNf r _ x c hr h with ⟨h1,h2⟩ | h1
   ·exact .inl ⟨mem_cons_of_mem _ h1,h2⟩
   ·rcases List.mem_cons.mp h1 with h1 | h1
    ·cases h1
     refine .inl ⟨mem_cons_self,?_⟩
     have e':cells.lookup n=some c':=e
     rw [e'];rfl
    ·exact .inr h1
  ·rw [if_neg (by simpa using hk)] at h
   rcases aNf r _ x c hr h with ⟨h1,h2⟩ | h1
   ·exact .inl ⟨mem_cons_of_mem _ h1,h2⟩
   ·exact .inr h1
theorem aNg{cells:List (Str × Addr)}:∀ (names:List (Str × NameKind)) (acc:List (Str × Addr)) (x:Str),((x,NameKind.free)∈names\/∃ c,(x,c)∈acc)->∃ c,(x,c)∈clo cells names acc
 | [],acc,x,h=>by
  rcases h with h | h
  ·cases h
  ·exact h
 | (n,k) :: r,acc,x,h=>by
  unfold clo
  by_cases hk:k = .free
  ·subst hk
   rw [if_pos (by simp)]
   refine aNg r _ x ?_
   rcases h with h | ⟨c,h⟩
   ·rcases List.mem_cons.mp h with h | h
    ·cases h;exact .inr ⟨_,mem_cons_self⟩
    ·exact .inl h
   ·exact .inr ⟨c,mem_cons_of_mem _ h⟩
  ·rw [if_neg (by simpa using hk)]
   refine aNg r _ x ?_
   rcases h with h | h
   ·rcases List.mem_cons.mp h with h | h
    ·cases h;exact absurd rfl hk
    ·exact .inl h
   ·exact .inr h
theorem wJ{α:Type}:∀ {l:List (Str × α)} {x:Str} {c:α},(x,c)∈l->∃ c',l.lookup x=some c'
 | (n,v) :: r,x,c,h=>by
  rw [lookup_cons]
  cases hb:x==n with
  | true=>exact ⟨v,rfl⟩
  | false =>
   rcases List.mem_cons.mp h with h | h
   ·cases h;simp at hb
   ·exact wJ h
theorem oV{env:Env}:∀ (names:List (Str × NameKind)) (x:Str),(names.map fun (n,k)=>if (k==NameKind.free&&env.scope.kind == .function&&env.kindOf n==some .cell) then (n,NameKind.cell) else (n,k)).lookup x =
  (names.lookup x).map fun k=>if (k==NameKind.free&&env.scope.kind == .function&&env.kindOf x==some .cell) then NameKind.cell else k
 | [],_=>rfl
 | (n,k) :: r,x=>by
  have ih:=@oV env r x
  rw [map_cons,lookup_cons]
  show List.lookup x ((if (k==NameKind.free&&env.scope.kind == .function&&env.kindOf n==some .cell)=true then (n,NameKind.cell) else (n,k)) :: _)=_
  cases hx:x==n with
  | true =>
   have e:x=n:=beq_iff_eq.mp hx
   subst e
   by_cases hc:(k==NameKind.free&&env.scope.kind == .function&&env.kindOf x==some .cell)=true
   ·rw [if_pos hc,lookup_cons,lookup_cons,hx];simp only [map_some];rw [if_pos hc]
   ·rw [if_neg hc,lookup_cons,lookup_cons,hx];simp only [map_some];rw [if_neg hc]
  | false =>
   by_cases hc:(k==NameKind.free&&env.scope.kind == .function&&env.kindOf n==some .cell)=true
   ·rw [if_pos hc,lookup_cons,lookup_cons,hx];exact ih
   ·rw [if_neg hc,lookup_cons,lookup_cons,hx];exact ih
theorem qO:∀ (names:List (Str × NameKind)) (n:Nat) (acc:List (Str × Addr)),cellsFrom n names acc=cellsFrom n names []++acc
 | [],_,_=>rfl
 | (x,k) :: r,n,acc=>by
  unfold cellsFrom
  split
  ·rw [qO r (n+1) ((x,n) :: acc),qO r (n+1) [(x,n)],List.append_assoc];rfl
  ·exact qO r n acc
theorem yU:∀ (names:List (Str × NameKind)) (n:Nat) (acc:List (Str × Addr)) (x:Str) (c:Addr),(x,c)∈cellsFrom n names acc->(x,c)∈acc\/(x,NameKind.cell)∈names
 | [],_,_,_,_,h => .inl h
 | (y,k) :: r,n,acc,x,c,h=>by
  unfold cellsFrom at h
  split at h
  ·rename_i hk
   rcases yU r _ _ x c h with z | z
   ·rcases List.mem_cons.mp z with z | z
    ·cases z;exact .inr (by rw [show k=NameKind.cell from by simpa using hk];exact mem_cons_self)
    ·exact .inl z
   ·exact .inr (mem_cons_of_mem _ z)
  ·rcases yU r _ _ x c h with z | z
   ·exact .inl z
   ·exact .inr (mem_cons_of_mem _ z)
theorem qP:∀ (names:List (Str × NameKind)) (n:Nat) (acc:List (Str × Addr)) (x:Str),((x,NameKind.cell)∈names\/∃ c,(x,c)∈acc)->∃ c,(x,c)∈cellsFrom n names acc
 | [],_,_,x,h=>h.elim (fun z=>nomatch z) id
 | (y,k) :: r,n,acc,x,h=>by
  unfold cellsFrom
  split
  ·refine qP r _ _ x ?_
   rcases h with h | ⟨c,h⟩
   ·rcases List.mem_cons.mp h with h | h
    ·cases h;exact .inr ⟨n,mem_cons_self⟩
    ·exact .inl h
   ·exact .inr ⟨c,mem_cons_of_mem _ h⟩
  ·rename_i hk
   refine qP r _ _ x ?_
   rcases h with h | h
   ·rcases List.mem_cons.mp h with h | h
    ·cases h;exact absurd rfl hk
    ·exact .inl h
   ·exact .inr h
theorem aJk{α:Type}(x:Str):∀ (l r:List (Str × α)),(l++r).lookup x=(l.lookup x).or (r.lookup x)
 | [],r=>by simp
 | (y,v) :: l,r=>by
  rw [List.cons_append,lookup_cons,lookup_cons]
  cases hb:x==y with
  | true=>rfl
  | false=>exact aJk x l r
theorem qQ{α:Type}:∀ {l:List (Str × α)} {x:Str} {v:α},(l.map (·.1)).Nodup->(x,v)∈l->l.lookup x=some v
 | (y,w) :: l,x,v,nd,h=>by
  rw [map_cons,List.nodup_cons] at nd
  rw [lookup_cons]
  rcases List.mem_cons.mp h with h | h
  ·cases h;simp
  ·have hne:(x==y)=false:=by
    rw [beq_eq_false_iff_ne]
    intro z
    exact nd.1 (List.mem_map.mpr ⟨(x,v),h,z⟩)
   rw [hne]
   exact qQ nd.2 h
theorem aV7{A:Around}  {s:Shared} {scope:Scope} {gl:Addr} {cl:List (Str × Addr)}   {Q:Env->Shared->Prop}
  (hQ:∀ h',h'.Ns s.heap.objs.size (fun _=>none)->(∀ b o,s.heap.get? b=some o->h'.get? b=some o)->CellsOk h' (s.heap.objs.size+1) (cellsFrom (s.heap.objs.size+1) scope.names []) ->
   Q { scope:=scope,locals:=s.heap.objs.size,globals:=gl,cells:=cellsFrom (s.heap.objs.size+1) scope.names cl,qual:=qual,func:=none,code:=env.code,frame:=env.frame,builtins:=env.builtins } { s with heap:=h' }) :
  wpAny M A (newFunctionEnv scope gl cl [] qual none .none (some env)) Q E s:=by
 simp only [newFunctionEnv,Option.isSome_some,if_true]
 refine wpAny_bind (wpAny_alloc (wpAny_bind (wpAny_layCells _ (fun name kind cells=>by cases hkc:kind==NameKind.cell<;>simp [hkc]) _ _ _ _ ?_)))
 rw [forIn_nil]
 refine wpAny_bind (wpAny_pure (wpAny_pure ?_))
 have ok:=cellsFrom_ok scope.names (s.heap.push { cls := .type "dict", data := .dict #[] }) (s.heap.objs.size+1) [] ⟨fun _ _ hm=>(nomatch hm),List.Pairwise.nil⟩ (by rw [Heap.size_push];exact Nat.le_refl _)
 rw [Heap.size_push] at ok
 have e:({ s with heap:=s.heap.push { cls := .type "dict", data := .dict #[] } }:Shared).heap.objs.size=s.heap.objs.size+1:=Heap.size_push ..
 rw [e]
 exact hQ _ ((Heap.Ns.new s.heap (.type "dict")).keeps (pushCells_keeps _ _)) (fun b o q=>pushCells_keeps _ _ b o (Heap.get?_push_of_some _ q)) ok
structure CScope(X:Cx)(scope:Scope)(is:List Nat):Prop where
 kind:scope.kind = .function
 nd:(scope.names.map (·.1)).Nodup
 free:∀ x∈scope.names,x.2 = .free->X.env.kindOf x.1=some .cell\/X.env.kindOf x.1=some .free
 own:∀ (i:Nat) x,X.N[i]?=some x->(scope.names.lookup x=some .local\/scope.names.lookup x=some .cell)->i∈is
section
variable{X:Cx}{scope:Scope}{is:List Nat}
theorem CScope.names(S:CScope X scope is):∀ x∈scope.names,x.2 = .local->scope.names.lookup x.1=some .local:=fun x hx e=>qQ S.nd (by rw [<-e];exact hx)
def cW(X:Cx)(scope:Scope)(C:Addr)(s₀:Shared)(H₀:Hp)(fp:List Addr):Cx :=
 { X with s₀:=s₀,H₀:=H₀,env:=compEnvC scope (cellsFrom (C+1) scope.names (clo X.env.cells scope.names [])) C X.env,outer:=X.stack,stack:=X.stack,ex:=fp,fn:=fun x=>scope.names.lookup x==some .cell,pn:=[],xe:=fun _ _=>False,calm:=true }
theorem CScope.cells(S:CScope X scope is)(ok:X.Ok):∀ y∈scope.names,y.2 = .free->∃ c,X.env.cells.lookup y.1=some c:=fun y hy hf=>ok.has y.1 (S.free y hy hf)
theorem CScope.lk(S:CScope X scope is)(ok:X.Ok){n:Nat}{x:Str}{c:Addr}(h:(cellsFrom n scope.names (clo X.env.cells scope.names [])).lookup x=some c) :
  ((cellsFrom n scope.names []).lookup x=some c/\scope.names.lookup x=some .cell)\/(scope.names.lookup x=some .free/\X.env.cells.lookup x=some c):=by
 rw [qO,aJk] at h
 cases e:(cellsFrom n scope.names []).lookup x with
 | some c' =>
  rw [e] at h
  cases h
  rcases yU _ _ _ _ _ (PySem.mem_of_lookup e) with z | z
  ·cases z
  ·exact .inl ⟨rfl,qQ S.nd z⟩
 | none =>
  rw [e] at h
  have h:(clo X.env.cells scope.names []).lookup x=some c:=h
  rcases aNf scope.names [] x c (S.cells ok) (PySem.mem_of_lookup h) with ⟨h1,h2⟩ | h2
  ·exact .inr ⟨qQ S.nd h1,h2⟩
  ·cases h2
def aPm(is:List Nat)(σ:LSt):LSt:=is.foldl (fun τ i=>τ.set i none) σ
theorem aPn(is:List Nat):∀ σ:LSt,(aPm is σ).length=σ.length:=by
 induction is with
 | nil=>exact fun _=>rfl
 | cons i is ih=>intro σ;show (aPm is (σ.set i none)).length=_;rw [ih,length_set]
theorem aY4(is:List Nat):∀ (σ:LSt) (j:Nat) (v:V),(aPm is σ)[j]?=some (some v)->σ[j]?=some (some v)/\j ∉ is:=by
 induction is with
 | nil=>exact fun σ j v h=>⟨h,by simp⟩
 | cons i is ih =>
  intro σ j v h
  obtain ⟨h1,h2⟩:=ih (σ.set i none) j v h
  rw [List.getElem?_set] at h1
  by_cases e:i=j
  ·subst e
   rw [if_pos rfl] at h1
   split at h1<;>cases h1
  ·rw [if_neg e] at h1
   exact ⟨h1,fun z=>(List.mem_cons.mp z).elim (fun z=>e z.symm) h2⟩
theorem aRh{s:Shared}{fp:List Addr}   (S:CScope X scope is) (hc:X.calm=true) (I:Inv X pins σ H s) (hf:∀ b∈fp,aE9 X pins H b) (hlt:∀ b∈fp,b < s.heap.objs.size)
  (hn:h'.Ns s.heap.objs.size fun _=>none) (hk:∀ b o,s.heap.get? b=some o->h'.get? b=some o) (hcl:CellsOk h' (s.heap.objs.size+1) (cellsFrom (s.heap.objs.size+1) scope.names [])) :
  Inv (cW X scope s.heap.objs.size s H fp) [] (aPm is σ) H { s with heap:=h',toks:=t' }:=by
 have lk:=@CScope.lk X scope is S I.ok (s.heap.objs.size+1)
 have nf:∀ b∈fp,b≠s.heap.objs.size:=fun b hb=>Nat.ne_of_lt (hlt b hb)
 have cellLt:∀ x c,X.env.cells.lookup x=some c->c < s.heap.objs.size:=fun x c e=>by
  obtain ⟨v,q⟩:=I.cell x c e
  exact q.lt
 have ownGe:∀ x c,(cellsFrom (s.heap.objs.size+1) scope.names []).lookup x=some c->s.heap.objs.size+1<=c:=fun x c e=>(hcl.empty x c (PySem.mem_of_lookup e)).2
 have has:∀ x k,(k = .cell\/k = .free)->scope.names.lookup x=some k->∃ c,(cellsFrom (s.heap.objs.size+1) scope.names (clo X.env.cells scope.names [])).lookup x=some c:=fun x k hk e=>by
  have hm:=PySem.mem_of_lookup e
  rcases hk with rfl | rfl
  ·obtain ⟨c,q⟩:=qP scope.names (s.heap.objs.size+1) (clo X.env.cells scope.names []) x (.inl hm)
   exact wJ q
  ·obtain ⟨c,q⟩:=qP scope.names (s.heap.objs.size+1) (clo X.env.cells scope.names []) x (.inr (aNg (cells:=X.env.cells) scope.names [] x (.inl hm)))
   exact wJ q
 have knd:∀ x,(relabel scope X.env).names.lookup x=some .cell\/(relabel scope X.env).names.lookup x=some .free->scope.names.lookup x=some .cell\/scope.names.lookup x=some .free:=fun x hx=>by
  unfold relabel at hx
  rw [oV] at hx
  cases e:scope.names.lookup x with
  | none=>rw [e] at hx;rcases hx with hx | hx<;>cases hx
  | some k =>
   rw [e] at hx
   simp only [map_some] at hx
   by_cases hc:(k==NameKind.free&&X.env.scope.kind == .function&&X.env.kindOf x==some .cell)=true
   ·simp only [and_eq_true,beq_iff_eq] at hc
    exact .inr (by rw [hc.1.1])
   ·rw [if_neg hc] at hx;exact hx
 refine ⟨⟨I.ok.mod,?_,I.ok.glob,I.ok.blt,Nat.le_refl _,fun x y c h1 h2=>?_,fun x hx=>?_,fun x c hfn e=>?_,fun _=>I.ok.hd hc,I.ok.frames,.inl rfl,fun b hb=>⟨nf b hb,fun x c e z=>?_⟩,I.bs,?_,fun b o e hb=>?_,fun b hb z=>?_,I.stack,I.stkFree⟩,
  rfl,I.bare,Un.kept hk,⟨_,hn,fun i x v e1 e2 e3=>?_⟩,fun x c e=>?_,I.hok.fresh (Nat.le_refl _),fun x c e=>?_,(fun p hp=>absurd (show p∈([]:List (Addr × Obj)) from hp) (by simp)),I.hok.kept hk,by rw [aPn];exact I.len⟩
 ·show (relabel scope X.env).kind = .function
  exact S.kind
 ·rcases lk h1 with ⟨a1,_⟩ | ⟨_,a1⟩ <;> rcases lk h2 with ⟨a2,_⟩ | ⟨_,a2⟩
  ·exact name_of_addr hcl.apart (PySem.mem_of_lookup a1) (PySem.mem_of_lookup a2)
  ·exact absurd (Nat.lt_of_lt_of_le (cellLt y c a2) (Nat.le_of_succ_le (ownGe x c a1))) (Nat.lt_irrefl _)
  ·exact absurd (Nat.lt_of_lt_of_le (cellLt x c a1) (Nat.le_of_succ_le (ownGe y c a2))) (Nat.lt_irrefl _)
  ·exact I.ok.inj x y c a1 a2
 ·rcases knd x hx with e | e
  ·exact has x _ (.inl rfl) e
  ·exact has x _ (.inr rfl) e
 ·have hfn:scope.names.lookup x=some .cell:=beq_iff_eq.mp hfn
  rcases lk e with ⟨a1,_⟩ | ⟨a1,_⟩
  ·have:=ownGe x c a1
   show s.heap.objs.size<=c
   omega
  ·rw [hfn] at a1;cases a1
 ·rcases lk e with ⟨a1,_⟩ | ⟨_,a1⟩
  ·have h2:=hlt b hb
   rw [<-z] at h2
   exact absurd (Nat.lt_of_lt_of_le h2 (Nat.le_of_succ_le (ownGe x c a1))) (Nat.lt_irrefl _)
  ·exact (hf b hb).2.2.2.2.1 x c a1 z
 ·exact Nat.le_trans I.ok.bsz I.sz
 ·rcases (hf b hb).2.2.2.1 with z | z
  ·exact I.ok.noex b o e z
  ·exact absurd (Nat.lt_of_lt_of_le (Heap.lt_size e) (Nat.le_trans I.ok.bsz z)) (Nat.lt_irrefl _)
 ·rcases List.mem_cons.mp (I.stkSub b z) with z | z
  ·exact (hf b hb).2.1 z
  ·exact (hf b hb).2.2.1 z
 ·obtain ⟨e2,hni⟩:=aY4 is σ i v e2
  have e3:(relabel scope X.env).names.lookup x=some .local\/(relabel scope X.env).names.lookup x=some .cell\/(relabel scope X.env).names.lookup x=some .free:=e3
  have hfr:scope.names.lookup x=some .free:=by
   have e4:=e3
   unfold relabel at e4
   rw [oV] at e4
   cases e:scope.names.lookup x with
   | none=>rw [e] at e4;rcases e4 with e4 | e4 | e4<;>cases e4
   | some k =>
    rw [e] at e4
    simp only [map_some] at e4
    by_cases hc:(k==NameKind.free&&X.env.scope.kind == .function&&X.env.kindOf x==some .cell)=true
    ·simp only [and_eq_true,beq_iff_eq] at hc
     rw [hc.1.1]
    ·rw [if_neg hc] at e4
     rcases e4 with e4 | e4 | e4
     ·exact absurd (S.own i x e1 (.inl (by rw [e,e4]))) hni
     ·exact absurd (S.own i x e1 (.inr (by rw [e,e4]))) hni
     ·exact e4
  have hrel:(relabel scope X.env).names.lookup x=some .cell\/(relabel scope X.env).names.lookup x=some .free:=by
   rcases e3 with e3 | e3 | e3
   ·unfold relabel at e3
    rw [oV,hfr] at e3
    simp only [map_some] at e3
    split at e3<;>cases e3
   ·exact .inl e3
   ·exact .inr e3
  have hvis:=S.free _ (PySem.mem_of_lookup hfr) rfl
  obtain ⟨m,hm,hl⟩:=I.loc
  obtain ⟨u,ru,lu⟩:=hl i x v e1 e2 (.inr hvis)
  refine ⟨u,ru,.inr ⟨hrel,?_⟩⟩
  rcases lu with ⟨k1,_⟩ | ⟨_,c,ec,zc⟩
  ·have k1:X.env.kindOf x=some .local:=k1
   rcases hvis with q | q<;>rw [k1] at q<;>cases q
  ·obtain ⟨c2,e5⟩:=has x _ (.inr rfl) hfr
   rcases lk e5 with ⟨_,a1⟩ | ⟨_,a1⟩
   ·rw [hfr] at a1;cases a1
   ·rw [ec] at a1
    cases a1
    exact ⟨c,e5,zc.keeps hk⟩
 ·rcases lk e with ⟨a1,_⟩ | ⟨_,a1⟩
  ·exact ⟨_,(hcl.empty x c (PySem.mem_of_lookup a1)).1⟩
  ·obtain ⟨v,q⟩:=I.cell x c a1
   exact ⟨v,q.keeps hk⟩
 ·rcases lk e with ⟨a1,_⟩ | ⟨_,a1⟩
  ·exact I.hok.fresh (by have:=ownGe x c a1;omega)
  ·exact I.freeC x c a1
end
end Pu
namespace Pu
open PySem PySem.Spec PyProof.Rows L2
theorem aJl(elt target iter c:Expr)(scope:Scope)(pos:Pos)(it acc:Value)(env:Env) :
  compTurn (.ListComp elt [⟨target,iter,[c],0⟩] scope pos) 0 it acc env=(standAt iter.pos >>= fun _=>pyNext it >>= fun r=>match r with
   | none=>pure (.done .next)
   | some v=>letOwnedTupleGo target it v >>= fun _=>assign target env v >>= fun _=>isTrue c env (eval c env) >>= fun ok =>
    if ok=true then (eval elt env >>= fun x=>call (.builtin "list.append") [acc,x] >>= fun _=>again (.compLoop (.ListComp elt [⟨target,iter,[c],0⟩] scope pos) 0 it acc env))
    else again (.compLoop (.ListComp elt [⟨target,iter,[c],0⟩] scope pos) 0 it acc env)):=by
 unfold compTurn
 simp [forIn_cons,forIn_nil]
 rfl
theorem aHm(elt target iter:Expr)(scope:Scope)(pos:Pos)(it acc:Value)(env:Env) :
  compTurn (.ListComp elt [⟨target,iter,[],0⟩] scope pos) 0 it acc env=(standAt iter.pos >>= fun _=>pyNext it >>= fun r=>match r with
   | none=>pure (.done .next)
   | some v=>letOwnedTupleGo target it v >>= fun _=>assign target env v >>= fun _ =>
    (eval elt env >>= fun x=>call (.builtin "list.append") [acc,x] >>= fun _=>again (.compLoop (.ListComp elt [⟨target,iter,[],0⟩] scope pos) 0 it acc env))):=by
 unfold compTurn
 simp [forIn_nil]
 rfl
section
variable{X:Cx}{scope:Scope}{is:List Nat}{elt tg iter:Expr}{pos:Pos}{wi:TI}{g:TG}{te:TE}{tt:TT}
def tLC(is:List Nat)(wi:TI)(g:TG)(tt:TT)(te:TE):TE:=fun σ H Q=>wi σ H fun J H1=>∀ p,H1 p=none->∃ W:Nat->Nat->LSt->List V->Hp->Prop,(∃ m,W 0 m (aPm is σ) [] (upd H1 p (.lst []))) /\
 ∀ i m τ vs H,W i m τ vs H->H p=some (.lst vs)/\((J.stop i H/\Q (.ref p) H)\/(J.go i H/\∀ x H',J.yld i H x H'->g x τ H' fun τ2 H2=>tt τ2 H2 fun k H3 =>
  if k=true then te τ2 H3 fun y H4=>H4 p=some (.lst vs)/\vs.length < sizeLine/\∃ m',m' < m/\W (i+1) m' τ2 (vs++[y]) (upd H4 p (.lst (vs++[y]))) else ∃ m',m' < m/\W (i+1) m' τ2 vs H3))
theorem aI9{σ5:LSt}{H5:Hp}{s5:Shared}{fp:List Addr}   (I:Inv X pins σ H s) (hf:∀ b∈fp,aE9 X pins H b) (hC:s.heap.objs.size<=C) (J:Inv (cW X scope C s H fp) [] σ5 H5 s5)
  (hs:Heap.SameBut C s5.heap h'):Inv X pins σ H5 { s5 with heap:=h' }:=by
 have hfree:H5 C=none:=J.free
 have ne:∀ b o,s.heap.get? b=some o->b≠C:=fun b o e z=>by
  have:=Heap.lt_size e
  subst z
  exact absurd (Nat.lt_of_lt_of_le this hC) (Nat.lt_irrefl _)
 have u:Un (frs X.stack) fp H H5 s.heap h':=⟨fun b o e n hb hx=>hs.extBut b o (ne b o e) (J.base.keep b o e n hb hx),fun b o e n hb hx=>by
   obtain ⟨sl,q⟩:=J.base.slot b o e n hb hx
   exact ⟨sl,hs.extBut b _ (ne b o e) q⟩,J.base.free,fun b o e hx=>by
   obtain ⟨o',q⟩:=J.base.there b o e hx
   exact ⟨o',hs.extBut b _ (ne b o e) q⟩,J.base.tups,J.base.frzs,J.base.tbls⟩
 have hok:HOk X.prog X.w H5 h':=fun b o e=>by
  refine (J.hok b o e).stay (fun c v hc q=>hs.extBut c v ?_ q) (fun _ q=>q) fun _ _ q=>q
  rintro rfl
  rcases hc with z | z
  ·subst z;rw [hfree] at e;cases e
  ·rw [hfree] at z;cases z
 obtain ⟨hh,gg,dd,tt,os⟩:=s5
 have hos:os=s.os:=J.os
 subst hos
 have fin:=I.call (h':=h') (g':=gg) (d':=dd) (t':=tt) (ch:=fp) u hok J.bare fun b hb=>⟨(hf b hb).2.2.2.1,(hf b hb).2.1,(hf b hb).2.2.2.2.1,(hf b hb).2.2.2.2.2⟩
 exact fin
theorem aLz{p:Addr}   {k:Sem α} {Q:α->Shared->Prop}  (he:PE Y elt te) (hx:∀ e s',Y.xe e s'->E e s') (I:Inv Y pins τ H s) (hw:te τ H fun y H4=>H4 p=some (.lst vs)/\vs.length < sizeLine/\∀ s',Inv Y pins τ (upd H4 p (.lst (vs++[y]))) s'->wpAny (model Y.prog Y.w) Y.A k Q E s') :
  wpAny (model Y.prog Y.w) Y.A (eval elt Y.env >>= fun x=>call (.builtin "list.append") [.ref p,x] >>= fun _=>k) Q E s:=by
 refine wpAny_bind (wpAny_mono (he pins s τ H _ I hw) (fun u s1 ⟨y,H4,I4,r4,hp,hz,q⟩=>?_) hx)
 obtain ⟨z,its,n,r,hl,e⟩:=I4.lstM hp
 refine wpAny_bind (call_meets PySem.F.slot_list_append ⟨_,e,rfl⟩ PySem.F.entry_list_append (PySem.F.args_list_append_2 _ _) (PySem.list_append p its.toArray n u (by rw [List.size_toArray];omega)) ⟨e,?_⟩)
 refine q _ (I4.lset (its':=its++[u]) (t':=s1.toks) hp e (by simp) (r.append (.cons r4 .nil)) ?_)
 rw [length_append,List.length_singleton]
 omega
end
theorem aV8{env:Env}{g:TG}   {it p:Addr} {fp:List Addr} {tn:Nat->Heap->Prop} {J:It} {R:Result->Shared->Prop} {iterPos:Pos} {rest:Sem Fin}
  (T:Turn Y.prog Y.w Y.K tg J fp it tn) (hc:Y.calm=true) (hE:Y.xe=fun _ _=>False) (hg:PG Y tg g) (hq:(Code.compLoop e 0 (.ref it) (.ref p) Y.env).quiet=true)
  (hden:∀ (s:Shared) (Q:Fin->Shared->Prop),wpAny (model Y.prog Y.w) Y.A (pyNext (.ref it) >>= fun r=>match r with
    | none=>pure (.done .next)
    | some v=>letOwnedTupleGo tg (.ref it) v >>= fun _=>assign tg Y.env v >>= fun _=>rest) Q (fun _ _=>False) s ->
   wpAny (model Y.prog Y.w) (Y.A.under (.compLoop e 0 (.ref it) (.ref p) Y.env)) ((model Y.prog Y.w).den (.compLoop e 0 (.ref it) (.ref p) Y.env)) Q (fun _ _=>False) s)
  (hrest:∀ (τ:LSt) (H:Hp) (s:Shared) (pins:List (Addr × Obj)) (vs:List V) (N:Hp->List V->Prop) (Q:Fin->Shared->Prop),Inv Y pins τ H s ->
   (tt τ H fun k H3=>if k=true then te τ H3 fun y H4=>H4 p=some (.lst vs)/\vs.length < sizeLine/\N (upd H4 p (.lst (vs++[y]))) (vs++[y]) else N H3 vs) ->
   (∀ s' H' ws,Inv Y pins τ H' s'->N H' ws->Q (.again (.compLoop e 0 (.ref it) (.ref p) Y.env)) s')->wpAny (model Y.prog Y.w) Y.A rest Q (fun _ _=>False) s)
  (W:Nat->Nat->LSt->List V->Hp->Prop) {Qe:Hp->Prop}
  (step:∀ i m τ vs H,W i m τ vs H->H p=some (.lst vs)/\((J.stop i H/\Qe H)\/(J.go i H/\∀ x H',J.yld i H x H'->g x τ H' fun τ2 H2=>tt τ2 H2 fun k H3 =>
   if k=true then te τ2 H3 fun y H4=>H4 p=some (.lst vs)/\vs.length < sizeLine/\∃ m',m' < m/\W (i+1) m' τ2 (vs++[y]) (upd H4 p (.lst (vs++[y]))) else ∃ m',m' < m/\W (i+1) m' τ2 vs H3)))
  (hR:∀ τ H s,Inv Y [] τ H s->Qe H->R (.ok .next) s)     {m:Nat} (I:Inv Y [] τ H s) (st:tn i s.heap) (fr:∀ b∈fp,aE9 Y [] H b) (w:W i m τ vs H) :
  codeAny (model Y.prog Y.w) Y.A (.compLoop e 0 (.ref it) (.ref p) Y.env) R s:=by
 have stat:∀ {H':Hp},(∀ b∈fp,H' b=none)->∀ b∈fp,aE9 Y [] H' b:=fun hn b hb=>⟨hn b hb,(fr b hb).2⟩
 refine codeAny_loop hq (fun n s'=>∃ i τ' vs' H',Inv Y [] τ' H' s'/\tn i s'.heap/\(∀ b∈fp,H' b=none)/\W i n τ' vs' H') (fun n s3 hI=>?_) m ⟨i,τ,vs,H,I,st,fun b hb=>(fr b hb).1,w⟩
 obtain ⟨i,τ3,vs3,H3,I3,st3,fr3,w3⟩:=hI
 refine wpAny_mono (hden s3 _ ?_) (fun _ _ q=>q) (fun _ _ q=>q.elim)
 obtain ⟨hp,hs⟩:=step i n τ3 vs3 H3 w3
 rcases hs with ⟨stop,qe⟩ | ⟨go,hs⟩
 ·refine wpAny_bind (thn (T.done Y rfl rfl rfl hc i [] s3 τ3 H3 (fun _ _=>False) I3 (stat fr3) st3 stop) fun r s4 ⟨hr,I4⟩=>?_)
  subst hr
  exact wpAny_pure (hR τ3 H3 s4 I4 qe)
 ·refine wpAny_bind (thn (T.item Y rfl rfl rfl hc i [] s3 τ3 H3 (fun _ _=>False) I3 (stat fr3) st3 go) fun r s4 ⟨u,hr,h4⟩=>?_)
  subst hr
  refine wpAny_bind (thn h4 fun _ s5 ⟨x,H5,I5,r5,y5,st5,fr5⟩=>?_)
  have I5':=I5.pinned (stat fr5) (T.obj _ _ st5)
  have hg':=hg _ s5 τ3 H5 x u _ I5' r5 (hs x H5 y5)
  rw [hE] at hg'
  refine wpAny_bind (thn hg' fun _ s6 ⟨τ6,H6,I6,q6⟩=>?_)
  refine hrest τ6 H6 s6 _ vs3 (fun H' ws=>∃ m',m' < n/\W (i+1) m' τ6 ws H') _ I6 q6 fun s7 H7 ws I7 ⟨m',hm,w7⟩=>?_
  refine ⟨rfl,m',hm,i+1,τ6,ws,H7,I7.unpinned,T.keep _ _ _ st5 fun b hb o e=>(I7.pin (b,o) (List.mem_append_right _ (List.mem_append_right _ (yE hb e)))).1,fun b hb=>?_,w7⟩
  obtain ⟨o,e,d⟩:=T.obj _ _ st5 b hb
  exact (I7.pin (b,o) (List.mem_append_right _ (List.mem_append_right _ (yE hb e)))).2.1
end Pu
namespace Pu
open PySem PySem.Spec PyProof.Rows L2
section
variable{X:Cx}{scope:Scope}{is:List Nat}{elt tg iter c:Expr}{pos:Pos}{wi:TI}{g:TG}{te:TE}{tt:TT}
theorem xM{use:Option (Value->Sem Unit)}  {ppos:Pos} {pins:List (Addr × Obj)} {s:Shared}  {H:Hp} {Q:VK} {ifs:List Expr} {rest:Env->Value->Value->Sem Fin} (S:CScope X scope is) (hc:X.calm=true) (hi:L2.PI X tg iter wi) (hg:∀ C s₀ H₀ fp,PG (cW X scope C s₀ H₀ fp) tg g)
  (hquiet:∀ it acc env,(Code.compLoop (.ListComp elt [⟨tg,iter,ifs,0⟩] scope pos) 0 it acc env).quiet=true)
  (hden:∀ C s₀ H₀ fp it p (s:Shared) (Q:Fin->Shared->Prop),wpAny (model X.prog X.w) X.A (pyNext (.ref it) >>= fun r=>match r with
    | none=>pure (.done .next)
    | some v=>letOwnedTupleGo tg (.ref it) v >>= fun _=>assign tg (cW X scope C s₀ H₀ fp).env v >>= fun _=>rest (cW X scope C s₀ H₀ fp).env (.ref it) (.ref p)) Q (fun _ _=>False) s ->
   wpAny (model X.prog X.w) (X.A.under (.compLoop (.ListComp elt [⟨tg,iter,ifs,0⟩] scope pos) 0 (.ref it) (.ref p) (cW X scope C s₀ H₀ fp).env)) ((model X.prog X.w).den (.compLoop (.ListComp elt [⟨tg,iter,ifs,0⟩] scope pos) 0 (.ref it) (.ref p) (cW X scope C s₀ H₀ fp).env)) Q (fun _ _=>False) s)
  (hrest:∀ C s₀ H₀ fp it p (τ:LSt) (H:Hp) (s:Shared) (pins:List (Addr × Obj)) (vs:List V) (N:Hp->List V->Prop) (Q:Fin->Shared->Prop),Inv (cW X scope C s₀ H₀ fp) pins τ H s ->
   (tt τ H fun k H3=>if k=true then te τ H3 fun y H4=>H4 p=some (.lst vs)/\vs.length < sizeLine/\N (upd H4 p (.lst (vs++[y]))) (vs++[y]) else N H3 vs) ->
   (∀ s' H' ws,Inv (cW X scope C s₀ H₀ fp) pins τ H' s'->N H' ws->Q (.again (.compLoop (.ListComp elt [⟨tg,iter,ifs,0⟩] scope pos) 0 (.ref it) (.ref p) (cW X scope C s₀ H₀ fp).env)) s') ->
   wpAny (model X.prog X.w) X.A (rest (cW X scope C s₀ H₀ fp).env (.ref it) (.ref p)) Q (fun _ _=>False) s)
  (hs:∀ x,foldedSetIterable iter X.env x=pure x) (I:Inv X pins σ H s) (h:tLC is wi g tt te σ H Q)
  (hfin:∀ C p H5 s5 m5 s3 H3 fp τ,s3.heap.objs.size<=C->Inv X pins σ H3 s3->(∀ b∈fp,aE9 X pins H3 b)->Inv (cW X scope C s3 H3 fp) [] τ H5 s5->s5.heap.Ns C m5->Q (.ref p) H5->compPost (model X.prog X.w) X.A X.xe use Qf (.ref p) C (.ok .next) s5) :
  wpAny (model X.prog X.w) X.A (comprehension (.ListComp elt [⟨tg,iter,ifs,0⟩] scope pos) scope X.env ppos (newList []) false (eval iter X.env) use) Qf X.xe s:=by
 refine wpAny_comprehension_free (use:=use) rfl hs (aKk (S.cells I.ok)) S.kind S.names ?_
 refine thn (hi pins s σ H _ I h) fun v s1 h1=>thn h1 fun itv s2 h2=>?_
 obtain ⟨it,fp,tn,J,H2,e,I2,T,st2,f2,hW⟩:=h2
 subst e
 refine wpAny_newObj_type (aV7 fun h₁ hns₁ hkp hcl₁=>?_)
 have I3:Inv X pins σ (upd H2 s2.heap.objs.size (.lst [])) { s2 with heap:=s2.heap.push { cls := .type "list", data := .seq ([]:List Value).toArray } }:=I2.lnew (t':=s2.toks) .nil (zero_le _)
 obtain ⟨W,⟨m,w0⟩,step⟩:=hW s2.heap.objs.size I2.fresh
 have hob:∀ b∈fp,b < s2.heap.objs.size:=fun b hb=>let ⟨o,e,_⟩:=T.obj 0 _ st2 b hb;Heap.lt_size e
 have hfp:∀ b∈fp,aE9 X pins (upd H2 s2.heap.objs.size (.lst [])) b:=fun b hb=>⟨by rw [bM (Nat.ne_of_lt (hob b hb))];exact (f2 b hb).1,(f2 b hb).2⟩
 have hk:∀ b o,(s2.heap.push { cls := .type "list", data := .seq ([]:List Value).toArray }).get? b=some o->h₁.get? b=some o:=hkp
 have Ic:=aRh (t':=s2.toks) S hc I3 hfp (fun b hb=>Nat.lt_of_lt_of_le (hob b hb) (by rw [Heap.size_push];exact le_succ _)) hns₁ hk hcl₁
 have st4:tn 0 h₁:=T.keep 0 _ _ st2 fun b _ o e=>hk b o (Heap.get?_push_of_some _ e)
 have fr4:∀ b∈fp,aE9 (cW X scope _ _ _ fp) [] (upd H2 s2.heap.objs.size (.lst [])) b:=fun b hb=>⟨(hfp b hb).1,(Ic.ok.exf b hb).1,Ic.ok.exfs b hb,.inl hb,fun x c e=>(Ic.ok.exf b hb).2 x c e,fun p hp=>absurd (show p∈([]:List (Addr × Obj)) from hp) (by simp)⟩
 have loop:=aV8 (Y:=cW X scope _ _ _ fp) (e := .ListComp elt [⟨tg,iter,ifs,0⟩] scope pos) (env:=X.env) (iterPos:=pos) T rfl rfl (hg _ _ _ fp) (hquiet _ _ _) (hden _ _ _ fp it s2.heap.objs.size) (hrest _ _ _ fp it s2.heap.objs.size) W step
  (R:=compPost (model X.prog X.w) X.A X.xe use Qf (.ref s2.heap.objs.size) (s2.heap.push { cls := .type "list", data := .seq ([]:List Value).toArray }).objs.size) (fun τ H5 s5 I5 q5=>by
   obtain ⟨m5,hn5,_⟩:=I5.loc
   exact hfin _ _ H5 s5 m5 _ _ fp τ (Nat.le_refl _) I3 hfp I5 hn5 q5) Ic st4 fr4 w0
 exact codeAny_compStart_list loop (T.self _ 0 _ _ _ st4 loop)
theorem uP{it acc:Value}  : (Code.compLoop e 0 it acc env).quiet=true:=rfl
theorem bJz {it p : Addr}  {Q : Fin -> Shared -> Prop} (h : wpAny (model X.prog X.w) X.A (pyNext (.ref it) >>= fun r => match r with
        | none=>pure (.done .next)
        | some v=>letOwnedTupleGo tg (.ref it) v >>= fun _=>assign tg Y.env v >>= fun _=>(eval elt Y.env >>= fun x=>call (.builtin "list.append") [.ref p,x] >>= fun _=>again (.compLoop (.ListComp elt [⟨tg,iter,[],0⟩] scope pos) 0 (.ref it) (.ref p) Y.env))) Q (fun _ _=>False) s) :
      wpAny (model X.prog X.w) (X.A.under (.compLoop (.ListComp elt [⟨tg,iter,[],0⟩] scope pos) 0 (.ref it) (.ref p) Y.env)) ((model X.prog X.w).den (.compLoop (.ListComp elt [⟨tg,iter,[],0⟩] scope pos) 0 (.ref it) (.ref p) Y.env)) Q (fun _ _=>False) s:=by
 show wpAny _ _ ((compTurn (.ListComp elt [⟨tg,iter,[],0⟩] scope pos) 0 (.ref it) (.ref p) Y.env).onRaise (fun x=>do noteFrame x Y.env;theTreesLotGoes x)) _ _ s
 refine wpAny_noted ?_
 rw [aHm]
 exact wpAny_bind (wpAny_standAt (wpAny_mono h (fun _ _ q=>q) fun _ _ q=>q.elim))
theorem bG6 {it p : Addr}  {Q : Fin -> Shared -> Prop} (h : wpAny (model X.prog X.w) X.A (pyNext (.ref it) >>= fun r => match r with
        | none=>pure (.done .next)
        | some v=>letOwnedTupleGo tg (.ref it) v >>= fun _=>assign tg Y.env v >>= fun _=>(isTrue c Y.env (eval c Y.env) >>= fun ok=>if ok=true then (eval elt Y.env >>= fun x=>call (.builtin "list.append") [.ref p,x] >>= fun _=>again (.compLoop (.ListComp elt [⟨tg,iter,[c],0⟩] scope pos) 0 (.ref it) (.ref p) Y.env))
          else again (.compLoop (.ListComp elt [⟨tg,iter,[c],0⟩] scope pos) 0 (.ref it) (.ref p) Y.env))) Q (fun _ _=>False) s) :
      wpAny (model X.prog X.w) (X.A.under (.compLoop (.ListComp elt [⟨tg,iter,[c],0⟩] scope pos) 0 (.ref it) (.ref p) Y.env)) ((model X.prog X.w).den (.compLoop (.ListComp elt [⟨tg,iter,[c],0⟩] scope pos) 0 (.ref it) (.ref p) Y.env)) Q (fun _ _=>False) s:=by
 show wpAny _ _ ((compTurn (.ListComp elt [⟨tg,iter,[c],0⟩] scope pos) 0 (.ref it) (.ref p) Y.env).onRaise (fun x=>do noteFrame x Y.env;theTreesLotGoes x)) _ _ s
 refine wpAny_noted ?_
 rw [aJl]
 exact wpAny_bind (wpAny_standAt (wpAny_mono h (fun _ _ q=>q) fun _ _ q=>q.elim))
def aNh:TT:=fun _ H Q=>Q true H
theorem bDe(hY:Y.xe=fun _ _=>False)(he:PE Y elt te){it p:Addr}(τ:LSt)(H:Hp)(s:Shared)(pins:List (Addr × Obj))(vs:List V)(N:Hp->List V->Prop)(Q:Fin->Shared->Prop)(I:Inv Y pins τ H s)
  (h:aNh τ H fun k H3=>if k=true then te τ H3 fun y H4=>H4 p=some (.lst vs)/\vs.length < sizeLine/\N (upd H4 p (.lst (vs++[y]))) (vs++[y]) else N H3 vs)
  (mono:∀ (Q Q':VK),(∀ v H',Q v H'->Q' v H')->te τ H Q->te τ H Q')
  (q:∀ s' H' ws,Inv Y pins τ H' s'->N H' ws->Q (.again (.compLoop (.ListComp elt [⟨tg,iter,[],0⟩] scope pos) 0 (.ref it) (.ref p) Y.env)) s') :
  wpAny (model Y.prog Y.w) Y.A (eval elt Y.env >>= fun x=>call (.builtin "list.append") [.ref p,x] >>= fun _=>again (.compLoop (.ListComp elt [⟨tg,iter,[],0⟩] scope pos) 0 (.ref it) (.ref p) Y.env)) Q (fun _ _=>False) s:=by
 have h':te τ H fun y H4=>H4 p=some (.lst vs)/\vs.length < sizeLine/\N (upd H4 p (.lst (vs++[y]))) (vs++[y]):=h
 exact aLz he (by rw [hY];exact fun _ _ z=>z) I (mono _ _ (fun y H4 ⟨a,b,n⟩=>⟨a,b,fun s' I'=>wpAny_pure (q s' _ _ I' n)⟩) h')
end
end Pu
namespace Pu
open PySem PySem.Spec PyProof.Rows L2
section
variable{K:Frag}   {st st':PSt} 
theorem bBc(is:List Nat):∀ st:PSt,(clr is st).length=st.length:=by
 induction is with
 | nil=>exact fun _=>rfl
 | cons i is ih=>intro st;show (clr is (st.set i none)).length=_;rw [ih,length_set]
theorem aIa(is:List Nat):∀ (st:PSt) (j:Nat) (x:Sl),(clr is st)[j]?=some (some x)->st[j]?=some (some x)/\j ∉ is:=by
 induction is with
 | nil=>exact fun σ j v h=>⟨h,by simp⟩
 | cons i is ih =>
  intro σ j v h
  obtain ⟨h1,h2⟩:=ih (σ.set i none) j v h
  rw [List.getElem?_set] at h1
  by_cases e:i=j
  ·subst e
   rw [if_pos rfl] at h1
   split at h1<;>cases h1
  ·rw [if_neg e] at h1
   exact ⟨h1,fun z=>(List.mem_cons.mp z).elim (fun z=>e z.symm) h2⟩
theorem aJm(is:List Nat):∀ (σ:LSt) (j:Nat),j ∉ is->(aPm is σ)[j]?=σ[j]?:=by
 induction is with
 | nil=>exact fun σ j _=>rfl
 | cons i is ih =>
  intro σ j h
  show (aPm is (σ.set i none))[j]?=_
  rw [ih _ j fun z=>h (mem_cons_of_mem _ z),List.getElem?_set,if_neg (show ¬ i=j from fun z=>h (z ▸ mem_cons_self))]
theorem RS.clr(is:List Nat)(r:RS K B A H st σ):RS K B A H (Pu.clr is st) (aPm is σ) where
 len:=by rw [bBc,aPn,r.len]
 own:=r.own
 dis:=r.dis
 val:=fun i d e=>by
  obtain ⟨e1,h⟩:=aIa is st i _ e
  rw [aJm is σ i h]
  exact r.val i d e1
 lst:=fun i kk xs e=>by
  obtain ⟨e1,h⟩:=aIa is st i _ e
  obtain ⟨a,o,vs,e2,m,h1,ko,q,u⟩:=r.lst i kk xs e1
  refine ⟨a,o,vs,by rw [aJm is σ i h];exact e2,m,h1,ko,q,fun j k' ys ej ej2=>?_⟩
  obtain ⟨e3,h3⟩:=aIa is st j _ ej
  rw [aJm is σ j h3] at ej2
  exact u j k' ys e3 ej2
theorem RS.weaken(r:RS K B A H st σ)(hl:st'.length=st.length)(h:∀ (j:Nat) (x:Sl),st'[j]?=some (some x)->st[j]?=some (some x)):RS K B A H st' σ where
 len:=hl.trans r.len
 own:=r.own
 dis:=r.dis
 val:=fun i d e=>r.val i d (h i _ e)
 lst:=fun i kk xs e=>by
  obtain ⟨a,o,vs,e2,m,h1,ko,q,u⟩:=r.lst i kk xs (h i _ e)
  exact ⟨a,o,vs,e2,m,h1,ko,q,fun j k' ys ej ej2=>u j k' ys (h j _ ej) ej2⟩
theorem mem_mid{p b:Addr}:b∈A++p :: B ↔ b=p\/b∈A++B:=by
 simp only [List.mem_append,mem_cons]
 constructor
 ·rintro (h | h | h)
  ·exact .inr (.inl h)
  ·exact .inl h
  ·exact .inr (.inr h)
 ·rintro (h | h | h)
  ·exact .inr (.inl h)
  ·exact .inl h
  ·exact .inr (.inr h)
theorem aPo{p:Addr}  (hp:H p=none):bA (hide (A++B) H) (hide (A++p :: B) (upd H p o)):=fun b u q=>by
 have q1:=bG _ _ _ _ q
 have hb:b ∉ A++B:=fun z=>by rw [eY z] at q;cases q
 have ne:b≠p:=aX q1 hp
 rw [bY (show b ∉ A++p :: B from fun z=>(mem_mid.mp z).elim ne hb),bM ne]
 exact q1
theorem RS.grow(r:RS K B A H st σ){p:Addr}  (hp:H p=none):RS K (p :: B) A (upd H p (.lst vs)) st σ where
 len:=r.len
 own:=fun a ha=>by
  by_cases e:a=p
  ·subst e;rw [bT];rfl
  ·rw [bM e];exact r.own a ((mem_mid.mp ha).resolve_left e)
 dis:=fun a ha hb=>by
  rcases List.mem_cons.mp hb with rfl | hb
  ·exact r.own.free hp (List.mem_append_left _ ha)
  ·exact r.dis a ha hb
 val:=fun j d' e=>let ⟨u,e1,q⟩:=r.val j d' e;⟨u,e1,q.mono (aPo hp)⟩
 lst:=fun j kk xs e=>by
  obtain ⟨a,o,vs',e1,m,h1,ko,q,u⟩:=r.lst j kk xs e
  exact ⟨a,o,vs',e1,m,by rw [bM (aX h1 hp)];exact h1,ko,q.mono (aPo hp),u⟩
theorem RS.put{p:Addr}(r:RS K (p :: B) A H st σ)  : RS K (p :: B) A (upd H p (.lst vs)) st σ:=by
 have hh:hide (A++p :: B) (upd H p (.lst vs))=hide (A++p :: B) H:=aBe (mem_mid.mpr (.inl rfl))
 refine ⟨r.len,fun b hb=>?_,r.dis,fun j d e=>by rw [hh];exact r.val j d e,fun j kk xs e=>?_⟩
 ·by_cases e:b=p
  ·subst e;rw [bT];rfl
  ·rw [bM e];exact r.own b hb
 ·obtain ⟨a,o,vs',e1,m,h1,ko,q,u⟩:=r.lst j kk xs e
  refine ⟨a,o,vs',e1,m,?_,ko,by rw [hh];exact q,u⟩
  have:a≠p:=fun z=>r.dis a m (z ▸ mem_cons_self)
  rw [bM this];exact h1
end
def aJn(is:List Nat)(t:Tg):Prop:=∀ d st s2,t d st = .ok s2->s2.length=st.length/\∀ (j:Nat),j ∉ is->s2[j]?=st[j]?
theorem lB:aJn [i] (tgN i):=fun d st s2 h=>by
 cases h
 refine ⟨length_set,fun j hj=>?_⟩
 rw [List.getElem?_set,if_neg fun z=>hj (by simp [z])]
def ndB:List Str->Bool
 | []=>true
 | x :: r => !r.contains x&&ndB r
theorem bDf:∀ {l:List Str},ndB l=true->l.Nodup
 | [],_ => .nil
 | x :: r,h=>by
  unfold ndB at h
  simp only [and_eq_true,Bool.not_eq_true'] at h
  exact List.nodup_cons.mpr ⟨fun z=>by rw [List.contains_iff_mem.mpr z] at h;exact Bool.noConfusion h.1,bDf h.2⟩
def bK0(scope:Scope)(outer:List (Str × NameKind))(N:List Str)(is:List Nat):Bool :=
 scope.kind == .function&&ndB (scope.names.map (·.1))&&scope.names.all (fun x=>x.2 != .free||outer.lookup x.1==some .cell||outer.lookup x.1==some .free) &&
  (List.range N.length).all fun i=>(scope.names.lookup (N.getD i "") != some .local&&scope.names.lookup (N.getD i "") != some .cell)||is.contains i
theorem CScope.of{is:List Nat}(h:bK0 scope X.env.scope.names X.N is=true):CScope X scope is:=by
 unfold bK0 at h
 simp only [and_eq_true,List.all_eq_true] at h
 obtain ⟨⟨⟨h1,h0⟩,h2⟩,h3⟩:=h
 refine ⟨by simpa using h1,bDf h0,fun x hx hf=>?_,fun i x e hl=>?_⟩
 ·have:=h2 x hx
  simp only [or_eq_true,bne_iff_ne,ne_eq,beq_iff_eq] at this
  rcases this with (z | z) | z
  ·exact absurd hf z
  ·exact .inl z
  ·exact .inr z
 ·have hi:i < X.N.length:=(List.getElem?_eq_some_iff.mp e).1
  have:=h3 i (List.mem_range.mpr hi)
  rw [getD_eq_getElem?_getD,e] at this
  simp only [getD_some,or_eq_true,and_eq_true,bne_iff_ne,ne_eq] at this
  rcases this with ⟨z1,z2⟩ | z
  ·rcases hl with hl | hl
   ·exact absurd hl z1
   ·exact absurd hl z2
  ·simpa using z
theorem bBd{K:Frag}     (Q Q':VK) (m:∀ v H',Q v H'->Q' v H') (h:tI K B f τ H Q):tI K B f τ H Q' :=
 let ⟨A,st,d,rs,hd,q⟩:=h;⟨A,st,d,rs,hd,fun v H' s r=>m v H' (q v H' s r)⟩
def tIx(K:Frag)(f:Ex):TE:=fun τ H Q=>∃ B,tI K B f τ H Q
def tTx(K:Frag)(f:Ex):TT:=fun τ H Q=>∃ B,tT K B f τ H Q
def tGx(K:Frag)(t:Tg):TG:=fun v τ H Q=>∃ B,tG K B t v τ H Q
theorem aY5(h:∀ B,PE X e (tI X.K B f)):PE X e (tIx X.K f):=fun pins s σ H Q I ⟨B,q⟩=>h B pins s σ H Q I q
theorem bG7(h:∀ B,PT X e (tT X.K B f)):PT X e (tTx X.K f):=fun pins s σ H Q I ⟨B,q⟩=>h B pins s σ H Q I q
theorem aY6{t:Tg}(h:∀ B,PG X e (tG X.K B t)):PG X e (tGx X.K t):=fun pins s σ H v u Q I r ⟨B,q⟩=>h B pins s σ H v u Q I r q
theorem aBk{K:Frag}    (Q Q':VK) (m:∀ v H',Q v H'->Q' v H') (h:tIx K f τ H Q):tIx K f τ H Q':=let ⟨B,q⟩:=h;⟨B,bBd Q Q' m q⟩
theorem aPp{K:Frag}  {is:List Nat} {t:Tg}  {c:Ex}   {H:Hp} (hsub:aJn is t)
  (htt:∀ τ H Q,tTx K c τ H Q->tt τ H Q)  {st:PSt}  (rs:RS K B A H st σ) (hx:it st = .ok xs) (hl:xs.length<=big) (hy:uT t c f (clr is st) xs = .ok ys) {Q:VK}
  (q:∀ p vs H1 H',bA H H1->H1 p=none->bA H1 H'->H' p=some (.lst vs)->bD K (hide (A++p :: B) H') ys vs->Q (.ref p) H'):tLC is (tIt K B it) (tGx K t) tt (tIx K f) σ H Q:=by
 refine ⟨A,st,xs,rs,hx,fun J H1 s1 ito p hp=>?_⟩
 have rs1:=rs.mono s1
 refine ⟨fun i m τ vs H'=>m=xs.length - i/\i<=xs.length/\vs.length<=i/\H' p=some (.lst vs)/\bA H1 H'/\RS K (p :: B) A H' (clr is st) τ /\
   ∃ ds rest,bD K (hide (A++p :: B) H') ds vs/\uT t c f (clr is st) (xs.drop i) = .ok rest/\ds++rest=ys,⟨xs.length,by simp,zero_le _,zero_le _,bT,cG hp,(rs1.clr is).grow hp,[],ys,.nil,by rw [drop_zero];exact hy,rfl⟩,?_⟩
 rintro i m τ vs H' ⟨rfl,hi,hvl,hpv,s2,rs2,ds,rest,rds,hr,hcat⟩
 refine ⟨hpv,?_⟩
 have mv:∀ a,a∈(p :: A)++B ↔ a∈A++p :: B:=fun a=>by
  rw [mem_mid]
  exact mem_cons
 have le:Le A H1 (p :: A) H':=fun b u z=>by
  have z1:=bG _ _ _ _ z
  have hb:b ∉ A:=fun w=>by rw [eY w] at z;cases z
  have ne:b≠p:=aX z1 hp
  rw [bY (show b ∉ p :: A from fun w=>(List.mem_cons.mp w).elim ne hb)]
  exact s2 b u z1
 obtain ⟨i1,i2⟩:=ito (p :: A) H' le (fun a ha=>rs2.own a ((mv a).mp ha)) i
 by_cases hlt:i < xs.length
 ·have hd':xs[i]?=some xs[i]:=List.getElem?_eq_getElem hlt
  obtain ⟨go,yl⟩:=i1 _ hd'
  rw [List.drop_eq_getElem_cons hlt] at hr
  obtain ⟨st2,hst2,h5⟩:=R.ok_of hr
  obtain ⟨cb,hcb,h6⟩:=R.ok_of h5
  obtain ⟨k,rfl,h7⟩:=vQ h6
  refine .inr ⟨go,fun x H2 y=>?_⟩
  obtain ⟨sm3,rx⟩:=yl x H2 y
  have hpv:=sm3 _ _ hpv
  have s2:=s2.trans sm3
  have rs2:=rs2.mono sm3
  have rds:=rds.mono (bA.hide sm3)
  have rx':Rep K (hide (A++p :: B) H2) xs[i] x:=rx.mono (lJ fun a ha=>(mv a).mpr ha)
  obtain ⟨sl,sg⟩:=hsub _ _ _ hst2
  have back:∀ (j:Nat) (z:Sl),(clr is st)[j]?=some (some z)->st2[j]?=some (some z):=fun j z ez=>by rw [sg j (aIa is st j z ez).2];exact ez
  refine ⟨p :: B,A,clr is st,xs[i],st2,rs2,rx',hst2,fun τ2 rs3=>htt _ _ _ ⟨p :: B,A,st2,k,rs3,hcb,fun H3 s3=>?_⟩⟩
  cases k with
  | true =>
   obtain ⟨y',hy',h8⟩:=R.ok_of h7
   obtain ⟨rest',hrest',h9⟩:=R.ok_of h8
   cases h9
   refine ⟨p :: B,A,st2,y',rs3.mono s3,hy',fun v H4 s4 r4=>⟨s4 _ _ (s3 _ _ hpv),?_,xs.length - (i+1),by omega,rfl,hlt,by rw [length_append,List.length_singleton];omega,bT,?_,?_,ds++[y'],rest',?_,hrest',by rw [List.append_assoc];exact hcat⟩⟩
   ·have:sizeLine=16777216:=by decide
    have hbg:=jW
    omega
   ·exact fun b u z=>by rw [bM (aX z hp)];exact s4 _ _ (s3 _ _ (s2 b u z))
   ·exact (((rs3.mono s3).mono s4).weaken (by rw [sl]) back).put
   ·rw [aBe (mem_mid.mpr (.inl rfl))]
    exact (rds.mono (bA.hide (s3.trans s4))).append (.cons r4 .nil)
  | false=>exact ⟨xs.length - (i+1),by omega,rfl,hlt,by omega,s3 _ _ hpv,s2.trans s3,(rs3.mono s3).weaken (by rw [sl]) back,ds,rest,rds.mono (bA.hide s3),h7,hcat⟩
 ·have e:i=xs.length:=by omega
  subst e
  rw [List.drop_length] at hr
  cases hr
  rw [append_nil] at hcat
  subst hcat
  exact .inl ⟨i2 (Nat.le_refl _),q p vs H1 H' s1 hp s2 hpv rds⟩
section
variable    {iter c:Expr}  {t:Tg}  {u:Ex}
theorem aY7(hY:Y.xe=fun _ _=>False)(he:PE Y elt te)(ht:PT Y c tt){it p:Addr}(τ:LSt)(H:Hp)(s:Shared)(pins:List (Addr × Obj))(vs:List V)(N:Hp->List V->Prop)(Q:Fin->Shared->Prop)(I:Inv Y pins τ H s)
  (h:tt τ H fun k H3=>if k=true then te τ H3 fun y H4=>H4 p=some (.lst vs)/\vs.length < sizeLine/\N (upd H4 p (.lst (vs++[y]))) (vs++[y]) else N H3 vs)
  (mono:∀ H (Q Q':VK),(∀ v H',Q v H'->Q' v H')->te τ H Q->te τ H Q')
  (q:∀ s' H' ws,Inv Y pins τ H' s'->N H' ws->Q (.again (.compLoop (.ListComp elt [⟨tg,iter,[c],0⟩] scope pos) 0 (.ref it) (.ref p) Y.env)) s') :
  wpAny (model Y.prog Y.w) Y.A (isTrue c Y.env (eval c Y.env) >>= fun ok => if ok = true then (eval elt Y.env >>= fun x => call (.builtin "list.append") [.ref p, x] >>= fun _ => again (.compLoop (.ListComp elt [⟨tg, iter, [c], 0⟩] scope pos) 0 (.ref it) (.ref p) Y.env))
        else again (.compLoop (.ListComp elt [⟨tg,iter,[c],0⟩] scope pos) 0 (.ref it) (.ref p) Y.env)) Q (fun _ _=>False) s:=by
 have ht':=ht pins s τ H _ I h
 rw [hY] at ht'
 refine wpAny_bind (thn ht' fun k s1 ⟨H1,I1,q1⟩=>?_)
 cases k with
 | true =>
  rw [if_pos rfl]
  have q1:te τ H1 fun y H4=>H4 p=some (.lst vs)/\vs.length < sizeLine/\N (upd H4 p (.lst (vs++[y]))) (vs++[y]):=q1
  exact aLz he (by rw [hY];exact fun _ _ z=>z) I1 (mono _ _ _ (fun y H4 ⟨a,b,n⟩=>⟨a,b,fun s' I'=>wpAny_pure (q s' _ _ I' n)⟩) q1)
 | false =>
  rw [if_neg Bool.false_ne_true]
  exact wpAny_pure (q s1 H1 vs I1 q1)
theorem aNi{Q:VK}{st:PSt}   {p:Addr}  {H':Hp} (rs:RS X.K B A H st σ) (q:∀ v H',bA H H'->Rep X.K (hide (A++B) H') (.lst ys) v->Q v H') (s1:bA H H1) (hp:H1 p=none) (s2:bA H1 H')
  (hv:H' p=some (.lst vs)) (r:bD X.K (hide (A++p :: B) H') ys vs):Q (.ref p) H' :=
 q _ H' (s1.trans s2) (bZ.mpr ⟨p,vs,rfl,SqL.of (by rw [bY ((rs.own.mono s1).free hp)];exact hv),r.mono (lJ fun a ha=>mem_mid.mpr (.inr ha))⟩)
theorem oW(is:List Nat)(hsub:aJn is t)(S:CScope X scope is)(hi:L2.PI X tg iter (tIt X.K B it))(hg:∀ (B:List Addr) (C:Addr) (s₀:Shared) (H₀:Hp) (fp:List Addr),PG (cW X scope C s₀ H₀ fp) tg (tG X.K B t))
  (he:∀ (B:List Addr) (C:Addr) (s₀:Shared) (H₀:Hp) (fp:List Addr),PE (cW X scope C s₀ H₀ fp) elt (tI X.K B f)) (hc:X.calm=true) (hs:∀ x,foldedSetIterable iter X.env x=pure x:=by intro _;rfl) :
  PE X (.ListComp elt [⟨tg,iter,[],0⟩] scope pos) (tI X.K B (dX is t it gW f)):=by
 intro pins s σ H Q I h
 obtain ⟨A,st,d,rs,hd,q⟩:=h
 obtain ⟨xs,hx,h2⟩:=R.ok_of hd
 obtain ⟨hl,h3⟩:=aK h2
 obtain ⟨ys,hy,h4⟩:=R.ok_of h3
 cases h4
 rw [eval_ListComp]
 refine xM (use:=none) (Qf:=EP X pins σ Q) (Q:=Q) (tt:=aNh) (te:=tIx X.K f) (rest:=fun env it p=>eval elt env >>= fun x=>call (.builtin "list.append") [p,x] >>= fun _=>again (.compLoop (.ListComp elt [⟨tg,iter,[],0⟩] scope pos) 0 it p env)) S hc hi (fun C s₀ H₀ fp=>aY6 fun B=>hg B C s₀ H₀ fp) (fun _ _ _=>uP)
  (fun C s₀ H₀ fp it p s Q h=>bJz (Y:=cW X scope C s₀ H₀ fp) h) (fun C s₀ H₀ fp it p τ H s pins vs N Q I h q=>bDe (Y:=cW X scope C s₀ H₀ fp) rfl (aY5 fun B=>he B C s₀ H₀ fp) τ H s pins vs N Q I h (fun Q Q' m h=>aBk Q Q' m h) q) hs I
  (aPp hsub (fun τ H Q ⟨B,A,st,k,rs,hk,q⟩=>?_) rs hx hl hy fun p vs H1 H' s1 hp s2 hv r=>aNi rs q s1 hp s2 hv r) fun C p H5 s5 m5 s3 H3 fp τ hC I3 hfp I5 hn5 q5=>⟨m5,hn5,fun h' hs'=>⟨.ref p,H5,aI9 I3 hfp hC I5 hs',rfl,q5⟩⟩
 cases hk
 exact q H (bA.refl _)
theorem xN(is:List Nat)(hsub:aJn is t)(S:CScope X scope is)(hi:L2.PI X tg iter (tIt X.K B it))(hg:∀ (B:List Addr) (C:Addr) (s₀:Shared) (H₀:Hp) (fp:List Addr),PG (cW X scope C s₀ H₀ fp) tg (tG X.K B t))
  (ht:∀ (B:List Addr) (C:Addr) (s₀:Shared) (H₀:Hp) (fp:List Addr),PT (cW X scope C s₀ H₀ fp) c (tT X.K B u))
  (he:∀ (B:List Addr) (C:Addr) (s₀:Shared) (H₀:Hp) (fp:List Addr),PE (cW X scope C s₀ H₀ fp) elt (tI X.K B f)) (hc:X.calm=true) (hs:∀ x,foldedSetIterable iter X.env x=pure x:=by intro _;rfl) :
  PE X (.ListComp elt [⟨tg,iter,[c],0⟩] scope pos) (tI X.K B (dX is t it u f)):=by
 intro pins s σ H Q I h
 obtain ⟨A,st,d,rs,hd,q⟩:=h
 obtain ⟨xs,hx,h2⟩:=R.ok_of hd
 obtain ⟨hl,h3⟩:=aK h2
 obtain ⟨ys,hy,h4⟩:=R.ok_of h3
 cases h4
 rw [eval_ListComp]
 exact xM (use:=none) (Qf:=EP X pins σ Q) (Q:=Q) (tt:=tTx X.K u) (te:=tIx X.K f) (rest:=fun env it p=>isTrue c env (eval c env) >>= fun ok=>if ok=true then (eval elt env >>= fun x=>call (.builtin "list.append") [p,x] >>= fun _=>again (.compLoop (.ListComp elt [⟨tg,iter,[c],0⟩] scope pos) 0 it p env)) else again (.compLoop (.ListComp elt [⟨tg,iter,[c],0⟩] scope pos) 0 it p env)) S hc hi (fun C s₀ H₀ fp=>aY6 fun B=>hg B C s₀ H₀ fp) (fun _ _ _=>uP)
  (fun C s₀ H₀ fp it p s Q h=>bG6 (Y:=cW X scope C s₀ H₀ fp) h) (fun C s₀ H₀ fp it p τ H s pins vs N Q I h q=>aY7 (Y:=cW X scope C s₀ H₀ fp) rfl (aY5 fun B=>he B C s₀ H₀ fp) (bG7 fun B=>ht B C s₀ H₀ fp) τ H s pins vs N Q I h (fun _ Q Q' m h=>aBk Q Q' m h) q) hs I
  (aPp hsub (fun τ H Q h=>h) rs hx hl hy fun p vs H1 H' s1 hp s2 hv r=>aNi rs q s1 hp s2 hv r) fun C p H5 s5 m5 s3 H3 fp τ hC I3 hfp I5 hn5 q5=>⟨m5,hn5,fun h' hs'=>⟨.ref p,H5,aI9 I3 hfp hC I5 hs',rfl,q5⟩⟩
end
end Pu
namespace Pu
open PySem PySem.Spec PyProof.Rows L2 PySem.SeqAt
section
variable{X:Cx}{pins:List (Addr × Obj)}{σ:LSt}{H:Hp}{s:Shared}
theorem aTk(I:Inv X pins σ H s)  {xs ys:List V} (h1:SqL X.K H a xs) (h2:SqT X.K H a ys):False:=by
 obtain ⟨its,_,⟨o,n,e,hc,_⟩,_⟩:=I.list h1
 obtain ⟨its2,_,⟨o2,e2,hc2,_⟩,_⟩:=I.tuple h2
 rw [e] at e2;cases e2
 rw [hc] at hc2;simp at hc2
mutual
theorem Rep.inj(I:Inv X pins σ H s):∀ {x y:D} {v:V},plain x=true->plain y=true->Rep X.K H x v->Rep X.K H y v->x=y
 | .non,y,v,px,py,h,h'=>by
  have e:=cJ.mp h;subst e
  cases y<;>first | (simp at py;done) | skip
  all_goals simp only [cJ,bF,aQ,aZ,uN,bZ] at h'
  all_goals first | rfl | (obtain ⟨_,_,h',_⟩:=h';cases h';done) | (cases h';done)
 | .bl b,y,v,px,py,h,h'=>by
  have e:=bF.mp h;subst e
  cases y<;>first | (simp at py;done) | skip
  all_goals simp only [cJ,bF,aQ,aZ,uN,bZ] at h'
  all_goals first | (obtain ⟨_,_,h',_⟩:=h';cases h';done) | (cases h';first | rfl | done)
 | .int i,y,v,px,py,h,h'=>by
  have e:=aQ.mp h;subst e
  cases y<;>first | (simp at py;done) | skip
  all_goals simp only [cJ,bF,aQ,aZ,uN,bZ] at h'
  all_goals first | (obtain ⟨_,_,h',_⟩:=h';cases h';done) | (cases h';first | rfl | done)
 | .str x,y,v,px,py,h,h'=>by
  have e:=aZ.mp h;subst e
  cases y with
  | dct _ _ _=>simp at py
  | ins _ _ _=>simp at py
  | exn _ _ _=>simp at py
  | fn _=>simp at py
  | str z =>
   have e2:=aZ.mp h'
   injection e2 with e2
   injection e2 with e2
   have:x=z:=by simpa using congrArg Array.toList e2
   rw [this]
  | non=>exact nomatch cJ.mp h'
  | bl _=>exact nomatch bF.mp h'
  | int _=>exact nomatch aQ.mp h'
  | tup _=>obtain ⟨_,_,h',_⟩:=bL h';cases h'
  | lst _=>obtain ⟨_,_,h',_⟩:=bZ.mp h';cases h'
 | .tup ds,y,v,px,py,h,h'=>by
  obtain ⟨a,vs,e,hq,hr⟩:=bL h
  subst e
  cases y with
  | dct _ _ _=>simp at py
  | ins _ _ _=>simp at py
  | exn _ _ _=>simp at py
  | fn _=>simp at py
  | tup es =>
   obtain ⟨a',vs',e',hq',hr'⟩:=bL h'
   cases e'
   have:=I.tuple_inj hq hq'
   subst this
   rw [bD.inj I (by simpa using px) (by simpa using py) hr hr']
  | lst es =>
   obtain ⟨a',vs',e',hq',hr'⟩:=bZ.mp h'
   cases e'
   exact (aTk I hq' hq).elim
  | non=>exact nomatch cJ.mp h'
  | bl _=>exact nomatch bF.mp h'
  | int _=>exact nomatch aQ.mp h'
  | str _=>exact nomatch aZ.mp h'
 | .lst ds,y,v,px,py,h,h'=>by
  obtain ⟨a,vs,e,hq,hr⟩:=bZ.mp h
  subst e
  cases y with
  | dct _ _ _=>simp at py
  | ins _ _ _=>simp at py
  | exn _ _ _=>simp at py
  | fn _=>simp at py
  | lst es =>
   obtain ⟨a',vs',e',hq',hr'⟩:=bZ.mp h'
   cases e'
   have:=I.list_inj hq hq'
   subst this
   rw [bD.inj I (by simpa using px) (by simpa using py) hr hr']
  | tup es =>
   obtain ⟨a',vs',e',hq',hr'⟩:=bL h'
   cases e'
   exact (aTk I hq hq').elim
  | non=>exact nomatch cJ.mp h'
  | bl _=>exact nomatch bF.mp h'
  | int _=>exact nomatch aQ.mp h'
  | str _=>exact nomatch aZ.mp h'
 | .dct _ _ _,y,v,px,py,h,h'=>by simp at px
 | .ins _ _ _,y,v,px,py,h,h'=>by simp at px
 | .exn _ _ _,y,v,px,py,h,h'=>by simp at px
 | .fn _,y,v,px,py,h,h'=>by simp at px
theorem bD.inj(I:Inv X pins σ H s):∀ {xs ys:List D} {vs:List V},fK xs=true->fK ys=true->bD X.K H xs vs->bD X.K H ys vs->xs=ys
 | [],ys,vs,px,py,h,h'=>by
  have e:=dG.mp h;subst e
  cases ys with
  | nil=>rfl
  | cons y ys=>obtain ⟨_,_,h',_⟩:=bU.mp h';cases h'
 | x :: xs,ys,vs,px,py,h,h'=>by
  obtain ⟨v,r,e,h1,h2⟩:=bU.mp h
  subst e
  cases ys with
  | nil=>exact nomatch dG.mp h'
  | cons y ys =>
   obtain ⟨v',r',e',h1',h2'⟩:=bU.mp h'
   cases e'
   simp only [nJ,and_eq_true] at px py
   rw [Rep.inj I px.1 py.1 h1 h1',bD.inj I px.2 py.2 h2 h2']
end
mutual
theorem aJo:∀ x:D,plain x=true->eqD x x=true
 | .non,_=>by unfold eqD;rfl
 | .bl b,_=>by unfold eqD;simp
 | .int i,_=>by unfold eqD;simp
 | .str x,_=>by unfold eqD;simp
 | .tup x,h=>by unfold eqD;exact aGd x (by simpa using h)
 | .lst x,h=>by unfold eqD;exact aGd x (by simpa using h)
 | .dct _ _ _,h=>by simp at h
 | .ins _ _ _,h=>by simp at h
 | .exn _ _ _,h=>by simp at h
 | .fn _,h=>by simp at h
theorem aGd:∀ x:List D,fK x=true->rB x x=true
 | [],_=>by unfold rB;rfl
 | a :: x,h=>by
  simp only [nJ,and_eq_true] at h
  unfold rB;rw [aJo a h.1,aGd x h.2];rfl
end
def pairE(xs ys:List D)(j:Nat):Bool:=eqD (xs.getD j .non) (ys.getD j .non)
theorem rO:∀ xs ys:List D,((List.range (min xs.length ys.length)).all (pairE xs ys)&&xs.length==ys.length)=rB xs ys
 | [],[]=>by unfold rB;rfl
 | [],_ :: _=>by unfold rB;simp
 | _ :: _,[]=>by unfold rB;simp
 | x :: xs,y :: ys=>by
  have ih:=rO xs ys
  have e:rB (x :: xs) (y :: ys)=(eqD x y&&rB xs ys):=by conv=>lhs;unfold rB
  rw [e,<-ih]
  have hm:min (x :: xs).length (y :: ys).length=min xs.length ys.length+1:=by simp only [length_cons];omega
  rw [hm,List.range_succ_eq_map,List.all_cons,List.all_map]
  have e1:pairE (x :: xs) (y :: ys) 0=eqD x y:=rfl
  have e2:(pairE (x :: xs) (y :: ys) ∘ Nat.succ)=pairE xs ys:=rfl
  rw [e1,e2,Bool.and_assoc]
  congr 1
  simp
theorem aDx(h:xs.length≠ys.length):rB xs ys=false:=by
 rw [<-rO];simp [h]
mutual
theorem aPq(I:Inv X pins σ H s):∀ (x y:D) (A:Around) (v u:V) (a b:Value),Rep X.K H x v->Rep X.K H y u->RelV v a->RelV u b->A.units+dep x < cLine->plain x=true->plain y=true->EqAt A s a b (eqD x y)
 | .non,y,A,v,u,a,b,ra,rb,va,vb,hu,px,py=>by
  have zv:=cJ.mp ra;subst zv;have za:a=Value.none:=va;subst za
  cases y with
  | dct _ _ _=>simp at py
  | ins _ _ _=>simp at py
  | exn _ _ _=>simp at py
  | fn _=>simp at py
  | non =>
   have zu:=cJ.mp rb;subst zu;have zb:b=Value.none:=vb;subst zb
   have e:eqD (.non) (.non)=eqD _ _:=rfl
   unfold eqD
   exact EqAt.same _
  | bl y =>
   have zu:=bF.mp rb;subst zu;have zb:b=Value.bool y:=vb;subst zb
   have e:eqD (.non) (.bl y)=eqD _ _:=rfl
   unfold eqD
   exact EqAt.none_bool y
  | int y =>
   have zu:=aQ.mp rb;subst zu;obtain ⟨tb,zb⟩:∃ t,b=Value.int y t:=vb;subst zb
   have e:eqD (.non) (.int y)=eqD _ _:=rfl
   unfold eqD
   exact EqAt.none_int y tb
  | str y =>
   have zu:=aZ.mp rb;subst zu;obtain ⟨tb,zb⟩:∃ t,b=Value.str ⟨y.toArray⟩ t:=vb;subst zb
   have e:eqD (.non) (.str y)=eqD _ _:=rfl
   unfold eqD
   exact EqAt.none_str _ tb
  | tup y =>
   obtain ⟨lb,wsb,zu,hqb,hrb⟩:=bL rb;subst zu;have zb:b=Value.ref lb:=vb;subst zb;obtain ⟨itsb,rvb,plb,_⟩:=I.tuple hqb;have ilb:s.heap.IsTuple lb itsb.toArray:=plb
   have e:eqD (.non) (.tup y)=eqD _ _:=rfl
   unfold eqD
   exact EqAt.none_tuple ilb (Nat.lt_of_le_of_lt (le_add_right _ _) hu)
  | lst y =>
   obtain ⟨lb,wsb,zu,hqb,hrb⟩:=bZ.mp rb;subst zu;have zb:b=Value.ref lb:=vb;subst zb;obtain ⟨itsb,rvb,plb,_⟩:=I.list hqb;have ilb:=plb.isList
   have e:eqD (.non) (.lst y)=eqD _ _:=rfl
   unfold eqD
   exact EqAt.none_list ilb (Nat.lt_of_le_of_lt (le_add_right _ _) hu)
 | .bl x,y,A,v,u,a,b,ra,rb,va,vb,hu,px,py=>by
  have zv:=bF.mp ra;subst zv;have za:a=Value.bool x:=va;subst za
  cases y with
  | dct _ _ _=>simp at py
  | ins _ _ _=>simp at py
  | exn _ _ _=>simp at py
  | fn _=>simp at py
  | non =>
   have zu:=cJ.mp rb;subst zu;have zb:b=Value.none:=vb;subst zb
   have e:eqD (.bl x) (.non)=eqD _ _:=rfl
   unfold eqD
   exact EqAt.bool_none x
  | bl y =>
   have zu:=bF.mp rb;subst zu;have zb:b=Value.bool y:=vb;subst zb
   have e:eqD (.bl x) (.bl y)=eqD _ _:=rfl
   unfold eqD
   exact EqAt.bool_bool x y
  | int y =>
   have zu:=aQ.mp rb;subst zu;obtain ⟨tb,zb⟩:∃ t,b=Value.int y t:=vb;subst zb
   have e:eqD (.bl x) (.int y)=eqD _ _:=rfl
   unfold eqD
   exact EqAt.bool_int x y tb
  | str y =>
   have zu:=aZ.mp rb;subst zu;obtain ⟨tb,zb⟩:∃ t,b=Value.str ⟨y.toArray⟩ t:=vb;subst zb
   have e:eqD (.bl x) (.str y)=eqD _ _:=rfl
   unfold eqD
   exact EqAt.bool_str x _ tb
  | tup y =>
   obtain ⟨lb,wsb,zu,hqb,hrb⟩:=bL rb;subst zu;have zb:b=Value.ref lb:=vb;subst zb;obtain ⟨itsb,rvb,plb,_⟩:=I.tuple hqb;have ilb:s.heap.IsTuple lb itsb.toArray:=plb
   have e:eqD (.bl x) (.tup y)=eqD _ _:=rfl
   unfold eqD
   exact EqAt.bool_tuple x ilb (Nat.lt_of_le_of_lt (le_add_right _ _) hu)
  | lst y =>
   obtain ⟨lb,wsb,zu,hqb,hrb⟩:=bZ.mp rb;subst zu;have zb:b=Value.ref lb:=vb;subst zb;obtain ⟨itsb,rvb,plb,_⟩:=I.list hqb;have ilb:=plb.isList
   have e:eqD (.bl x) (.lst y)=eqD _ _:=rfl
   unfold eqD
   exact EqAt.bool_list x ilb (Nat.lt_of_le_of_lt (le_add_right _ _) hu)
 | .int x,y,A,v,u,a,b,ra,rb,va,vb,hu,px,py=>by
  have zv:=aQ.mp ra;subst zv;obtain ⟨ta,za⟩:∃ t,a=Value.int x t:=va;subst za
  cases y with
  | dct _ _ _=>simp at py
  | ins _ _ _=>simp at py
  | exn _ _ _=>simp at py
  | fn _=>simp at py
  | non =>
   have zu:=cJ.mp rb;subst zu;have zb:b=Value.none:=vb;subst zb
   have e:eqD (.int x) (.non)=eqD _ _:=rfl
   unfold eqD
   exact EqAt.int_none x ta
  | bl y =>
   have zu:=bF.mp rb;subst zu;have zb:b=Value.bool y:=vb;subst zb
   have e:eqD (.int x) (.bl y)=eqD _ _:=rfl
   unfold eqD
   exact EqAt.int_bool x ta y
  | int y =>
   have zu:=aQ.mp rb;subst zu;obtain ⟨tb,zb⟩:∃ t,b=Value.int y t:=vb;subst zb
   have e:eqD (.int x) (.int y)=eqD _ _:=rfl
   unfold eqD
   exact EqAt.int_int x ta y tb
  | str y =>
   have zu:=aZ.mp rb;subst zu;obtain ⟨tb,zb⟩:∃ t,b=Value.str ⟨y.toArray⟩ t:=vb;subst zb
   have e:eqD (.int x) (.str y)=eqD _ _:=rfl
   unfold eqD
   exact EqAt.int_str x ta _ tb
  | tup y =>
   obtain ⟨lb,wsb,zu,hqb,hrb⟩:=bL rb;subst zu;have zb:b=Value.ref lb:=vb;subst zb;obtain ⟨itsb,rvb,plb,_⟩:=I.tuple hqb;have ilb:s.heap.IsTuple lb itsb.toArray:=plb
   have e:eqD (.int x) (.tup y)=eqD _ _:=rfl
   unfold eqD
   exact EqAt.int_tuple x ta ilb (Nat.lt_of_le_of_lt (le_add_right _ _) hu)
  | lst y =>
   obtain ⟨lb,wsb,zu,hqb,hrb⟩:=bZ.mp rb;subst zu;have zb:b=Value.ref lb:=vb;subst zb;obtain ⟨itsb,rvb,plb,_⟩:=I.list hqb;have ilb:=plb.isList
   have e:eqD (.int x) (.lst y)=eqD _ _:=rfl
   unfold eqD
   exact EqAt.int_list x ta ilb (Nat.lt_of_le_of_lt (le_add_right _ _) hu)
 | .str x,y,A,v,u,a,b,ra,rb,va,vb,hu,px,py=>by
  have zv:=aZ.mp ra;subst zv;obtain ⟨ta,za⟩:∃ t,a=Value.str ⟨x.toArray⟩ t:=va;subst za
  cases y with
  | dct _ _ _=>simp at py
  | ins _ _ _=>simp at py
  | exn _ _ _=>simp at py
  | fn _=>simp at py
  | non =>
   have zu:=cJ.mp rb;subst zu;have zb:b=Value.none:=vb;subst zb
   have e:eqD (.str x) (.non)=eqD _ _:=rfl
   unfold eqD
   exact EqAt.str_none _ ta
  | bl y =>
   have zu:=bF.mp rb;subst zu;have zb:b=Value.bool y:=vb;subst zb
   have e:eqD (.str x) (.bl y)=eqD _ _:=rfl
   unfold eqD
   exact EqAt.str_bool _ ta y
  | int y =>
   have zu:=aQ.mp rb;subst zu;obtain ⟨tb,zb⟩:∃ t,b=Value.int y t:=vb;subst zb
   have e:eqD (.str x) (.int y)=eqD _ _:=rfl
   unfold eqD
   exact EqAt.str_int _ ta y tb
  | str y =>
   have zu:=aZ.mp rb;subst zu;obtain ⟨tb,zb⟩:∃ t,b=Value.str ⟨y.toArray⟩ t:=vb;subst zb
   have e:eqD (.str x) (.str y)=((⟨x.toArray⟩:Str)==⟨y.toArray⟩):=by rw [<-str_beq];unfold eqD;simp
   rw [e]
   exact EqAt.str_str _ ta _ tb
  | tup y =>
   obtain ⟨lb,wsb,zu,hqb,hrb⟩:=bL rb;subst zu;have zb:b=Value.ref lb:=vb;subst zb;obtain ⟨itsb,rvb,plb,_⟩:=I.tuple hqb;have ilb:s.heap.IsTuple lb itsb.toArray:=plb
   have e:eqD (.str x) (.tup y)=eqD _ _:=rfl
   unfold eqD
   exact EqAt.str_tuple _ ta ilb (Nat.lt_of_le_of_lt (le_add_right _ _) hu)
  | lst y =>
   obtain ⟨lb,wsb,zu,hqb,hrb⟩:=bZ.mp rb;subst zu;have zb:b=Value.ref lb:=vb;subst zb;obtain ⟨itsb,rvb,plb,_⟩:=I.list hqb;have ilb:=plb.isList
   have e:eqD (.str x) (.lst y)=eqD _ _:=rfl
   unfold eqD
   exact EqAt.str_list _ ta ilb (Nat.lt_of_le_of_lt (le_add_right _ _) hu)
 | .tup x,y,A,v,u,a,b,ra,rb,va,vb,hu,px,py=>by
  obtain ⟨la,wsa,zv,hqa,hra⟩:=bL ra;subst zv;have za:a=Value.ref la:=va;subst za;obtain ⟨itsa,rva,pla,_⟩:=I.tuple hqa;have ila:s.heap.IsTuple la itsa.toArray:=pla
  cases y with
  | dct _ _ _=>simp at py
  | ins _ _ _=>simp at py
  | exn _ _ _=>simp at py
  | fn _=>simp at py
  | non =>
   have zu:=cJ.mp rb;subst zu;have zb:b=Value.none:=vb;subst zb
   have e:eqD (.tup x) (.non)=eqD _ _:=rfl
   unfold eqD
   exact EqAt.tuple_none ila (Nat.lt_of_le_of_lt (le_add_right _ _) hu)
  | bl y =>
   have zu:=bF.mp rb;subst zu;have zb:b=Value.bool y:=vb;subst zb
   have e:eqD (.tup x) (.bl y)=eqD _ _:=rfl
   unfold eqD
   exact EqAt.tuple_bool y ila (Nat.lt_of_le_of_lt (le_add_right _ _) hu)
  | int y =>
   have zu:=aQ.mp rb;subst zu;obtain ⟨tb,zb⟩:∃ t,b=Value.int y t:=vb;subst zb
   have e:eqD (.tup x) (.int y)=eqD _ _:=rfl
   unfold eqD
   exact EqAt.tuple_int y tb ila (Nat.lt_of_le_of_lt (le_add_right _ _) hu)
  | str y =>
   have zu:=aZ.mp rb;subst zu;obtain ⟨tb,zb⟩:∃ t,b=Value.str ⟨y.toArray⟩ t:=vb;subst zb
   have e:eqD (.tup x) (.str y)=eqD _ _:=rfl
   unfold eqD
   exact EqAt.tuple_str _ tb ila (Nat.lt_of_le_of_lt (le_add_right _ _) hu)
  | tup y =>
   obtain ⟨lb,wsb,zu,hqb,hrb⟩:=bL rb;subst zu;have zb:b=Value.ref lb:=vb;subst zb;obtain ⟨itsb,rvb,plb,_⟩:=I.tuple hqb;have ilb:s.heap.IsTuple lb itsb.toArray:=plb
   have n1:itsa.length=x.length:=by rw [<-rva.length,hra.length]
   have n2:itsb.length=y.length:=by rw [<-rvb.length,hrb.length]
   have e:eqD (.tup x) (.tup y)=rB x y:=by conv=>lhs;unfold eqD
   have hd:dep (.tup x)=iC x+1:=by conv=>lhs;unfold dep
   rw [hd] at hu
   have hin:A.in1.units+iC x < cLine:=by show A.units+1+iC x < cLine;omega
   by_cases hll:la=lb
   ·subst hll
    have:=Rep.inj I px py ra rb
    rw [this,aJo _ py]
    exact EqAt.same _
   ·rw [e]
    have e3:rB x y=((List.range (min itsa.toArray.size itsb.toArray.size)).all (pairE x y)&&itsa.toArray.size==itsb.toArray.size):=by rw [<-rO,List.size_toArray,List.size_toArray,n1,n2]
    rw [e3]
    refine EqAt.of_refs hll (RcAt.tuples ila ilb (by omega) fun j j1 j2=>?_)
    have:=qC I x y A.in1 wsa wsb itsa itsb hra hrb rva rvb hin (by simpa using px) (by simpa using py) j (by simpa using j1) (by simpa using j2)
    simpa using this
  | lst y =>
   obtain ⟨lb,wsb,zu,hqb,hrb⟩:=bZ.mp rb;subst zu;have zb:b=Value.ref lb:=vb;subst zb;obtain ⟨itsb,rvb,plb,_⟩:=I.list hqb;have ilb:=plb.isList
   have e:eqD (.tup x) (.lst y)=eqD _ _:=rfl
   unfold eqD
   exact EqAt.tuple_list ila ilb (Nat.lt_of_le_of_lt (le_add_right _ _) hu)
 | .lst x,y,A,v,u,a,b,ra,rb,va,vb,hu,px,py=>by
  obtain ⟨la,wsa,zv,hqa,hra⟩:=bZ.mp ra;subst zv;have za:a=Value.ref la:=va;subst za;obtain ⟨itsa,rva,pla,_⟩:=I.list hqa;have ila:=pla.isList
  cases y with
  | dct _ _ _=>simp at py
  | ins _ _ _=>simp at py
  | exn _ _ _=>simp at py
  | fn _=>simp at py
  | non =>
   have zu:=cJ.mp rb;subst zu;have zb:b=Value.none:=vb;subst zb
   have e:eqD (.lst x) (.non)=eqD _ _:=rfl
   unfold eqD
   exact EqAt.list_none ila (Nat.lt_of_le_of_lt (le_add_right _ _) hu)
  | bl y =>
   have zu:=bF.mp rb;subst zu;have zb:b=Value.bool y:=vb;subst zb
   have e:eqD (.lst x) (.bl y)=eqD _ _:=rfl
   unfold eqD
   exact EqAt.list_bool y ila (Nat.lt_of_le_of_lt (le_add_right _ _) hu)
  | int y =>
   have zu:=aQ.mp rb;subst zu;obtain ⟨tb,zb⟩:∃ t,b=Value.int y t:=vb;subst zb
   have e:eqD (.lst x) (.int y)=eqD _ _:=rfl
   unfold eqD
   exact EqAt.list_int y tb ila (Nat.lt_of_le_of_lt (le_add_right _ _) hu)
  | str y =>
   have zu:=aZ.mp rb;subst zu;obtain ⟨tb,zb⟩:∃ t,b=Value.str ⟨y.toArray⟩ t:=vb;subst zb
   have e:eqD (.lst x) (.str y)=eqD _ _:=rfl
   unfold eqD
   exact EqAt.list_str _ tb ila (Nat.lt_of_le_of_lt (le_add_right _ _) hu)
  | tup y =>
   obtain ⟨lb,wsb,zu,hqb,hrb⟩:=bL rb;subst zu;have zb:b=Value.ref lb:=vb;subst zb;obtain ⟨itsb,rvb,plb,_⟩:=I.tuple hqb;have ilb:s.heap.IsTuple lb itsb.toArray:=plb
   have e:eqD (.lst x) (.tup y)=eqD _ _:=rfl
   unfold eqD
   exact EqAt.list_tuple ila ilb (Nat.lt_of_le_of_lt (le_add_right _ _) hu)
  | lst y =>
   obtain ⟨lb,wsb,zu,hqb,hrb⟩:=bZ.mp rb;subst zu;have zb:b=Value.ref lb:=vb;subst zb;obtain ⟨itsb,rvb,plb,_⟩:=I.list hqb;have ilb:=plb.isList
   have n1:itsa.length=x.length:=by rw [<-rva.length,hra.length]
   have n2:itsb.length=y.length:=by rw [<-rvb.length,hrb.length]
   have e:eqD (.lst x) (.lst y)=rB x y:=by conv=>lhs;unfold eqD
   have hd:dep (.lst x)=iC x+1:=by conv=>lhs;unfold dep
   rw [hd] at hu
   have hin:A.in1.units+iC x < cLine:=by show A.units+1+iC x < cLine;omega
   by_cases hll:la=lb
   ·subst hll
    have:=Rep.inj I px py ra rb
    rw [this,aJo _ py]
    exact EqAt.same _
   ·rw [e]
    by_cases hsz:itsa.length=itsb.length
    ·have e3:rB x y=(List.range itsa.toArray.size).all (pairE x y):=by rw [<-rO,List.size_toArray,n1];simp [show x.length=y.length by omega]
     rw [e3]
     refine EqAt.of_refs hll (RcAt.lists ila ilb (by simpa using hsz) (by omega) fun j j1 j2=>?_)
     have:=qC I x y A.in1 wsa wsb itsa itsb hra hrb rva rvb hin (by simpa using px) (by simpa using py) j (by simpa using j1) (by simpa using j2)
     simpa using this
    ·rw [aDx (by omega)]
     exact EqAt.of_refs hll (RcAt.lists_lengths ila ilb (by simpa using hsz) (by omega))
 | .dct _ _ _,y,A,v,u,a,b,ra,rb,va,vb,hu,px,py=>by simp at px
 | .ins _ _ _,y,A,v,u,a,b,ra,rb,va,vb,hu,px,py=>by simp at px
 | .exn _ _ _,y,A,v,u,a,b,ra,rb,va,vb,hu,px,py=>by simp at px
 | .fn _,y,A,v,u,a,b,ra,rb,va,vb,hu,px,py=>by simp at px
theorem qC(I:Inv X pins σ H s):∀ (xs ys:List D) (A:Around) (vs us:List V) (as bs:List Value),bD X.K H xs vs->bD X.K H ys us->Vals vs as->Vals us bs->A.units+iC xs < cLine->fK xs=true->fK ys=true->∀ (j:Nat) (h1:j < as.length) (h2:j < bs.length),EqAt A s as[j] bs[j] (pairE xs ys j)
 | [],_,A,vs,us,as,bs,ra,rb,va,vb,hu,px,py,j,h1,h2=>by
  have e:=dG.mp ra;subst e;cases va;exact absurd h1 (not_lt_zero _)
 | x :: xs,[],A,vs,us,as,bs,ra,rb,va,vb,hu,px,py,j,h1,h2=>by
  have e:=dG.mp rb;subst e;cases vb;exact absurd h2 (not_lt_zero _)
 | x :: xs,y :: ys,A,vs,us,as,bs,ra,rb,va,vb,hu,px,py,j,h1,h2=>by
  obtain ⟨v,r,e,p1,p2⟩:=bU.mp ra;subst e
  obtain ⟨u,r',e,q1,q2⟩:=bU.mp rb;subst e
  have hd:iC (x :: xs)=max (dep x) (iC xs):=by conv=>lhs;unfold iC
  rw [hd] at hu
  simp only [nJ,and_eq_true] at px py
  cases va with
  | cons va vas =>
   cases vb with
   | cons vb vbs =>
    cases j with
    | zero=>exact aPq I x y A v u _ _ p1 q1 va vb (by omega) px.1 py.1
    | succ j=>exact qC I xs ys A r r' _ _ p2 q2 vas vbs (by omega) px.2 py.2 j (Nat.lt_of_succ_lt_succ h1) (Nat.lt_of_succ_lt_succ h2)
end
theorem aY8(I:Inv X pins σ H s):∀ (x y:D) (A:Around) (v u:V) (a b:Value),Rep X.K H x v->Rep X.K H y u->RelV v a->RelV u b->A.units+dep x < cLine->plain x=true->plain y=true->RcAt A s a b (eqD x y)
 | .non,y,A,v,u,a,b,ra,rb,va,vb,hu,px,py=>by
  have zv:=cJ.mp ra;subst zv;have za:a=Value.none:=va;subst za
  cases y with
  | dct _ _ _=>simp at py
  | ins _ _ _=>simp at py
  | exn _ _ _=>simp at py
  | fn _=>simp at py
  | non =>
   have zu:=cJ.mp rb;subst zu;have zb:b=Value.none:=vb;subst zb
   have e:eqD (.non) (.non)=eqD _ _:=rfl
   unfold eqD
   exact RcAt.none_none
  | bl y =>
   have zu:=bF.mp rb;subst zu;have zb:b=Value.bool y:=vb;subst zb
   have e:eqD (.non) (.bl y)=eqD _ _:=rfl
   unfold eqD
   exact RcAt.none_bool y
  | int y =>
   have zu:=aQ.mp rb;subst zu;obtain ⟨tb,zb⟩:∃ t,b=Value.int y t:=vb;subst zb
   have e:eqD (.non) (.int y)=eqD _ _:=rfl
   unfold eqD
   exact RcAt.none_int y tb
  | str y =>
   have zu:=aZ.mp rb;subst zu;obtain ⟨tb,zb⟩:∃ t,b=Value.str ⟨y.toArray⟩ t:=vb;subst zb
   have e:eqD (.non) (.str y)=eqD _ _:=rfl
   unfold eqD
   exact RcAt.none_str _ tb
  | tup y =>
   obtain ⟨lb,wsb,zu,hqb,hrb⟩:=bL rb;subst zu;have zb:b=Value.ref lb:=vb;subst zb;obtain ⟨itsb,rvb,plb,_⟩:=I.tuple hqb;have ilb:s.heap.IsTuple lb itsb.toArray:=plb
   have e:eqD (.non) (.tup y)=eqD _ _:=rfl
   unfold eqD
   exact RcAt.none_tuple ilb (Nat.lt_of_le_of_lt (le_add_right _ _) hu)
  | lst y =>
   obtain ⟨lb,wsb,zu,hqb,hrb⟩:=bZ.mp rb;subst zu;have zb:b=Value.ref lb:=vb;subst zb;obtain ⟨itsb,rvb,plb,_⟩:=I.list hqb;have ilb:=plb.isList
   have e:eqD (.non) (.lst y)=eqD _ _:=rfl
   unfold eqD
   exact RcAt.none_list ilb (Nat.lt_of_le_of_lt (le_add_right _ _) hu)
 | .bl x,y,A,v,u,a,b,ra,rb,va,vb,hu,px,py=>by
  have zv:=bF.mp ra;subst zv;have za:a=Value.bool x:=va;subst za
  cases y with
  | dct _ _ _=>simp at py
  | ins _ _ _=>simp at py
  | exn _ _ _=>simp at py
  | fn _=>simp at py
  | non =>
   have zu:=cJ.mp rb;subst zu;have zb:b=Value.none:=vb;subst zb
   have e:eqD (.bl x) (.non)=eqD _ _:=rfl
   unfold eqD
   exact RcAt.bool_none x
  | bl y =>
   have zu:=bF.mp rb;subst zu;have zb:b=Value.bool y:=vb;subst zb
   have e:eqD (.bl x) (.bl y)=eqD _ _:=rfl
   unfold eqD
   exact RcAt.bool_bool x y
  | int y =>
   have zu:=aQ.mp rb;subst zu;obtain ⟨tb,zb⟩:∃ t,b=Value.int y t:=vb;subst zb
   have e:eqD (.bl x) (.int y)=eqD _ _:=rfl
   unfold eqD
   exact RcAt.bool_int x y tb
  | str y =>
   have zu:=aZ.mp rb;subst zu;obtain ⟨tb,zb⟩:∃ t,b=Value.str ⟨y.toArray⟩ t:=vb;subst zb
   have e:eqD (.bl x) (.str y)=eqD _ _:=rfl
   unfold eqD
   exact RcAt.bool_str x _ tb
  | tup y =>
   obtain ⟨lb,wsb,zu,hqb,hrb⟩:=bL rb;subst zu;have zb:b=Value.ref lb:=vb;subst zb;obtain ⟨itsb,rvb,plb,_⟩:=I.tuple hqb;have ilb:s.heap.IsTuple lb itsb.toArray:=plb
   have e:eqD (.bl x) (.tup y)=eqD _ _:=rfl
   unfold eqD
   exact RcAt.bool_tuple x ilb (Nat.lt_of_le_of_lt (le_add_right _ _) hu)
  | lst y =>
   obtain ⟨lb,wsb,zu,hqb,hrb⟩:=bZ.mp rb;subst zu;have zb:b=Value.ref lb:=vb;subst zb;obtain ⟨itsb,rvb,plb,_⟩:=I.list hqb;have ilb:=plb.isList
   have e:eqD (.bl x) (.lst y)=eqD _ _:=rfl
   unfold eqD
   exact RcAt.bool_list x ilb (Nat.lt_of_le_of_lt (le_add_right _ _) hu)
 | .int x,y,A,v,u,a,b,ra,rb,va,vb,hu,px,py=>by
  have zv:=aQ.mp ra;subst zv;obtain ⟨ta,za⟩:∃ t,a=Value.int x t:=va;subst za
  cases y with
  | dct _ _ _=>simp at py
  | ins _ _ _=>simp at py
  | exn _ _ _=>simp at py
  | fn _=>simp at py
  | non =>
   have zu:=cJ.mp rb;subst zu;have zb:b=Value.none:=vb;subst zb
   have e:eqD (.int x) (.non)=eqD _ _:=rfl
   unfold eqD
   exact RcAt.int_none x ta
  | bl y =>
   have zu:=bF.mp rb;subst zu;have zb:b=Value.bool y:=vb;subst zb
   have e:eqD (.int x) (.bl y)=eqD _ _:=rfl
   unfold eqD
   exact RcAt.int_bool x ta y
  | int y =>
   have zu:=aQ.mp rb;subst zu;obtain ⟨tb,zb⟩:∃ t,b=Value.int y t:=vb;subst zb
   have e:eqD (.int x) (.int y)=eqD _ _:=rfl
   unfold eqD
   exact RcAt.int_int x ta y tb
  | str y =>
   have zu:=aZ.mp rb;subst zu;obtain ⟨tb,zb⟩:∃ t,b=Value.str ⟨y.toArray⟩ t:=vb;subst zb
   have e:eqD (.int x) (.str y)=eqD _ _:=rfl
   unfold eqD
   exact RcAt.int_str x ta _ tb
  | tup y =>
   obtain ⟨lb,wsb,zu,hqb,hrb⟩:=bL rb;subst zu;have zb:b=Value.ref lb:=vb;subst zb;obtain ⟨itsb,rvb,plb,_⟩:=I.tuple hqb;have ilb:s.heap.IsTuple lb itsb.toArray:=plb
   have e:eqD (.int x) (.tup y)=eqD _ _:=rfl
   unfold eqD
   exact RcAt.int_tuple x ta ilb (Nat.lt_of_le_of_lt (le_add_right _ _) hu)
  | lst y =>
   obtain ⟨lb,wsb,zu,hqb,hrb⟩:=bZ.mp rb;subst zu;have zb:b=Value.ref lb:=vb;subst zb;obtain ⟨itsb,rvb,plb,_⟩:=I.list hqb;have ilb:=plb.isList
   have e:eqD (.int x) (.lst y)=eqD _ _:=rfl
   unfold eqD
   exact RcAt.int_list x ta ilb (Nat.lt_of_le_of_lt (le_add_right _ _) hu)
 | .str x,y,A,v,u,a,b,ra,rb,va,vb,hu,px,py=>by
  have zv:=aZ.mp ra;subst zv;obtain ⟨ta,za⟩:∃ t,a=Value.str ⟨x.toArray⟩ t:=va;subst za
  cases y with
  | dct _ _ _=>simp at py
  | ins _ _ _=>simp at py
  | exn _ _ _=>simp at py
  | fn _=>simp at py
  | non =>
   have zu:=cJ.mp rb;subst zu;have zb:b=Value.none:=vb;subst zb
   have e:eqD (.str x) (.non)=eqD _ _:=rfl
   unfold eqD
   exact RcAt.str_none _ ta
  | bl y =>
   have zu:=bF.mp rb;subst zu;have zb:b=Value.bool y:=vb;subst zb
   have e:eqD (.str x) (.bl y)=eqD _ _:=rfl
   unfold eqD
   exact RcAt.str_bool _ ta y
  | int y =>
   have zu:=aQ.mp rb;subst zu;obtain ⟨tb,zb⟩:∃ t,b=Value.int y t:=vb;subst zb
   have e:eqD (.str x) (.int y)=eqD _ _:=rfl
   unfold eqD
   exact RcAt.str_int _ ta y tb
  | str y =>
   have zu:=aZ.mp rb;subst zu;obtain ⟨tb,zb⟩:∃ t,b=Value.str ⟨y.toArray⟩ t:=vb;subst zb
   have e:eqD (.str x) (.str y)=((⟨x.toArray⟩:Str)==⟨y.toArray⟩):=by rw [<-str_beq];unfold eqD;simp
   rw [e]
   exact RcAt.str_str _ ta _ tb
  | tup y =>
   obtain ⟨lb,wsb,zu,hqb,hrb⟩:=bL rb;subst zu;have zb:b=Value.ref lb:=vb;subst zb;obtain ⟨itsb,rvb,plb,_⟩:=I.tuple hqb;have ilb:s.heap.IsTuple lb itsb.toArray:=plb
   have e:eqD (.str x) (.tup y)=eqD _ _:=rfl
   unfold eqD
   exact RcAt.str_tuple _ ta ilb (Nat.lt_of_le_of_lt (le_add_right _ _) hu)
  | lst y =>
   obtain ⟨lb,wsb,zu,hqb,hrb⟩:=bZ.mp rb;subst zu;have zb:b=Value.ref lb:=vb;subst zb;obtain ⟨itsb,rvb,plb,_⟩:=I.list hqb;have ilb:=plb.isList
   have e:eqD (.str x) (.lst y)=eqD _ _:=rfl
   unfold eqD
   exact RcAt.str_list _ ta ilb (Nat.lt_of_le_of_lt (le_add_right _ _) hu)
 | .tup x,y,A,v,u,a,b,ra,rb,va,vb,hu,px,py=>by
  obtain ⟨la,wsa,zv,hqa,hra⟩:=bL ra;subst zv;have za:a=Value.ref la:=va;subst za;obtain ⟨itsa,rva,pla,_⟩:=I.tuple hqa;have ila:s.heap.IsTuple la itsa.toArray:=pla
  cases y with
  | dct _ _ _=>simp at py
  | ins _ _ _=>simp at py
  | exn _ _ _=>simp at py
  | fn _=>simp at py
  | non =>
   have zu:=cJ.mp rb;subst zu;have zb:b=Value.none:=vb;subst zb
   have e:eqD (.tup x) (.non)=eqD _ _:=rfl
   unfold eqD
   exact RcAt.tuple_none ila (Nat.lt_of_le_of_lt (le_add_right _ _) hu)
  | bl y =>
   have zu:=bF.mp rb;subst zu;have zb:b=Value.bool y:=vb;subst zb
   have e:eqD (.tup x) (.bl y)=eqD _ _:=rfl
   unfold eqD
   exact RcAt.tuple_bool y ila (Nat.lt_of_le_of_lt (le_add_right _ _) hu)
  | int y =>
   have zu:=aQ.mp rb;subst zu;obtain ⟨tb,zb⟩:∃ t,b=Value.int y t:=vb;subst zb
   have e:eqD (.tup x) (.int y)=eqD _ _:=rfl
   unfold eqD
   exact RcAt.tuple_int y tb ila (Nat.lt_of_le_of_lt (le_add_right _ _) hu)
  | str y =>
   have zu:=aZ.mp rb;subst zu;obtain ⟨tb,zb⟩:∃ t,b=Value.str ⟨y.toArray⟩ t:=vb;subst zb
   have e:eqD (.tup x) (.str y)=eqD _ _:=rfl
   unfold eqD
   exact RcAt.tuple_str _ tb ila (Nat.lt_of_le_of_lt (le_add_right _ _) hu)
  | tup y =>
   obtain ⟨lb,wsb,zu,hqb,hrb⟩:=bL rb;subst zu;have zb:b=Value.ref lb:=vb;subst zb;obtain ⟨itsb,rvb,plb,_⟩:=I.tuple hqb;have ilb:s.heap.IsTuple lb itsb.toArray:=plb
   have n1:itsa.length=x.length:=by rw [<-rva.length,hra.length]
   have n2:itsb.length=y.length:=by rw [<-rvb.length,hrb.length]
   have e:eqD (.tup x) (.tup y)=rB x y:=by conv=>lhs;unfold eqD
   have hd:dep (.tup x)=iC x+1:=by conv=>lhs;unfold dep
   rw [hd] at hu
   have hin:A.in1.units+iC x < cLine:=by show A.units+1+iC x < cLine;omega
   rw [e]
   have e3:rB x y=((List.range (min itsa.toArray.size itsb.toArray.size)).all (pairE x y)&&itsa.toArray.size==itsb.toArray.size):=by rw [<-rO,List.size_toArray,List.size_toArray,n1,n2]
   rw [e3]
   refine  (RcAt.tuples ila ilb (by omega) fun j j1 j2=>?_)
   have:=qC I x y A.in1 wsa wsb itsa itsb hra hrb rva rvb hin (by simpa using px) (by simpa using py) j (by simpa using j1) (by simpa using j2)
   simpa using this
  | lst y =>
   obtain ⟨lb,wsb,zu,hqb,hrb⟩:=bZ.mp rb;subst zu;have zb:b=Value.ref lb:=vb;subst zb;obtain ⟨itsb,rvb,plb,_⟩:=I.list hqb;have ilb:=plb.isList
   have e:eqD (.tup x) (.lst y)=eqD _ _:=rfl
   unfold eqD
   exact RcAt.tuple_list ila ilb (Nat.lt_of_le_of_lt (le_add_right _ _) hu)
 | .lst x,y,A,v,u,a,b,ra,rb,va,vb,hu,px,py=>by
  obtain ⟨la,wsa,zv,hqa,hra⟩:=bZ.mp ra;subst zv;have za:a=Value.ref la:=va;subst za;obtain ⟨itsa,rva,pla,_⟩:=I.list hqa;have ila:=pla.isList
  cases y with
  | dct _ _ _=>simp at py
  | ins _ _ _=>simp at py
  | exn _ _ _=>simp at py
  | fn _=>simp at py
  | non =>
   have zu:=cJ.mp rb;subst zu;have zb:b=Value.none:=vb;subst zb
   have e:eqD (.lst x) (.non)=eqD _ _:=rfl
   unfold eqD
   exact RcAt.list_none ila (Nat.lt_of_le_of_lt (le_add_right _ _) hu)
  | bl y =>
   have zu:=bF.mp rb;subst zu;have zb:b=Value.bool y:=vb;subst zb
   have e:eqD (.lst x) (.bl y)=eqD _ _:=rfl
   unfold eqD
   exact RcAt.list_bool y ila (Nat.lt_of_le_of_lt (le_add_right _ _) hu)
  | int y =>
   have zu:=aQ.mp rb;subst zu;obtain ⟨tb,zb⟩:∃ t,b=Value.int y t:=vb;subst zb
   have e:eqD (.lst x) (.int y)=eqD _ _:=rfl
   unfold eqD
   exact RcAt.list_int y tb ila (Nat.lt_of_le_of_lt (le_add_right _ _) hu)
  | str y =>
   have zu:=aZ.mp rb;subst zu;obtain ⟨tb,zb⟩:∃ t,b=Value.str ⟨y.toArray⟩ t:=vb;subst zb
   have e:eqD (.lst x) (.str y)=eqD _ _:=rfl
   unfold eqD
   exact RcAt.list_str _ tb ila (Nat.lt_of_le_of_lt (le_add_right _ _) hu)
  | tup y =>
   obtain ⟨lb,wsb,zu,hqb,hrb⟩:=bL rb;subst zu;have zb:b=Value.ref lb:=vb;subst zb;obtain ⟨itsb,rvb,plb,_⟩:=I.tuple hqb;have ilb:s.heap.IsTuple lb itsb.toArray:=plb
   have e:eqD (.lst x) (.tup y)=eqD _ _:=rfl
   unfold eqD
   exact RcAt.list_tuple ila ilb (Nat.lt_of_le_of_lt (le_add_right _ _) hu)
  | lst y =>
   obtain ⟨lb,wsb,zu,hqb,hrb⟩:=bZ.mp rb;subst zu;have zb:b=Value.ref lb:=vb;subst zb;obtain ⟨itsb,rvb,plb,_⟩:=I.list hqb;have ilb:=plb.isList
   have n1:itsa.length=x.length:=by rw [<-rva.length,hra.length]
   have n2:itsb.length=y.length:=by rw [<-rvb.length,hrb.length]
   have e:eqD (.lst x) (.lst y)=rB x y:=by conv=>lhs;unfold eqD
   have hd:dep (.lst x)=iC x+1:=by conv=>lhs;unfold dep
   rw [hd] at hu
   have hin:A.in1.units+iC x < cLine:=by show A.units+1+iC x < cLine;omega
   rw [e]
   by_cases hsz:itsa.length=itsb.length
   ·have e3:rB x y=(List.range itsa.toArray.size).all (pairE x y):=by rw [<-rO,List.size_toArray,n1];simp [show x.length=y.length by omega]
    rw [e3]
    refine  (RcAt.lists ila ilb (by simpa using hsz) (by omega) fun j j1 j2=>?_)
    have:=qC I x y A.in1 wsa wsb itsa itsb hra hrb rva rvb hin (by simpa using px) (by simpa using py) j (by simpa using j1) (by simpa using j2)
    simpa using this
   ·rw [aDx (by omega)]
    exact  (RcAt.lists_lengths ila ilb (by simpa using hsz) (by omega))
 | .dct _ _ _,y,A,v,u,a,b,ra,rb,va,vb,hu,px,py=>by simp at px
 | .ins _ _ _,y,A,v,u,a,b,ra,rb,va,vb,hu,px,py=>by simp at px
 | .exn _ _ _,y,A,v,u,a,b,ra,rb,va,vb,hu,px,py=>by simp at px
 | .fn _,y,A,v,u,a,b,ra,rb,va,vb,hu,px,py=>by simp at px
theorem aY9(I:Inv X pins σ H s):∀ (x y:D) (A:Around) (v u:V) (a b:Value),Rep X.K H x v->Rep X.K H y u->RelV v a->RelV u b->A.units+dep x < cLine->plain x=true->plain y=true->RcNeAt A s a b (!eqD x y)
 | .non,y,A,v,u,a,b,ra,rb,va,vb,hu,px,py=>by
  have zv:=cJ.mp ra;subst zv;have za:a=Value.none:=va;subst za
  cases y with
  | dct _ _ _=>simp at py
  | ins _ _ _=>simp at py
  | exn _ _ _=>simp at py
  | fn _=>simp at py
  | non =>
   have zu:=cJ.mp rb;subst zu;have zb:b=Value.none:=vb;subst zb
   have e:eqD (.non) (.non)=eqD _ _:=rfl
   unfold eqD
   exact RcNeAt.none_none
  | bl y =>
   have zu:=bF.mp rb;subst zu;have zb:b=Value.bool y:=vb;subst zb
   have e:eqD (.non) (.bl y)=eqD _ _:=rfl
   unfold eqD
   exact RcNeAt.none_bool y
  | int y =>
   have zu:=aQ.mp rb;subst zu;obtain ⟨tb,zb⟩:∃ t,b=Value.int y t:=vb;subst zb
   have e:eqD (.non) (.int y)=eqD _ _:=rfl
   unfold eqD
   exact RcNeAt.none_int y tb
  | str y =>
   have zu:=aZ.mp rb;subst zu;obtain ⟨tb,zb⟩:∃ t,b=Value.str ⟨y.toArray⟩ t:=vb;subst zb
   have e:eqD (.non) (.str y)=eqD _ _:=rfl
   unfold eqD
   exact RcNeAt.none_str _ tb
  | tup y =>
   obtain ⟨lb,wsb,zu,hqb,hrb⟩:=bL rb;subst zu;have zb:b=Value.ref lb:=vb;subst zb;obtain ⟨itsb,rvb,plb,_⟩:=I.tuple hqb;have ilb:s.heap.IsTuple lb itsb.toArray:=plb
   have e:eqD (.non) (.tup y)=eqD _ _:=rfl
   unfold eqD
   exact RcNeAt.none_tuple ilb (Nat.lt_of_le_of_lt (le_add_right _ _) hu)
  | lst y =>
   obtain ⟨lb,wsb,zu,hqb,hrb⟩:=bZ.mp rb;subst zu;have zb:b=Value.ref lb:=vb;subst zb;obtain ⟨itsb,rvb,plb,_⟩:=I.list hqb;have ilb:=plb.isList
   have e:eqD (.non) (.lst y)=eqD _ _:=rfl
   unfold eqD
   exact RcNeAt.none_list ilb (Nat.lt_of_le_of_lt (le_add_right _ _) hu)
 | .bl x,y,A,v,u,a,b,ra,rb,va,vb,hu,px,py=>by
  have zv:=bF.mp ra;subst zv;have za:a=Value.bool x:=va;subst za
  cases y with
  | dct _ _ _=>simp at py
  | ins _ _ _=>simp at py
  | exn _ _ _=>simp at py
  | fn _=>simp at py
  | non =>
   have zu:=cJ.mp rb;subst zu;have zb:b=Value.none:=vb;subst zb
   have e:eqD (.bl x) (.non)=eqD _ _:=rfl
   unfold eqD
   exact RcNeAt.bool_none x
  | bl y =>
   have zu:=bF.mp rb;subst zu;have zb:b=Value.bool y:=vb;subst zb
   have e:eqD (.bl x) (.bl y)=eqD _ _:=rfl
   unfold eqD
   exact RcNeAt.bool_bool x y
  | int y =>
   have zu:=aQ.mp rb;subst zu;obtain ⟨tb,zb⟩:∃ t,b=Value.int y t:=vb;subst zb
   have e:eqD (.bl x) (.int y)=eqD _ _:=rfl
   unfold eqD
   exact RcNeAt.bool_int x y tb
  | str y =>
   have zu:=aZ.mp rb;subst zu;obtain ⟨tb,zb⟩:∃ t,b=Value.str ⟨y.toArray⟩ t:=vb;subst zb
   have e:eqD (.bl x) (.str y)=eqD _ _:=rfl
   unfold eqD
   exact RcNeAt.bool_str x _ tb
  | tup y =>
   obtain ⟨lb,wsb,zu,hqb,hrb⟩:=bL rb;subst zu;have zb:b=Value.ref lb:=vb;subst zb;obtain ⟨itsb,rvb,plb,_⟩:=I.tuple hqb;have ilb:s.heap.IsTuple lb itsb.toArray:=plb
   have e:eqD (.bl x) (.tup y)=eqD _ _:=rfl
   unfold eqD
   exact RcNeAt.bool_tuple x ilb (Nat.lt_of_le_of_lt (le_add_right _ _) hu)
  | lst y =>
   obtain ⟨lb,wsb,zu,hqb,hrb⟩:=bZ.mp rb;subst zu;have zb:b=Value.ref lb:=vb;subst zb;obtain ⟨itsb,rvb,plb,_⟩:=I.list hqb;have ilb:=plb.isList
   have e:eqD (.bl x) (.lst y)=eqD _ _:=rfl
   unfold eqD
   exact RcNeAt.bool_list x ilb (Nat.lt_of_le_of_lt (le_add_right _ _) hu)
 | .int x,y,A,v,u,a,b,ra,rb,va,vb,hu,px,py=>by
  have zv:=aQ.mp ra;subst zv;obtain ⟨ta,za⟩:∃ t,a=Value.int x t:=va;subst za
  cases y with
  | dct _ _ _=>simp at py
  | ins _ _ _=>simp at py
  | exn _ _ _=>simp at py
  | fn _=>simp at py
  | non =>
   have zu:=cJ.mp rb;subst zu;have zb:b=Value.none:=vb;subst zb
   have e:eqD (.int x) (.non)=eqD _ _:=rfl
   unfold eqD
   exact RcNeAt.int_none x ta
  | bl y =>
   have zu:=bF.mp rb;subst zu;have zb:b=Value.bool y:=vb;subst zb
   have e:eqD (.int x) (.bl y)=eqD _ _:=rfl
   unfold eqD
   exact RcNeAt.int_bool x ta y
  | int y =>
   have zu:=aQ.mp rb;subst zu;obtain ⟨tb,zb⟩:∃ t,b=Value.int y t:=vb;subst zb
   have e:eqD (.int x) (.int y)=eqD _ _:=rfl
   unfold eqD
   exact RcNeAt.int_int x ta y tb
  | str y =>
   have zu:=aZ.mp rb;subst zu;obtain ⟨tb,zb⟩:∃ t,b=Value.str ⟨y.toArray⟩ t:=vb;subst zb
   have e:eqD (.int x) (.str y)=eqD _ _:=rfl
   unfold eqD
   exact RcNeAt.int_str x ta _ tb
  | tup y =>
   obtain ⟨lb,wsb,zu,hqb,hrb⟩:=bL rb;subst zu;have zb:b=Value.ref lb:=vb;subst zb;obtain ⟨itsb,rvb,plb,_⟩:=I.tuple hqb;have ilb:s.heap.IsTuple lb itsb.toArray:=plb
   have e:eqD (.int x) (.tup y)=eqD _ _:=rfl
   unfold eqD
   exact RcNeAt.int_tuple x ta ilb (Nat.lt_of_le_of_lt (le_add_right _ _) hu)
  | lst y =>
   obtain ⟨lb,wsb,zu,hqb,hrb⟩:=bZ.mp rb;subst zu;have zb:b=Value.ref lb:=vb;subst zb;obtain ⟨itsb,rvb,plb,_⟩:=I.list hqb;have ilb:=plb.isList
   have e:eqD (.int x) (.lst y)=eqD _ _:=rfl
   unfold eqD
   exact RcNeAt.int_list x ta ilb (Nat.lt_of_le_of_lt (le_add_right _ _) hu)
 | .str x,y,A,v,u,a,b,ra,rb,va,vb,hu,px,py=>by
  have zv:=aZ.mp ra;subst zv;obtain ⟨ta,za⟩:∃ t,a=Value.str ⟨x.toArray⟩ t:=va;subst za
  cases y with
  | dct _ _ _=>simp at py
  | ins _ _ _=>simp at py
  | exn _ _ _=>simp at py
  | fn _=>simp at py
  | non =>
   have zu:=cJ.mp rb;subst zu;have zb:b=Value.none:=vb;subst zb
   have e:eqD (.str x) (.non)=eqD _ _:=rfl
   unfold eqD
   exact RcNeAt.str_none _ ta
  | bl y =>
   have zu:=bF.mp rb;subst zu;have zb:b=Value.bool y:=vb;subst zb
   have e:eqD (.str x) (.bl y)=eqD _ _:=rfl
   unfold eqD
   exact RcNeAt.str_bool _ ta y
  | int y =>
   have zu:=aQ.mp rb;subst zu;obtain ⟨tb,zb⟩:∃ t,b=Value.int y t:=vb;subst zb
   have e:eqD (.str x) (.int y)=eqD _ _:=rfl
   unfold eqD
   exact RcNeAt.str_int _ ta y tb
  | str y =>
   have zu:=aZ.mp rb;subst zu;obtain ⟨tb,zb⟩:∃ t,b=Value.str ⟨y.toArray⟩ t:=vb;subst zb
   have e:eqD (.str x) (.str y)=((⟨x.toArray⟩:Str)==⟨y.toArray⟩):=by rw [<-str_beq];unfold eqD;simp
   rw [e]
   exact RcNeAt.str_str _ ta _ tb
  | tup y =>
   obtain ⟨lb,wsb,zu,hqb,hrb⟩:=bL rb;subst zu;have zb:b=Value.ref lb:=vb;subst zb;obtain ⟨itsb,rvb,plb,_⟩:=I.tuple hqb;have ilb:s.heap.IsTuple lb itsb.toArray:=plb
   have e:eqD (.str x) (.tup y)=eqD _ _:=rfl
   unfold eqD
   exact RcNeAt.str_tuple _ ta ilb (Nat.lt_of_le_of_lt (le_add_right _ _) hu)
  | lst y =>
   obtain ⟨lb,wsb,zu,hqb,hrb⟩:=bZ.mp rb;subst zu;have zb:b=Value.ref lb:=vb;subst zb;obtain ⟨itsb,rvb,plb,_⟩:=I.list hqb;have ilb:=plb.isList
   have e:eqD (.str x) (.lst y)=eqD _ _:=rfl
   unfold eqD
   exact RcNeAt.str_list _ ta ilb (Nat.lt_of_le_of_lt (le_add_right _ _) hu)
 | .tup x,y,A,v,u,a,b,ra,rb,va,vb,hu,px,py=>by
  obtain ⟨la,wsa,zv,hqa,hra⟩:=bL ra;subst zv;have za:a=Value.ref la:=va;subst za;obtain ⟨itsa,rva,pla,_⟩:=I.tuple hqa;have ila:s.heap.IsTuple la itsa.toArray:=pla
  cases y with
  | dct _ _ _=>simp at py
  | ins _ _ _=>simp at py
  | exn _ _ _=>simp at py
  | fn _=>simp at py
  | non =>
   have zu:=cJ.mp rb;subst zu;have zb:b=Value.none:=vb;subst zb
   have e:eqD (.tup x) (.non)=eqD _ _:=rfl
   unfold eqD
   exact RcNeAt.tuple_none ila (Nat.lt_of_le_of_lt (le_add_right _ _) hu)
  | bl y =>
   have zu:=bF.mp rb;subst zu;have zb:b=Value.bool y:=vb;subst zb
   have e:eqD (.tup x) (.bl y)=eqD _ _:=rfl
   unfold eqD
   exact RcNeAt.tuple_bool y ila (Nat.lt_of_le_of_lt (le_add_right _ _) hu)
  | int y =>
   have zu:=aQ.mp rb;subst zu;obtain ⟨tb,zb⟩:∃ t,b=Value.int y t:=vb;subst zb
   have e:eqD (.tup x) (.int y)=eqD _ _:=rfl
   unfold eqD
   exact RcNeAt.tuple_int y tb ila (Nat.lt_of_le_of_lt (le_add_right _ _) hu)
  | str y =>
   have zu:=aZ.mp rb;subst zu;obtain ⟨tb,zb⟩:∃ t,b=Value.str ⟨y.toArray⟩ t:=vb;subst zb
   have e:eqD (.tup x) (.str y)=eqD _ _:=rfl
   unfold eqD
   exact RcNeAt.tuple_str _ tb ila (Nat.lt_of_le_of_lt (le_add_right _ _) hu)
  | tup y =>
   obtain ⟨lb,wsb,zu,hqb,hrb⟩:=bL rb;subst zu;have zb:b=Value.ref lb:=vb;subst zb;obtain ⟨itsb,rvb,plb,_⟩:=I.tuple hqb;have ilb:s.heap.IsTuple lb itsb.toArray:=plb
   have n1:itsa.length=x.length:=by rw [<-rva.length,hra.length]
   have n2:itsb.length=y.length:=by rw [<-rvb.length,hrb.length]
   have e:eqD (.tup x) (.tup y)=rB x y:=by conv=>lhs;unfold eqD
   have hd:dep (.tup x)=iC x+1:=by conv=>lhs;unfold dep
   rw [hd] at hu
   have hin:A.in1.units+iC x < cLine:=by show A.units+1+iC x < cLine;omega
   rw [e]
   have e3:rB x y=((List.range (min itsa.toArray.size itsb.toArray.size)).all (pairE x y)&&itsa.toArray.size==itsb.toArray.size):=by rw [<-rO,List.size_toArray,List.size_toArray,n1,n2]
   rw [e3]
   refine  (RcNeAt.tuples ila ilb (by omega) fun j j1 j2=>?_)
   have:=qC I x y A.in1 wsa wsb itsa itsb hra hrb rva rvb hin (by simpa using px) (by simpa using py) j (by simpa using j1) (by simpa using j2)
   simpa using this
  | lst y =>
   obtain ⟨lb,wsb,zu,hqb,hrb⟩:=bZ.mp rb;subst zu;have zb:b=Value.ref lb:=vb;subst zb;obtain ⟨itsb,rvb,plb,_⟩:=I.list hqb;have ilb:=plb.isList
   have e:eqD (.tup x) (.lst y)=eqD _ _:=rfl
   unfold eqD
   exact RcNeAt.tuple_list ila ilb (Nat.lt_of_le_of_lt (le_add_right _ _) hu)
 | .lst x,y,A,v,u,a,b,ra,rb,va,vb,hu,px,py=>by
  obtain ⟨la,wsa,zv,hqa,hra⟩:=bZ.mp ra;subst zv;have za:a=Value.ref la:=va;subst za;obtain ⟨itsa,rva,pla,_⟩:=I.list hqa;have ila:=pla.isList
  cases y with
  | dct _ _ _=>simp at py
  | ins _ _ _=>simp at py
  | exn _ _ _=>simp at py
  | fn _=>simp at py
  | non =>
   have zu:=cJ.mp rb;subst zu;have zb:b=Value.none:=vb;subst zb
   have e:eqD (.lst x) (.non)=eqD _ _:=rfl
   unfold eqD
   exact RcNeAt.list_none ila (Nat.lt_of_le_of_lt (le_add_right _ _) hu)
  | bl y =>
   have zu:=bF.mp rb;subst zu;have zb:b=Value.bool y:=vb;subst zb
   have e:eqD (.lst x) (.bl y)=eqD _ _:=rfl
   unfold eqD
   exact RcNeAt.list_bool y ila (Nat.lt_of_le_of_lt (le_add_right _ _) hu)
  | int y =>
   have zu:=aQ.mp rb;subst zu;obtain ⟨tb,zb⟩:∃ t,b=Value.int y t:=vb;subst zb
   have e:eqD (.lst x) (.int y)=eqD _ _:=rfl
   unfold eqD
   exact RcNeAt.list_int y tb ila (Nat.lt_of_le_of_lt (le_add_right _ _) hu)
  | str y =>
   have zu:=aZ.mp rb;subst zu;obtain ⟨tb,zb⟩:∃ t,b=Value.str ⟨y.toArray⟩ t:=vb;subst zb
   have e:eqD (.lst x) (.str y)=eqD _ _:=rfl
   unfold eqD
   exact RcNeAt.list_str _ tb ila (Nat.lt_of_le_of_lt (le_add_right _ _) hu)
  | tup y =>
   obtain ⟨lb,wsb,zu,hqb,hrb⟩:=bL rb;subst zu;have zb:b=Value.ref lb:=vb;subst zb;obtain ⟨itsb,rvb,plb,_⟩:=I.tuple hqb;have ilb:s.heap.IsTuple lb itsb.toArray:=plb
   have e:eqD (.lst x) (.tup y)=eqD _ _:=rfl
   unfold eqD
   exact RcNeAt.list_tuple ila ilb (Nat.lt_of_le_of_lt (le_add_right _ _) hu)
  | lst y =>
   obtain ⟨lb,wsb,zu,hqb,hrb⟩:=bZ.mp rb;subst zu;have zb:b=Value.ref lb:=vb;subst zb;obtain ⟨itsb,rvb,plb,_⟩:=I.list hqb;have ilb:=plb.isList
   have n1:itsa.length=x.length:=by rw [<-rva.length,hra.length]
   have n2:itsb.length=y.length:=by rw [<-rvb.length,hrb.length]
   have e:eqD (.lst x) (.lst y)=rB x y:=by conv=>lhs;unfold eqD
   have hd:dep (.lst x)=iC x+1:=by conv=>lhs;unfold dep
   rw [hd] at hu
   have hin:A.in1.units+iC x < cLine:=by show A.units+1+iC x < cLine;omega
   rw [e]
   by_cases hsz:itsa.length=itsb.length
   ·have e3:rB x y=(List.range itsa.toArray.size).all (pairE x y):=by rw [<-rO,List.size_toArray,n1];simp [show x.length=y.length by omega]
    rw [e3]
    refine  (RcNeAt.lists ila ilb (by simpa using hsz) (by omega) fun j j1 j2=>?_)
    have:=qC I x y A.in1 wsa wsb itsa itsb hra hrb rva rvb hin (by simpa using px) (by simpa using py) j (by simpa using j1) (by simpa using j2)
    simpa using this
   ·rw [aDx (by omega)]
    exact  (RcNeAt.lists_lengths ila ilb (by simpa using hsz) (by omega))
 | .dct _ _ _,y,A,v,u,a,b,ra,rb,va,vb,hu,px,py=>by simp at px
 | .ins _ _ _,y,A,v,u,a,b,ra,rb,va,vb,hu,px,py=>by simp at px
 | .exn _ _ _,y,A,v,u,a,b,ra,rb,va,vb,hu,px,py=>by simp at px
 | .fn _,y,A,v,u,a,b,ra,rb,va,vb,hu,px,py=>by simp at px
end
end Pu
namespace Pu
open PySem PySem.Spec PyProof.Rows L2
section
variable{X:Cx}{B:List Addr}{a b e:Expr}{f g:Ex}{pos:Pos}
theorem jV.rep{K:Frag}{A:List Addr}{H:Hp}{d:D}{v:V}(h:jV K A H d v):Rep K H d v:=by
 rcases h with h | ⟨a,k,o,ds,vs,e1,e2,e3,ko,q⟩
 ·exact h.mono (bG _ _)
 ·subst e1 e2
  exact ko.rep e3 (q.mono (bG _ _))
def bBe(K:Frag)(neg:Bool):R2:=fun v u H Q=>∃ x y,Rep K H x v/\Rep K H y u/\(dep x<=64/\plain x=true/\plain y=true)/\Q (.bl (if neg then !eqD x y else eqD x y)) H
theorem lY(hu:X.A.units+64 < cLine):OpR X (compareOp .Eq) (bBe X.K false):=by
 intro pins s σ H v u a b Q I ra rb h
 obtain ⟨x,y,rx,ry,hd,q⟩:=h
 exact aY8 I x y X.A v u a b rx ry ra rb (by omega) hd.2.1 hd.2.2 X.prog X.w X.xe _ ⟨.bl _,H,I,rfl,q⟩
theorem yV(hu:X.A.units+64 < cLine):OpR X (compareOp .NotEq) (bBe X.K true):=by
 intro pins s σ H v u a b Q I ra rb h
 obtain ⟨x,y,rx,ry,hd,q⟩:=h
 exact aY9 I x y X.A v u a b rx ry ra rb (by omega) hd.2.1 hd.2.2 X.prog X.w X.xe _ ⟨.bl _,H,I,rfl,q⟩
theorem lZ{K:Frag}:aBg K (bBe K false) dEq:=by
 intro A H x y d v u Q w rx ry e q
 obtain ⟨c,e⟩:=aK e
 cases e
 exact ⟨x,y,rx.rep,ry.rep,c,q _ H (bA.refl _) (bF.mpr rfl)⟩
theorem yW{K:Frag}:aBg K (bBe K true) dNe:=by
 intro A H x y d v u Q w rx ry e q
 obtain ⟨c,e⟩:=aK e
 cases e
 exact ⟨x,y,rx.rep,ry.rep,c,q _ H (bA.refl _) (bF.mpr rfl)⟩
def tyD:D->String
 | .non => "NoneType"
 | .bl _ => "bool"
 | .int _ => "int"
 | .str _ => "str"
 | .tup _ => "tuple"
 | .lst _ => "list"
 | .dct _ _ _ => "dict"
 | .ins _ _ _ => ""
 | .exn _ _ _ => ""
 | .fn _ => ""
structure IsT(T:String)(p:D->Bool):Prop where
 boot:bootBuiltins T=some (.type T)
 ans:∀ (K:Frag) (d:D),aEe d=true->kitOne K (.type (tyD d)) (.type T)=some (p d)
theorem aYa{T:String}{p:D->Bool}(h:IsT T p):mC X (.builtin "isinstance") (fun xs H Q=>∃ v d,xs=[v,.ty T]/\aEe d=true/\Rep X.K H d v/\Q (.bl (p d)) H):=by
 intro pins s σ H xs us Q I r q
 obtain ⟨v,d,rfl,hbl,rd,q⟩:=q
 obtain ⟨u,u2,rfl,ru,ru2⟩:=r.two
 have e2:u2=Value.type T:=ru2
 subst e2
 have fin:∀ tk,EP X pins σ Q (.bool (p d)) { s with toks:=tk }:=fun tk=>⟨.bl (p d),H,I.tok tk,rfl,q⟩
 have e:=h.ans X.K d hbl
 cases d with
 | non=>have z:=cJ.mp rd;subst z;have z:u=Value.none:=ru;subst z;exact kia_one PySem.W.kitx_none I.kIn True.intro e (fun z=>nomatch z) fin
 | bl x=>have z:=bF.mp rd;subst z;have z:u=Value.bool x:=ru;subst z;exact kia_one PySem.W.kitx_bool I.kIn True.intro e (fun z=>nomatch z) fin
 | int x=>have z:=aQ.mp rd;subst z;obtain ⟨t,z⟩:∃ t,u=Value.int x t:=ru;subst z;exact kia_one PySem.W.kitx_int I.kIn True.intro e (fun z=>nomatch z) fin
 | str x=>have z:=aZ.mp rd;subst z;obtain ⟨t,z⟩:∃ t,u=Value.str ⟨x.toArray⟩ t:=ru;subst z;exact kia_one PySem.W.kitx_str I.kIn True.intro e (fun z=>nomatch z) fin
 | tup x =>
  obtain ⟨l,vs,z,hq,_⟩:=bL rd;subst z
  have z:u=Value.ref l:=ru;subst z
  obtain ⟨its,_,⟨o,h1,h2,_⟩,_⟩:=I.tuple hq
  exact kia_one PySem.W.kitx_tuple I.kIn ⟨o,h1,h2⟩ e (fun z=>nomatch z) fin
 | lst x =>
  obtain ⟨l,vs,z,hq,_⟩:=bZ.mp rd;subst z
  have z:u=Value.ref l:=ru;subst z
  obtain ⟨its,_,⟨o,n,h1,h2,_⟩,_⟩:=I.list hq
  exact kia_one PySem.W.kitx_list I.kIn ⟨o,h1,h2⟩ e (fun z=>nomatch z) fin
 | dct t ks x =>
  obtain ⟨l,vs,z,hq,_⟩:=vH.mp rd;subst z
  have z:u=Value.ref l:=ru;subst z
  have hd:∃ o,s.heap.get? l=some o/\o.ExactDict:=by
   rcases hq with ⟨_,kvs,hq,_⟩ | ⟨_,kvs,hq,_⟩
   ·obtain ⟨_,_,vs',_,m⟩:kvs.length<=sizeLine/\(l==sysModules)=false/\∃ vs,KV kvs vs/\s.heap.DictOf (eX X.prog X.w) l vs:=I.hok l _ hq
    obtain ⟨o,es,n,h1,h2,_⟩:=m
    exact ⟨o,h1,h2⟩
   ·obtain ⟨_,_,xs,_,o,es,ep,h1,h2,_⟩:=I.hok l _ hq
    exact ⟨o,h1,h2⟩
  obtain ⟨o,h1,h2⟩:=hd
  exact kia_one PySem.W.kitx_dict I.kIn ⟨o,h1,h2.1⟩ e (fun z=>nomatch z) fin
 | ins _ _ _=>exact nomatch hbl
 | exn _ _ _=>exact nomatch hbl
 | fn _=>exact nomatch hbl
theorem xO{T:Str}{S:String}{p:D->Bool}  (hT:IsT S p) (hm:X.mg "isinstance" = none) (hmT:X.mg T=none) (ha:PE X a (tP X.K B f)) (hST:bootBuiltins T=some (.type S):=by first | rfl | exact hT.boot) (hg:Gl X "isinstance" := by rfl) (hgT:Gl X T:=by rfl) (hnT:T ≠ "__name__" := by decide) (hdT:(T==("__debug__" : Str))=false:=by decide)
  (hs:starEach [a,.Name T p1] X.env=(false,eval a X.env) :: starEach [.Name T p1] X.env:=by rfl) (hs2:starEach [.Name T p1] X.env=(false,eval (.Name T p1) X.env) :: starEach [] X.env:=by rfl) :
  PE X (.Call (.Name "isinstance" p0) [a,.Name T p1] [] pos) (tI X.K B (eB p f)):=by
 have hTy:PE X (.Name T p1) (tC (.ty S)):=aZk hgT hmT hST rfl hnT hdT
 refine cM (rA (aYa hT) hg hm boot_isinstance (dH ha (dH hTy iJ hs2) hs) (he:=hs)) ?_
 rintro σ H Q ⟨A,st,d,rs,hd,q⟩
 obtain ⟨x,hx,h2⟩:=R.ok_of hd
 obtain ⟨hbl,h2⟩:=aK h2
 cases h2
 exact ⟨A,st,x,rs,hx,fun v H1 s1 r1=>⟨v,x,rfl,hbl,r1.rep,q _ H1 s1 (bF.mpr rfl)⟩⟩
theorem ty_str:IsT "str" bEo:=⟨rfl,fun K d hb=>by cases d<;>first | (cases hb;done) | kernel_rfl⟩
theorem ty_bool:IsT "bool" bEp:=⟨rfl,fun K d hb=>by cases d<;>first | (cases hb;done) | kernel_rfl⟩
theorem ty_int:IsT "int" isIn:=⟨rfl,fun K d hb=>by cases d<;>first | (cases hb;done) | kernel_rfl⟩
theorem ty_tuple:IsT "tuple" bEq:=⟨rfl,fun K d hb=>by cases d<;>first | (cases hb;done) | kernel_rfl⟩
theorem ty_list:IsT "list" aUo:=⟨rfl,fun K d hb=>by cases d<;>first | (cases hb;done) | kernel_rfl⟩
theorem aJp(z:List Nat):∀ (n:Nat) (acc:List Nat),(List.replicate n z.toArray).foldl (· ++ ·) acc.toArray=(acc++rep n z).toArray
 | 0,acc=>by simp [rep]
 | n+1,acc=>by
  rw [List.replicate_succ,List.foldl_cons]
  have e:acc.toArray++z.toArray=(acc++z).toArray:=by simp
  rw [e,aJp z n (acc++z)]
  unfold rep
  rw [List.replicate_succ,flatten_cons,List.append_assoc]
theorem bBf(z:List Nat)(n:Nat):(rep n z).length=n * z.length:=by
 unfold rep
 induction n with
 | zero=>simp
 | succ n ih=>rw [List.replicate_succ,flatten_cons,length_append,ih,succ_mul,Nat.add_comm]
theorem aYb(n:Nat):rep n ([]:List α)=[]:=by
 unfold rep
 induction n with
 | zero=>rfl
 | succ n ih=>rw [List.replicate_succ,flatten_cons,ih];rfl
def bK1:R2:=fun x y H Q=>∃ (z:List Nat) (k:Int),x = .str ⟨z.toArray⟩/\y = .int k/\z.length * k.toNat<=big /\ -4611686018427387904<=k/\k < 4611686018427387904/\Q (.str ⟨(rep k.toNat z).toArray⟩) H
theorem bBg:OpR X (binaryOp .Mult) bK1:=by
 intro pins s σ H x y v u Q I rx ry h
 obtain ⟨z,k,rfl,rfl,hz,h1,h2,q⟩:=h
 obtain ⟨t,rfl⟩:=rx
 obtain ⟨t',rfl⟩:=ry
 have fin:∀ tk t2,EP X pins σ Q (.str ⟨(rep k.toNat z).toArray⟩ t2) { s with toks:=tk }:=fun tk t2=>⟨.str ⟨(rep k.toNat z).toArray⟩,H,I.tok tk,⟨t2,rfl⟩,q⟩
 refine PySem.P.mul_str ?_ (fun h0 hne=>?_) (fun h0 hne=>?_) ?_
 ·have e1:¬ k < -(2 ^ 63:Int):=by omega
  have e2:¬ k ≥ 2 ^ 63:=by omega
  rw [decide_eq_false e1,decide_eq_false e2];rfl
 ·rw [str_len]
  have hk:0 < k:=by omega
  have hm:(z.length:Int) * k<=10000000:=by
   have:((z.length * k.toNat:Nat):Int)<=10000000:=by rw [jW] at hz;omega
   rw [Int.natCast_mul,toNat_of_nonneg (by omega)] at this
   exact this
  intro hgt
  have:(z.length:Int)<=(2 ^ 63 - 1) / k:=by
   rw [Int.le_ediv_iff_mul_le hk]
   omega
  omega
 ·rw [str_len]
  unfold Builtin.Str.tooLong
  exact decide_eq_false (by have : sizeLine = 16777216 := by decide
                            have hbg:=jW
                            omega)
 ·by_cases h0:k < 1
  ·rw [if_pos h0]
   have e:rep k.toNat z=[]:=by rw [show k.toNat=0 by omega];rfl
   have:=fin (s.toks+1) s.toks
   rw [e] at this
   exact ⟨by decide,this⟩
  ·rw [if_neg h0]
   by_cases h3:(k==1||(⟨z.toArray⟩:Str).length==0)=true
   ·rw [if_pos h3]
    have e:rep k.toNat z=z:=by
     simp only [or_eq_true,beq_iff_eq,str_len] at h3
     rcases h3 with h3 | h3
     ·subst h3
      show rep 1 z=z
      unfold rep
      simp
     ·rw [List.length_eq_zero_iff.mp h3,aYb]
    have:=fin s.toks t
    rw [e] at this
    exact this
   ·rw [if_neg h3]
    have e:(List.replicate k.toNat (⟨z.toArray⟩:Str).cps).foldl (· ++ ·) #[]=(rep k.toNat z).toArray:=by
     have:=aJp z k.toNat []
     rw [nil_append] at this
     exact this
    have:=fin (s.toks+1) s.toks
    rw [e]
    refine ⟨?_,this⟩
    rw [str_len,bBf,Nat.mul_comm]
    exact lim hz
theorem bBh{i j:Int}(c:(-18446744073709551616 < i/\i < 18446744073709551616)\/(-18446744073709551616 < j/\j < 18446744073709551616)):aQs i j:=by
 unfold aQs
 omega
theorem bDg(ha:PE X a (tP X.K B f))(hb:PE X b (tP X.K B g)):PE X (.BinOp a .Mult b pos) (tI X.K B (e2 aR4 f g)):=by
 refine aJc (aW6.or bBg) ?_ ha hb
 intro A H x y d v u Q w rx ry e q
 cases x<;>cases y<;>first | (cases e;done) | skip
 ·obtain ⟨c,e⟩:=aK e
  cases e
  exact .inl ⟨_,_,rx.int,ry.int,bBh c,q _ H (bA.refl _) (aQ.mpr rfl)⟩
 ·obtain ⟨c,e⟩:=aK e
  cases e
  exact .inr ⟨_,_,rx.str,ry.int,c.1,c.2.1,c.2.2,q _ H (bA.refl _) (aZ.mpr rfl)⟩
end
end Pu
namespace Pu
open PySem PySem.Spec PyProof.Rows L2 PySem.SeqAt PySem.StrLaws
theorem aRi(x y:List Nat)(i:Nat):Builtin.Str.subAt ⟨x.toArray⟩ ⟨y.toArray⟩ i=((x.drop i).take y.length==y):=by
 rw [subAt_eq]
 simp [Str.length]
theorem aPr(s sub:Str)(hi:Nat):∀ (l:List Nat) (st:Array Nat × Nat),1<=st.1.size->(forIn l st (occBody s sub hi 1)).run.fst=st.1
 | [],st,h=>rfl
 | a :: l,st,h=>by
  rw [forIn_cons]
  unfold occBody
  rw [if_neg (fun z=>by have:=z.1.1.1;omega)]
  exact aPr s sub hi l (st.1,st.2) h
theorem aPs(s sub:Str)(hi:Nat):∀ (l:List Nat) (free:Nat),(∀ i∈l,free<=i) ->
  (forIn l ((#[]:Array Nat),free) (occBody s sub hi 1)).run.fst.toList=(l.find? fun i=>decide (i+sub.length<=hi)&&Builtin.Str.subAt s sub i).toList
 | [],free,_=>rfl
 | a :: l,free,hf=>by
  rw [forIn_cons]
  have ha:free<=a:=hf a mem_cons_self
  by_cases hc:a+sub.length<=hi/\Builtin.Str.subAt s sub a=true
  ·have e:(decide (a+sub.length<=hi)&&Builtin.Str.subAt s sub a)=true:=by rw [hc.2,decide_eq_true hc.1];rfl
   rw [List.find?_cons_of_pos (p:=fun i=>decide (i+sub.length<=hi)&&Builtin.Str.subAt s sub i) e]
   have e2:occBody s sub hi 1 a ((#[]:Array Nat),free)=pure (ForInStep.yield ((#[]:Array Nat).push a,a+sub.length)):=by
    unfold occBody
    exact if_pos ⟨⟨⟨by simp,ha⟩,hc.1⟩,hc.2⟩
   rw [e2]
   show (forIn l (((#[]:Array Nat).push a),a+sub.length) (occBody s sub hi 1)).run.fst.toList=_
   rw [aPr s sub hi l _ (by simp)]
   rfl
  ·have e:¬ (decide (a+sub.length<=hi)&&Builtin.Str.subAt s sub a)=true:=fun z=>hc (by simpa using z)
   rw [List.find?_cons_of_neg (p:=fun i=>decide (i+sub.length<=hi)&&Builtin.Str.subAt s sub i) e]
   have e2:occBody s sub hi 1 a ((#[]:Array Nat),free)=pure (ForInStep.yield ((#[]:Array Nat),free)):=by
    unfold occBody
    exact if_neg fun h=>hc ⟨h.1.2,h.2⟩
   rw [e2]
   exact aPs s sub hi l free fun i hi'=>hf i (mem_cons_of_mem _ hi')
theorem aCh(x y:List Nat)(lo:Nat):Builtin.Str.occurrences ⟨x.toArray⟩ ⟨y.toArray⟩ lo (⟨x.toArray⟩:Str).length 1=(gF x y lo).toList:=by
 rw [occ_eq,aPs _ _ _ _ _ (fun i hi=>by simp [List.mem_range'] at hi;omega)]
 unfold gF
 simp only [aRi,str_len]
theorem bBi(x y:List Nat):Txt.find ⟨x.toArray⟩ ⟨y.toArray⟩=rR (gF x y 0):=by
 unfold Txt.find
 rw [aCh]
 cases gF x y 0<;>rfl
theorem aYc(x y:List Nat)(i:Int)(h:0<=i):Txt.find3 ⟨x.toArray⟩ ⟨y.toArray⟩ i=rR (gF x y i.toNat):=by
 have e:fromIndex (⟨x.toArray⟩:Str).length i=i.toNat:=by unfold fromIndex;rw [if_neg (by omega)];omega
 unfold Txt.find3
 rw [e,aCh]
 cases gF x y i.toNat<;>rfl
theorem oX{α:Type}(p:α->Bool):∀ x:List α,x.drop (x.takeWhile p).length=x.dropWhile p
 | []=>rfl
 | a :: x=>by
  cases h:p a with
  | true=>rw [List.takeWhile_cons_of_pos h,List.dropWhile_cons_of_pos h,length_cons,List.drop_succ_cons,oX p x]
  | false=>rw [List.takeWhile_cons_of_neg (by simp [h]),List.dropWhile_cons_of_neg (by simp [h])];rfl
theorem aD3(p:α->Bool)(x:List α):(x.takeWhile p).length+(x.dropWhile p).length=x.length:=by
 rw [<-length_append,List.takeWhile_append_dropWhile]
theorem aYd(x y:List Nat):Txt.stripChars ⟨x.toArray⟩ ⟨y.toArray⟩=⟨(tZ x y).toArray⟩:=by
 have hp:(y.toArray.contains:Nat->Bool)=fun c=>y.contains c:=by funext c;simp
 have key:Builtin.Str.strSub ⟨x.toArray⟩ (stripLo y.toArray.contains true ⟨x.toArray⟩) (stripHi y.toArray.contains true ⟨x.toArray⟩ (stripLo y.toArray.contains true ⟨x.toArray⟩))=⟨(tZ x y).toArray⟩:=by
  unfold stripLo stripHi
  rw [hp]
  simp only [if_true]
  rw [oX]
  unfold tZ
  generalize hq:(fun c=>y.contains c)=q
  have l1:=aD3 q x
  have l2:=aD3 q (x.dropWhile q).reverse
  rw [List.length_reverse] at l2
  unfold Builtin.Str.strSub
  simp only [str_len]
  congr 1
  apply ext'
  rw [Array.toList_extract]
  simp only [List.toList_toArray,List.extract_eq_take_drop]
  rw [oX]
  have e3:((x.dropWhile q).reverse.dropWhile q).reverse=(x.dropWhile q).take ((x.dropWhile q).length - ((x.dropWhile q).reverse.takeWhile q).length):=by
   have:(x.dropWhile q).reverse.dropWhile q=(x.dropWhile q).reverse.drop ((x.dropWhile q).reverse.takeWhile q).length:=(oX q _).symm
   rw [this,List.drop_reverse,List.reverse_reverse]
  rw [e3]
  congr 1
  omega
 unfold Txt.stripChars Txt.stripBy
 by_cases h:stripSame y.toArray.contains true true ⟨x.toArray⟩=true
 ·rw [if_pos h]
  unfold stripSame at h
  rw [and_eq_true,beq_iff_eq,beq_iff_eq] at h
  rw [h.2,h.1] at key
  rw [<-key]
  unfold Builtin.Str.strSub
  simp [str_len]
 ·rw [if_neg h]
  exact key
section
variable   {a b o:Expr}  
theorem bBj{id:String}{m:Mop}    {q:V->List V->Hp->VK->Prop} (slot:Slot "str" name id) (hty:typeOf (.builtin id)=pure (.type "method_descriptor")) (hm:MtR X id q)
  (hk:∀ x xs d,m x xs = .ok d->∃ s,x = .str s) (sem:∀ (A:List Addr) (H:Hp) (x d:D) (xs:List D) (v:V) (vs:List V) (Q:VK),Own A H->jV X.K A H x v->bD X.K (hide A H) xs vs->m x xs = .ok d->(∀ w H',bA H H'->Rep X.K (hide A H') d w->Q w H')->q v vs H Q)
  (ho:PE X o (tP X.K B f)) (ha:PA X (e :: es) (tA X.K B r))
  (hbase:attributeBase o name X.env (eval o X.env)=eval o X.env:=by rfl)
  (hfew:((backTo cpos (starEach (e :: es) X.env)).all (fun x => !x.1)&&(backToKw cpos (keywordEach [] X.env)).all (fun x=>x.1.isSome)
   && decide ((e :: es).length+([]:List Keyword).length+(if ([]:List Keyword).isEmpty then 0 else 1) < 30))=true:=by rfl)
  (hline:(apos.endLine==cpos.line)=true:=by rfl) (hs:starEach (e :: es) X.env=(false,eval e X.env) :: starEach es X.env:=by rfl) (hplain:(backTo cpos (starEach es X.env)).any (·.1)=false:=by rfl) :
  PE X (.Call (.Attribute o name apos) (e :: es) [] cpos) (tI X.K B (eMt m f r)):=by
 refine cM (aS5 PySem.F.plainAttrs_str slot hty hm ho ha hbase hfew hline hs hplain) ?_
 rintro σ H Q ⟨A,st,d,rs,hd,k⟩
 obtain ⟨x,hx,h2⟩:=R.ok_of hd
 obtain ⟨xs,hxs,h3⟩:=R.ok_of h2
 obtain ⟨s,rfl⟩:=hk x xs d h3
 refine ⟨A,st,_,rs,hx,fun v H1 s1 r1=>⟨?_,A,st,xs,rs.mono s1,hxs,fun vs H2 s2 r2=>?_⟩⟩
 ·rw [r1.str];rfl
 ·exact sem (A++B) H2 _ d xs v vs Q (rs.own.mono (s1.trans s2)) (r1.mono s2) r2 h3 fun w H' s' r'=>k w H' (s1.trans (s2.trans s')) r'
theorem aM0{K:Frag}    (h:bD K H [d] vs):∃ v,vs=[v]/\Rep K H d v:=by
 obtain ⟨v,r,rfl,h1,h2⟩:=bU.mp h
 rw [dG.mp h2]
 exact ⟨v,rfl,h1⟩
theorem bK2{K:Frag}  {e:D}  (h:bD K H [d,e] vs):∃ v u,vs=[v,u]/\Rep K H d v/\Rep K H e u:=by
 obtain ⟨v,r,rfl,h1,h2⟩:=bU.mp h
 obtain ⟨u,rfl,h3⟩:=aM0 h2
 exact ⟨v,u,rfl,h1,h3⟩
theorem bBk:MtR X "str.find" (fun x vs H Q=>∃ (s:List Nat),x = .str ⟨s.toArray⟩/\((∃ y:List Nat,vs=[.str ⟨y.toArray⟩]/\Q (.int (rR (gF s y 0))) H)\/∃ (y:List Nat) (i:Int),vs=[.str ⟨y.toArray⟩,.int i]/\0<=i/\Q (.int (rR (gF s y i.toNat))) H)):=by
 intro pins s σ H x vs v us Q I rx rv h
 obtain ⟨z,rfl,h⟩:=h
 obtain ⟨t,rfl⟩:=rx
 rcases h with ⟨y,rfl,q⟩ | ⟨y,i,rfl,hi,q⟩
 ·obtain ⟨u,rfl,t2,rfl⟩:=rv.one
  exact SC.find ⟨.int _,H,I.tok _,⟨_,rfl⟩,by rw [bBi];exact q⟩
 ·obtain ⟨u,u2,rfl,⟨t2,rfl⟩,⟨t3,rfl⟩⟩:=rv.two
  exact SC.find3 ⟨.int _,H,I.tok _,⟨_,rfl⟩,by rw [aYc _ _ _ hi];exact q⟩
theorem aYe:MtR X "str.index" (fun x vs H Q=>∃ (s y:List Nat) (i:Nat),x = .str ⟨s.toArray⟩/\vs=[.str ⟨y.toArray⟩]/\gF s y 0=some i/\Q (.int i) H):=by
 intro pins s σ H x vs v us Q I rx rv h
 obtain ⟨z,y,i,rfl,rfl,hi,q⟩:=h
 obtain ⟨t,rfl⟩:=rx
 obtain ⟨u,rfl,t2,rfl⟩:=rv.one
 exact SC.index (i:=i) (rest:=[]) (by rw [aCh,hi];rfl) ⟨.int _,H,I.tok _,⟨_,rfl⟩,q⟩
theorem aYf:MtR X "str.strip" (fun x vs H Q=>∃ (s y:List Nat),x = .str ⟨s.toArray⟩/\vs=[.str ⟨y.toArray⟩]/\s.length<=sizeLine/\Q (.str ⟨(tZ s y).toArray⟩) H):=by
 intro pins s σ H x vs v us Q I rx rv h
 obtain ⟨z,y,rfl,rfl,hz,q⟩:=h
 obtain ⟨t,rfl⟩:=rx
 obtain ⟨u,rfl,t2,rfl⟩:=rv.one
 exact SC.stripChars (fun t' k=>⟨.str ⟨(tZ z y).toArray⟩,H,I.tok _,⟨_,by rw [aYd]⟩,q⟩) (by rw [str_len];exact hz)
end
end Pu
namespace Pu
open PySem PySem.Spec PyProof.Rows L2 PySem.SeqAt
section
variable{X:Cx}{B:List Addr}{a b e o:Expr}{f g:Ex}{pos:Pos}{r:Exs}{es:List Expr}{apos cpos:Pos}
theorem bG8(ho:PE X o (tP X.K B f))(ha:PA X (e :: es) (tA X.K B r))(hbase:attributeBase o "find" X.env (eval o X.env)=eval o X.env:=by rfl)
  (hfew:((backTo cpos (starEach (e :: es) X.env)).all (fun x => !x.1)&&(backToKw cpos (keywordEach [] X.env)).all (fun x=>x.1.isSome)
   && decide ((e :: es).length+([]:List Keyword).length+(if ([]:List Keyword).isEmpty then 0 else 1) < 30))=true:=by rfl)
  (hline:(apos.endLine==cpos.line)=true:=by rfl) (hs:starEach (e :: es) X.env=(false,eval e X.env) :: starEach es X.env:=by rfl) (hplain:(backTo cpos (starEach es X.env)).any (·.1)=false:=by rfl) :
  PE X (.Call (.Attribute o "find" apos) (e :: es) [] cpos) (tI X.K B (eMt aGr f r)):=by
 refine bBj (m:=aGr) PySem.F.slot_str_find PySem.F.type_str_find bBk (fun x xs d h=>?_) (fun A H x d xs v vs Q w rx rxs h k=>?_) ho ha hbase hfew hline hs hplain
 ·cases x<;>first | exact ⟨_,rfl⟩ | exact nomatch h
 ·unfold aGr at h
  split at h
  ·cases h
   obtain ⟨u,rfl,ru⟩:=aM0 rxs
   exact ⟨_,rx.str,.inl ⟨_,by rw [aZ.mp ru],k _ H (bA.refl _) (aQ.mpr rfl)⟩⟩
  ·obtain ⟨c,h⟩:=aK h
   cases h
   obtain ⟨u,u2,rfl,ru,ru2⟩:=bK2 rxs
   exact ⟨_,rx.str,.inr ⟨_,_,by rw [aZ.mp ru,aQ.mp ru2],c,k _ H (bA.refl _) (aQ.mpr rfl)⟩⟩
  ·cases h
theorem bBl(ho:PE X o (tP X.K B f))(ha:PA X (e :: es) (tA X.K B r))(hbase:attributeBase o "index" X.env (eval o X.env)=eval o X.env:=by rfl)
  (hfew:((backTo cpos (starEach (e :: es) X.env)).all (fun x => !x.1)&&(backToKw cpos (keywordEach [] X.env)).all (fun x=>x.1.isSome)
   && decide ((e :: es).length+([]:List Keyword).length+(if ([]:List Keyword).isEmpty then 0 else 1) < 30))=true:=by rfl)
  (hline:(apos.endLine==cpos.line)=true:=by rfl) (hs:starEach (e :: es) X.env=(false,eval e X.env) :: starEach es X.env:=by rfl) (hplain:(backTo cpos (starEach es X.env)).any (·.1)=false:=by rfl) :
  PE X (.Call (.Attribute o "index" apos) (e :: es) [] cpos) (tI X.K B (eMt aIp f r)):=by
 refine bBj (m:=aIp) PySem.F.slot_str_index PySem.F.type_str_index aYe (fun x xs d h=>?_) (fun A H x d xs v vs Q w rx rxs h k=>?_) ho ha hbase hfew hline hs hplain
 ·cases x<;>first | exact ⟨_,rfl⟩ | exact nomatch h
 ·unfold aIp at h
  split at h
  ·obtain ⟨i,hi,h⟩:=R.ok_of h
   cases h
   obtain ⟨u,rfl,ru⟩:=aM0 rxs
   exact ⟨_,_,i,rx.str,by rw [aZ.mp ru],aBi hi,k _ H (bA.refl _) (aQ.mpr rfl)⟩
  ·cases h
theorem bBm(ho:PE X o (tP X.K B f))(ha:PA X (e :: es) (tA X.K B r))(hbase:attributeBase o "strip" X.env (eval o X.env)=eval o X.env:=by rfl)
  (hfew:((backTo cpos (starEach (e :: es) X.env)).all (fun x => !x.1)&&(backToKw cpos (keywordEach [] X.env)).all (fun x=>x.1.isSome)
   && decide ((e :: es).length+([]:List Keyword).length+(if ([]:List Keyword).isEmpty then 0 else 1) < 30))=true:=by rfl)
  (hline:(apos.endLine==cpos.line)=true:=by rfl) (hs:starEach (e :: es) X.env=(false,eval e X.env) :: starEach es X.env:=by rfl) (hplain:(backTo cpos (starEach es X.env)).any (·.1)=false:=by rfl) :
  PE X (.Call (.Attribute o "strip" apos) (e :: es) [] cpos) (tI X.K B (eMt aDk f r)):=by
 refine bBj (m:=aDk) PySem.F.slot_str_strip PySem.F.type_str_strip aYf (fun x xs d h=>?_) (fun A H x d xs v vs Q w rx rxs h k=>?_) ho ha hbase hfew hline hs hplain
 ·cases x<;>first | exact ⟨_,rfl⟩ | exact nomatch h
 ·unfold aDk at h
  split at h
  ·obtain ⟨c,h⟩:=aK h
   cases h
   obtain ⟨u,rfl,ru⟩:=aM0 rxs
   exact ⟨_,_,rx.str,by rw [aZ.mp ru],lim c,k _ H (bA.refl _) (aZ.mpr rfl)⟩
  ·cases h
theorem aYg(hm:X.mg "max" = none)(hc:X.calm=true)(ha:PE X a (tP X.K B f))(hb:PE X b (tP X.K B g))(hg:Gl X "max" := by rfl)(hs:starEach [a,b] X.env=(false,eval a X.env) :: starEach [b] X.env:=by rfl)
  (hs2:starEach [b] X.env=(false,eval b X.env) :: starEach [] X.env:=by rfl) (hpl:(backTo pos (starEach [b] X.env)).any (·.1)=false:=by rfl):PE X (.Call (.Name "max" p0) [a,b] [] pos) (tI X.K B (e2 aL2 f g)):=by
 refine cM (rA (aUa hc) hg hm (by rfl) (dH ha (dH hb iJ hs2) hs) (he:=hs) (hpl:=hpl)) ?_
 rintro σ H Q ⟨A,st,d,rs,hd,q⟩
 obtain ⟨x,hx,h2⟩:=R.ok_of hd
 obtain ⟨y,hy,h3⟩:=R.ok_of h2
 refine ⟨A,st,x,rs,hx,fun v H1 s1 r1=>⟨A,st,y,rs.mono s1,hy,fun u H2 s2 r2=>?_⟩⟩
 unfold aL2 at h3
 split at h3
 case h_2=>cases h3
 cases h3
 exact ⟨_,_,by rw [r1.int,r2.int],q _ H2 (s1.trans s2) (aQ.mpr rfl)⟩
theorem aYh(hm:X.mg "min" = none)(hc:X.calm=true)(ha:PE X a (tP X.K B f))(hb:PE X b (tP X.K B g))(hg:Gl X "min" := by rfl)(hs:starEach [a,b] X.env=(false,eval a X.env) :: starEach [b] X.env:=by rfl)
  (hs2:starEach [b] X.env=(false,eval b X.env) :: starEach [] X.env:=by rfl) (hpl:(backTo pos (starEach [b] X.env)).any (·.1)=false:=by rfl):PE X (.Call (.Name "min" p0) [a,b] [] pos) (tI X.K B (e2 aL3 f g)):=by
 refine cM (rA (aUb hc) hg hm (by rfl) (dH ha (dH hb iJ hs2) hs) (he:=hs) (hpl:=hpl)) ?_
 rintro σ H Q ⟨A,st,d,rs,hd,q⟩
 obtain ⟨x,hx,h2⟩:=R.ok_of hd
 obtain ⟨y,hy,h3⟩:=R.ok_of h2
 refine ⟨A,st,x,rs,hx,fun v H1 s1 r1=>⟨A,st,y,rs.mono s1,hy,fun u H2 s2 r2=>?_⟩⟩
 unfold aL3 at h3
 split at h3
 case h_2=>cases h3
 cases h3
 exact ⟨_,_,by rw [r1.int,r2.int],q _ H2 (s1.trans s2) (aQ.mpr rfl)⟩
theorem aM1(ha:PE X a (tP X.K B f)):PE X (.UnaryOp .USub a pos) (tI X.K B (e1 aG1 f)):=by
 refine cM (bHp bE8 ha) ?_
 rintro σ H Q ⟨A,st,d,rs,hd,q⟩
 obtain ⟨x,hx,h2⟩:=R.ok_of hd
 refine ⟨A,st,x,rs,hx,fun v H1 s1 r1=>?_⟩
 cases x<;>first | (cases h2;done) | skip
 cases h2
 exact ⟨_,r1.int,q _ H1 s1 (aQ.mpr rfl)⟩
def bBn(neg:Bool):R2:=fun x y H Q=>(y = .non/\Q (.bl (if neg then !decide (x = .non) else decide (x = .non))) H)\/∃ c d,x = .bl c/\y = .bl d/\Q (.bl (if neg then !(c==d) else (c==d))) H
theorem bG9:OpR X (compareOp .Is) (bBn false):=by
 intro pins s σ H x y v u Q I rx ry h
 rcases h with h | ⟨c,d,rfl,rfl,q⟩
 ·exact bE9 pins s σ H x y v u Q I rx ry h
 ·cases rx
  cases ry
  exact is_bool ⟨.bl _,H,I,rfl,q⟩
theorem aM2:OpR X (compareOp .IsNot) (bBn true):=by
 intro pins s σ H x y v u Q I rx ry h
 rcases h with h | ⟨c,d,rfl,rfl,q⟩
 ·exact aZs pins s σ H x y v u Q I rx ry h
 ·cases rx
  cases ry
  exact isnot_bool ⟨.bl (!(c==d)),H,I,rfl,q⟩
theorem bGa{K:Frag}:aBg K (bBn false) dIs:=by
 intro A H x y d v u Q w rx ry e q
 cases y<;>first | (cases x<;>(cases e;done)) | skip
 ·cases e
  exact .inl ⟨ry.non,q _ H (bA.refl _) (bF.mpr (by rw [<-aTf rx];rfl))⟩
 ·cases x<;>first | (cases e;done) | skip
  cases e
  exact .inr ⟨_,_,rx.bl,ry.bl,q _ H (bA.refl _) (bF.mpr rfl)⟩
theorem aM3{K:Frag}:aBg K (bBn true) aR6:=by
 intro A H x y d v u Q w rx ry e q
 cases y<;>first | (cases x<;>(cases e;done)) | skip
 ·cases e
  exact .inl ⟨ry.non,q _ H (bA.refl _) (bF.mpr (by rw [<-aTf rx];rfl))⟩
 ·cases x<;>first | (cases e;done) | skip
  cases e
  exact .inr ⟨_,_,rx.bl,ry.bl,q _ H (bA.refl _) (bF.mpr rfl)⟩
open Classical in
noncomputable def aCt(K:Frag)(H:Hp)(x:D)(u:Value):Bool:=if ∃ d z,Rep K H d z/\RelV z u/\plain d=true/\eqD d x=true then true else false
theorem aTl(I:Inv X pins σ H s){x:D}{z:V}  (r:Rep X.K H d z) (rz:RelV z u) (pd:plain d=true):aCt X.K H x u=eqD d x:=by
 unfold aCt
 split
 ·rename_i h
  obtain ⟨d',z',r',rz',pd',e⟩:=h
  have:=RelV.inj rz rz'
  subst this
  rw [Rep.inj I pd pd' r r',e]
 ·rename_i h
  cases hb:eqD d x with
  | false=>rfl
  | true=>exact (h ⟨d,z,r,rz,pd,hb⟩).elim
theorem aJq{pins:List (Addr × Obj)}{σ:LSt}{H:Hp}{s:Shared}(I:Inv X pins σ H s){x:D}:∀ {ds:List D} {zs:List V} {us:List Value},bD X.K H ds zs->Vals zs us->fK ds=true->us.any (aCt X.K H x)=inD x ds
 | [],zs,us,r,v,_=>by
  have e:=dG.mp r;subst e;cases v;rfl
 | d :: ds,zs,us,r,v,p=>by
  obtain ⟨z,r',e,h1,h2⟩:=bU.mp r;subst e
  simp only [nJ,and_eq_true] at p
  cases v with
  | cons v vs =>
   rw [any_cons,aTl I h1 v p.1,aJq I h2 vs p.2]
   unfold inD
   rw [any_cons]
theorem aJr{pins:List (Addr × Obj)}{σ:LSt}{H:Hp}{s:Shared}(I:Inv X pins σ H s){A:Around}{x:D}{zx:V}{ux:Value}(rx:Rep X.K H x zx)(vx:RelV zx ux)(px:plain x=true):∀ {ds:List D} {zs:List V} {us:List Value},bD X.K H ds zs->Vals zs us->fK ds=true->A.units+iC ds < cLine->∀ u∈us,EqAt A s u ux (aCt X.K H x u)
 | [],zs,us,r,v,_,_=>by
  have e:=dG.mp r;subst e;cases v;exact fun u hu=>nomatch hu
 | d :: ds,zs,us,r,v,p,hd=>by
  obtain ⟨z,r',e,h1,h2⟩:=bU.mp r;subst e
  simp only [nJ,and_eq_true] at p
  rw [aL7] at hd
  cases v with
  | cons v vs =>
   intro u hu
   rcases List.mem_cons.mp hu with rfl | hu
   ·rw [aTl I h1 v p.1]
    exact aPq I d x A z zx _ ux h1 rx v vx (by omega) p.1 px
   ·exact aJr I rx vx px h2 vs p.2 (by omega) u hu
def aYi(K:Frag)(neg:Bool):R2:=fun v u H Q=>(∃ a o,u = .ref a/\aCr H a v o/\Q (.bl (if neg then !o.isSome else o.isSome)) H)\/(∃ x ds zs p,u = .ref p/\(SqL K H p zs\/SqT K H p zs)/\Rep K H x v/\bD K H ds zs/\iC ds<=60/\plain x=true/\fK ds=true/\Q (.bl (if neg then !inD x ds else inD x ds)) H) \/
 ∃ i j:List Nat,v = .str ⟨i.toArray⟩/\u = .str ⟨j.toArray⟩/\Q (.bl (if neg then !(gF j i 0).isSome else (gF j i 0).isSome)) H
theorem some_of(x y:List Nat):(!(Builtin.Str.occurrences ⟨x.toArray⟩ ⟨y.toArray⟩ 0 (⟨x.toArray⟩:Str).length 1).isEmpty)=(gF x y 0).isSome:=by
 rw [aCh]
 cases gF x y 0<;>rfl
theorem aYj(hu:X.A.units+64 < cLine):OpR X (compareOp .In) (aYi X.K false):=by
 intro pins s σ H v u a b Q I ra rb h
 rcases h with ⟨p,o,rfl,g,q⟩ | ⟨x,ds,zs,p,rfl,hq,rx,rds,hd,px,pd,q⟩ | ⟨i,j,rfl,rfl,q⟩
 ·cases rb
  exact bLp (by omega) I g ra fun s' I'=>⟨.bl _,H,I',rfl,q⟩
 ·cases rb
  have hin:X.A.in1.units+iC ds < cLine:=by show X.A.units+1+iC ds < cLine;omega
  rcases hq with hq | hq
  ·obtain ⟨its,r,pl,hz⟩:=I.list hq
   refine SeqAt.in_listAt (aCt X.K H x) pl.isList (fun w hw=>aJr I rx ra px rds r pd hin w (by simpa using hw)) ⟨.bl _,H,I,rfl,?_⟩
   rw [show its.toArray.any (aCt X.K H x)=its.any (aCt X.K H x) by simp,aJq I rds r pd]
   exact q
  ·obtain ⟨its,r,pl,hz⟩:=I.tuple hq
   refine SeqAt.in_tupleAt (aCt X.K H x) pl (fun w hw=>aJr I rx ra px rds r pd hin w (by simpa using hw)) ⟨.bl _,H,I,rfl,?_⟩
   rw [show its.toArray.any (aCt X.K H x)=its.any (aCt X.K H x) by simp,aJq I rds r pd]
   exact q
 ·refine aU9 pins s σ H _ _ a b Q I ra rb ⟨_,_,rfl,rfl,?_⟩
  rw [some_of]
  exact q
theorem nQ(hu:X.A.units+64 < cLine):OpR X (compareOp .NotIn) (aYi X.K true):=by
 intro pins s σ H v u a b Q I ra rb h
 rcases h with ⟨p,o,rfl,g,q⟩ | ⟨x,ds,zs,p,rfl,hq,rx,rds,hd,px,pd,q⟩ | ⟨i,j,rfl,rfl,q⟩
 ·cases rb
  exact bA5 (by omega) I g ra fun s' I'=>⟨.bl _,H,I',rfl,q⟩
 ·cases rb
  have hin:X.A.in1.units+iC ds < cLine:=by show X.A.units+1+iC ds < cLine;omega
  rcases hq with hq | hq
  ·obtain ⟨its,r,pl,hz⟩:=I.list hq
   refine SeqAt.notIn_listAt (aCt X.K H x) pl.isList (fun w hw=>aJr I rx ra px rds r pd hin w (by simpa using hw)) ⟨.bl _,H,I,rfl,?_⟩
   rw [show its.toArray.any (aCt X.K H x)=its.any (aCt X.K H x) by simp,aJq I rds r pd]
   exact q
  ·obtain ⟨its,r,pl,hz⟩:=I.tuple hq
   refine SeqAt.notIn_tupleAt (aCt X.K H x) pl (fun w hw=>aJr I rx ra px rds r pd hin w (by simpa using hw)) ⟨.bl _,H,I,rfl,?_⟩
   rw [show its.toArray.any (aCt X.K H x)=its.any (aCt X.K H x) by simp,aJq I rds r pd]
   exact q
 ·refine aMl pins s σ H _ _ a b Q I ra rb ⟨_,_,rfl,rfl,?_⟩
  rw [some_of]
  exact q
theorem aYk{K:Frag}:aBg K (aYi K false) dIn:=by
 intro A H x y d v u Q w rx ry e q
 unfold dIn at e
 split at e
 ·obtain ⟨c,e⟩:=aK e
  cases e
  rename_i t ks ds
  have rxr:Rep K H x v:=rx.rep
  obtain ⟨a,o,e1,g,g1,_⟩:=aI8 ry rxr c
  exact .inl ⟨a,o,e1,g,by rw [g1];exact q _ H (bA.refl _) (bF.mpr rfl)⟩
 ·obtain ⟨c,e⟩:=aK e
  cases e
  obtain ⟨p,zs,h1,h2,h3⟩:=ry.lst
  exact .inr (.inl ⟨_,_,zs,p,h1,.inl h2,rx.rep,h3.mono (bG _ _),c.1,c.2.1,c.2.2,q _ H (bA.refl _) (bF.mpr rfl)⟩)
 ·obtain ⟨c,e⟩:=aK e
  cases e
  obtain ⟨p,zs,h1,h2,h3⟩:=ry.tup
  exact .inr (.inl ⟨_,_,zs,p,h1,.inr h2,rx.rep,h3.mono (bG _ _),c.1,c.2.1,c.2.2,q _ H (bA.refl _) (bF.mpr rfl)⟩)
 ·cases e
  exact .inr (.inr ⟨_,_,rx.str,ry.str,q _ H (bA.refl _) (bF.mpr rfl)⟩)
 ·cases e
theorem qD{K:Frag}:aBg K (aYi K true) rT:=by
 intro A H x y d v u Q w rx ry e q
 unfold rT at e
 split at e
 ·obtain ⟨c,e⟩:=aK e
  cases e
  rename_i t ks ds
  have rxr:Rep K H x v:=rx.rep
  obtain ⟨a,o,e1,g,g1,_⟩:=aI8 ry rxr c
  exact .inl ⟨a,o,e1,g,by rw [g1];exact q _ H (bA.refl _) (bF.mpr rfl)⟩
 ·obtain ⟨c,e⟩:=aK e
  cases e
  obtain ⟨p,zs,h1,h2,h3⟩:=ry.lst
  exact .inr (.inl ⟨_,_,zs,p,h1,.inl h2,rx.rep,h3.mono (bG _ _),c.1,c.2.1,c.2.2,q _ H (bA.refl _) (bF.mpr rfl)⟩)
 ·obtain ⟨c,e⟩:=aK e
  cases e
  obtain ⟨p,zs,h1,h2,h3⟩:=ry.tup
  exact .inr (.inl ⟨_,_,zs,p,h1,.inr h2,rx.rep,h3.mono (bG _ _),c.1,c.2.1,c.2.2,q _ H (bA.refl _) (bF.mpr rfl)⟩)
 ·cases e
  exact .inr (.inr ⟨_,_,rx.str,ry.str,q _ H (bA.refl _) (bF.mpr rfl)⟩)
 ·cases e
end
end Pu
namespace Pu
open PySem PySem.Spec PyProof.Rows L2
section
variable{X:Cx}{B:List Addr}{a b e:Expr}{f g:Ex}{pos:Pos}
theorem aBl(i:Nat){x:Str}  (he:PE X e (tI X.K B f)) (hN:X.N[i]?=some x:=by rfl) (hv:Vis X.env.scope x:=by first | exact Or.inl rfl | exact Or.inr (Or.inl rfl) | exact Or.inr (Or.inr rfl)) (hd:(x==("__debug__" : Str))=false:=by decide)
  (hcd:(x==("__classdict__" : Str))=false:=by decide) (hbase:attributeBase (.Name x p1) "append" X.env (eval (.Name x p1) X.env)=eval (.Name x p1) X.env:=by rfl)
  (hfew:((backTo cpos (starEach [e] X.env)).all (fun x => !x.1)&&(backToKw cpos (keywordEach [] X.env)).all (fun x=>x.1.isSome)
   && decide (([e]:List Expr).length+([]:List Keyword).length+(if ([]:List Keyword).isEmpty then 0 else 1) < 30))=true:=by rfl)
  (hline:(apos.endLine==cpos.line)=true:=by rfl) (hs:starEach [e] X.env=(false,eval e X.env) :: starEach [] X.env:=by rfl)
  (hsw:swapsWith (.Call (.Attribute (.Name x p1) "append" apos) [e] [] cpos) none pos.line X.env=pure false:=by rfl) :
  PS X (.Expr (.Call (.Attribute (.Name x p1) "append" apos) [e] [] cpos) pos) (tS X.K B (aCs i f)):=by
 refine lX (aMi (aS5 PySem.F.plainAttrs_list PySem.F.slot_list_append PySem.F.type_list_append aUi (yD hN hv hd hcd) (dH he iJ hs) hbase hfew hline hs rfl) hsw) ?_
 rintro Dn σ H ⟨A,st,r,rs,hr,p⟩
 obtain ⟨d,hd,h3⟩:=R.ok_of hr
 split at h3
 ·rename_i xs e1
  obtain ⟨c,h4⟩:=aK h3
  cases h4
  obtain ⟨l,o,vs,e2,m,h1,ko,q,u⟩:=rs.lst i _ xs e1
  have eo:o = .lst vs:=ko
  subst eo
  refine ⟨.ref l,e2,.inl ⟨rfl,vs,SqL.of h1⟩,A,st,d,rs,hd,fun v H' s rv=>?_⟩
  have ql:=q.length
  refine ⟨l,vs,v,rfl,rfl,s _ _ h1,by rw [ql];rw [jW] at c;exact Nat.lt_of_lt_of_le c (by decide),?_⟩
  obtain ⟨w1,w2⟩:=(rs.mono s).write e1 e2 (k1 := .l) (ds:=xs++[d]) (vs':=vs++[v]) rfl ((q.mono (bA.hide s)).append (.cons rv .nil))
  exact p A _ _ ((Le.of s).trans w2) w1
 ·cases h3
theorem aNj(i:Nat)   (hN:X.N.Nodup) (hi:X.N[i]?=some x:=by rfl) (hx:Loc X.env.scope x:=by first | exact Or.inl rfl | exact Or.inr rfl) (hs:swapsWith (.Dict [] [] dp) (some (.Name x pos')) pos.line X.env=pure false:=by rfl)
  (hf:X.fn x=true\/X.env.scope.names.lookup x=some .local:=by first | exact .inl rfl | exact .inr rfl | assumption):PS X (.Assign [.Name x pos'] (.Dict [] [] dp) pos) (tS X.K B (aOk i false)):=lX (aFy hN hi hx aWg hs hf) (by
 rintro Dn σ H ⟨A,st,r,rs,hr,p⟩
 cases hr
 exact fun a ha=>p (a :: A) _ _ (aJe ha) (rs.setO (kk := .d false []) i ha (.inl ⟨rfl,[],rfl,rfl,rfl⟩) .nil))
def bK3:V->V->V->Hp->(Hp->Prop)->Prop:=fun o i v H Q=>∃ p H',o = .ref p/\aMr H p i v H'/\Q H'
theorem set_dict(hu:X.A.units+64 < cLine):bHl X bK3:=by
 intro pins s σ H o i v ov iv u Q I ro ri rv h
 obtain ⟨p,H',rfl,g,q⟩:=h
 cases ro
 exact aUn (by omega) I g ri rv fun s' I'=>⟨H',I',q⟩
theorem aGe(hu:X.A.units+64 < cLine)(i:Nat)  {j:Expr}  (hj:PE X j (tI X.K B g)) (he:PE X e (tI X.K B f)) (hN:X.N[i]?=some x:=by rfl) (hv:Vis X.env.scope x:=by first | exact Or.inl rfl | exact Or.inr (Or.inl rfl) | exact Or.inr (Or.inr rfl)) (hd:(x==("__debug__" : Str))=false:=by decide)
  (hcd:(x==("__classdict__" : Str))=false:=by decide)
  (ha:∀ v,assign (.Subscript (.Name x p1) j p2) X.env v=(do
   let ov <- holding [v] (eval (.Name x p1) X.env)
   let iv <- holding [v,ov] (eval j X.env)
   standAt p2
   holding [v,ov,iv] (setItem ov iv v)
   release [v,ov,iv] []):=by intro _;rfl)
  (hs:swapsWithSole [.Subscript (.Name x p1) j p2] e pos.line X.env=pure false:=by rfl) (hw:swappedStores [.Subscript (.Name x p1) j p2] e X.env=pure none:=by rfl)
  (h1:(assignEach [.Subscript (.Name x p1) j p2] X.env).map (·.2)=[assign (.Subscript (.Name x p1) j p2) X.env]:=by rfl) :
  PS X (.Assign [.Subscript (.Name x p1) j p2] e pos) (tS X.K B (sDPut i g f)):=by
 refine lX (bDx he (bDw (yD hN hv hd hcd) hj (set_dict hu) ha) hs hw h1) ?_
 rintro Dn σ H ⟨A,st,r,rs,hr,p⟩
 obtain ⟨d,hd,h3⟩:=R.ok_of hr
 obtain ⟨k,hk,h5⟩:=R.ok_of h3
 split at h5
 ·rename_i t ks ds e1
  obtain ⟨c,h6⟩:=aK h5
  cases h6
  obtain ⟨l,o,vs,e2,m,h1,ko,q,u⟩:=rs.lst i _ _ e1
  refine ⟨A,st,d,rs,hd,fun v H' s rv=>⟨.ref l,e2,A,st,k,rs.mono s,hk,fun w H2 s2 rk=>?_⟩⟩
  have hl:H2 l=some o:=(s.trans s2) _ _ h1
  have q2:=q.mono (bA.hide (s.trans s2))
  have rv2:=rv.mono (bA.hide s2)
  have rk2:Rep X.K H2 k w:=rk.mono (bG _ _)
  have hlen:ds.length < sizeLine:=by have:=c.2;rw [jW] at this;exact Nat.lt_of_lt_of_le this (by decide)
  have ql:=q.length
  rcases ko with ⟨rfl,kvs,rfl,rfl,rfl⟩ | ⟨rfl,kvs,rfl,rfl,rfl⟩
  ·obtain ⟨k',e3,e4⟩:=aDv rk2 c.1
   subst e3 e4
   obtain ⟨z1,z2⟩:=aTg aNc k' v d rv2 kvs ds q2
   refine ⟨l,_,rfl,aMr.k hl (by rw [length_map] at ql;omega),?_⟩
   obtain ⟨w1,w2⟩:=(rs.mono (s.trans s2)).write e1 e2 (k1 := .d false (aEd (kvs.map fun p=>mK p.1) (mK k'))) (.inl ⟨rfl,putK kvs k' v,rfl,z1,rfl⟩) z2
   exact p A _ _ ((Le.of (s.trans s2)).trans w2) w1
  ·obtain ⟨k',b,e3,e4,e5⟩:=aH8 rk2 c.1
   subst e3 e4
   obtain ⟨z1,z2⟩:=aTg (E:=fun l=>D.tup (l.map mK)) aPj k' v d rv2 kvs ds q2
   refine ⟨l,_,rfl,aMr.t hl e5 (by rw [length_map] at ql;omega),?_⟩
   obtain ⟨w1,w2⟩:=(rs.mono (s.trans s2)).write e1 e2 (k1 := .d true (aEd (kvs.map fun p=>D.tup (p.1.map mK)) (.tup (k'.map mK)))) (.inr ⟨rfl,putK kvs k' v,rfl,z1,rfl⟩) z2
   exact p A _ _ ((Le.of (s.trans s2)).trans w2) w1
 ·cases h5
theorem bMf{lo hi:Option Expr}{l u:ExO}  (ha:PE X a (tP X.K B f)) (hl:PO X lo (tO X.K B l)) (hu:PO X hi (tO X.K B u)):PE X (.Subscript a (.Slice lo hi none p2) pos) (tF X.K B (eSl f l u)):=by
 refine cM (aOb aS4 ha hl hu) ?_
 rintro σ H Q ⟨A,st,d,rs,hd,q⟩
 obtain ⟨x,hx,h2⟩:=R.ok_of hd
 obtain ⟨l',hl',h3⟩:=R.ok_of h2
 obtain ⟨u',hu',h4⟩:=R.ok_of h3
 refine ⟨A,st,x,rs,hx,fun v H1 s1 r1=>⟨A,st,l',rs.mono s1,hl',fun H2 s2=>⟨A,st,u',rs.mono (s1.trans s2),hu',fun H3 s3=>?_⟩⟩⟩
 have r3:=r1.mono (s2.trans s3)
 cases x<;>first | (cases h4;done) | skip
 ·obtain ⟨c,h5⟩:=aK h4
  cases h5
 ·cases h4
  obtain ⟨p,vs,e,h6,r6⟩:=r3.lst
  exact ⟨p,vs,e,h6,fun n hn=>q n _ H3 (s1.trans (s2.trans s3)) hn (aPl _ _ r6)⟩
theorem bDh(i:Nat){x:Str}  (he:PE X e (tF X.K B f)) (hN:X.N[i]?=some x:=by rfl) (hv:Vis X.env.scope x:=by first | exact Or.inl rfl | exact Or.inr (Or.inl rfl) | exact Or.inr (Or.inr rfl)) (hd:(x==("__debug__" : Str))=false:=by decide)
  (hcd:(x==("__classdict__" : Str))=false:=by decide) (hbase:attributeBase (.Name x p1) "extend" X.env (eval (.Name x p1) X.env)=eval (.Name x p1) X.env:=by rfl)
  (hfew:((backTo cpos (starEach [e] X.env)).all (fun x => !x.1)&&(backToKw cpos (keywordEach [] X.env)).all (fun x=>x.1.isSome)
   && decide (([e]:List Expr).length+([]:List Keyword).length+(if ([]:List Keyword).isEmpty then 0 else 1) < 30))=true:=by rfl)
  (hline:(apos.endLine==cpos.line)=true:=by rfl) (hs:starEach [e] X.env=(false,eval e X.env) :: starEach [] X.env:=by rfl)
  (hsw:swapsWith (.Call (.Attribute (.Name x p1) "extend" apos) [e] [] cpos) none pos.line X.env=pure false:=by rfl) :
  PS X (.Expr (.Call (.Attribute (.Name x p1) "extend" apos) [e] [] cpos) pos) (tS X.K B (aUp i f)):=by
 refine lX (aMi (aS5 PySem.F.plainAttrs_list PySem.F.slot_list_extend PySem.F.type_list_extend aUj (yD hN hv hd hcd) (dH he iJ hs) hbase hfew hline hs rfl) hsw) ?_
 rintro Dn σ H ⟨A,st,r,rs,hr,p⟩
 obtain ⟨d,hd,h3⟩:=R.ok_of hr
 cases d<;>first | (cases h3;done) | skip
 rename_i ys
 have h3':(match st[i]? with | some (some (.o .l xs))=>aO (xs.length+ys.length<=big) (R.ok (Fl.nx (st.set i (some (.o .l (xs++ys)))))) | _ => .bad) = .ok r:=h3
 split at h3'
 ·rename_i xs e1
  obtain ⟨c,h4⟩:=aK h3'
  cases h4
  obtain ⟨l,o,vs,e2,m,h1,ko,q,u⟩:=rs.lst i _ xs e1
  have eo:o = .lst vs:=ko
  subst eo
  refine ⟨.ref l,e2,.inl ⟨rfl,vs,SqL.of h1⟩,A,st,ys,rs,hd,fun n zs H' s hn rz=>?_⟩
  have ql:=q.length
  have zl:=rz.length
  have hl:H' l=some (.lst vs):=s _ _ h1
  have ne:l≠n:=aX hl hn
  refine ⟨l,n,vs,zs,rfl,rfl,by rw [bM ne];exact hl,bT,by rw [ql,zl];exact lim c,?_⟩
  have s2:=s.trans (cG (o:=HO.lst zs) hn)
  obtain ⟨w1,w2⟩:=(rs.mono s2).write e1 e2 (k1 := .l) (ds:=xs++ys) (vs':=vs++zs) rfl ((q.mono (bA.hide s2)).append (rz.mono (bA.hide (cG hn))))
  exact p A _ _ ((Le.of s2).trans w2) w1
 ·cases h3'
end
end Pu
namespace Pu
open PySem PySem.Spec PyProof.Rows L2
section
open PySem.SeqAt
open PySem.AutoSeq1 (wpAny_loadPart')
open PySem.MeetsSeq PySem.MeetsSeq2 PySem.MeetsSeq3
inductive LexV (A:Around) (s:Shared):List Value->List Value->Bool->Prop where
 | nn:LexV A s [] [] false
 | nc {w:Value} {ws:List Value}:LexV A s [] (w :: ws) true
 | cn {v:Value} {vs:List Value}:LexV A s (v :: vs) [] false
 | eq {v w:Value} {vs ws:List Value} {b:Bool}:EqAt A s v w true->LexV A s vs ws b->LexV A s (v :: vs) (w :: ws) b
 | lt {v w:Value} {vs ws:List Value} {b:Bool}:EqAt A s v w false->(∀ (prog:Program) (wd:World) (E Q:Value->Shared->Prop),Q (.bool b) s->wpAny (model prog wd) A (richCompare .Lt v w) Q E s)->LexV A s (v :: vs) (w :: ws) b
end
section
end
end Pu
namespace Pu
open PySem PySem.Spec PyProof.Rows L2
structure ClsAt(K:Frag)(c:String)(C:Addr):Prop where
 ns:nsIn K mainGlobals (Str.ofString c)=some (some (.ref C))
 cl:Cls K C
theorem yX{a b:String}(h:Str.ofString a=Str.ofString b):a=b:=by
 have h1:(Str.ofString a).cps=(Str.ofString b).cps:=by rw [h]
 rw [Str.ofString_eq_toList,Str.ofString_eq_toList] at h1
 have h2:a.toList.map Char.toNat=b.toList.map Char.toNat:=by
  have:=congrArg Array.toList h1
  simpa using this
 have inj:∀ (x y:List Char),x.map Char.toNat=y.map Char.toNat->x=y:=by
  intro x
  induction x with
  | nil=>intro y h;cases y with | nil=>rfl | cons _ _=>simp at h
  | cons a x ih =>
   intro y h
   cases y with
   | nil=>simp at h
   | cons b y =>
    rw [map_cons,map_cons] at h
    injection h with h3 h4
    rw [ih y h4]
    congr 1
    exact Char.ext (UInt32.toNat_inj.mp h3)
 exact String.toList_inj.mp (inj _ _ h2)
section
variable{K:Frag} 
theorem aJs{f:String}:∀ {ns:List String} {ds:List D} {fs:List (Str × V)} {d:D},fs.map (·.1)=ns.map Str.ofString->bD K H ds (fs.map (·.2))->(ns.zip ds).lookup f=some d->∃ v,fs.lookup (Str.ofString f)=some v/\Rep K H d v
 | [],ds,fs,d,_,_,h=>by simp at h
 | n :: ns,[],fs,d,_,_,h=>by simp at h
 | n :: ns,d0 :: ds,[],d,e,_,h=>by simp at e
 | n :: ns,d0 :: ds,(g,w) :: fs,d,e,r,h=>by
  rw [map_cons,map_cons] at e
  injection e with e1 e2
  obtain ⟨v,r',e3,h1,h2⟩:=bU.mp r
  rw [map_cons] at e3
  injection e3 with e4 e5
  subst e4 e5
  have e1':g=Str.ofString n:=e1
  subst e1'
  rw [zip_cons_cons,lookup_cons] at h
  rw [lookup_cons]
  by_cases hf:f=n
  ·subst hf
   simp only [beq_self_eq_true] at h ⊢
   cases h
   exact ⟨_,rfl,h1⟩
  ·have hb:(f==n)=false:=beq_eq_false_iff_ne.mpr hf
   have hb2:(Str.ofString f==Str.ofString n)=false:=beq_eq_false_iff_ne.mpr fun z=>hf (yX z)
   rw [hb] at h
   rw [hb2]
   exact aJs e2 h2 h
theorem lookup_none{f:String}:∀ {ns:List String} {fs:List (Str × V)},fs.map (·.1)=ns.map Str.ofString->f ∉ ns->fs.lookup (Str.ofString f)=none
 | [],fs,e,_=>by cases fs with | nil=>rfl | cons _ _=>simp at e
 | n :: ns,[],e,_=>rfl
 | n :: ns,(g,w) :: fs,e,h=>by
  rw [map_cons,map_cons] at e
  injection e with e1 e2
  have e1':g=Str.ofString n:=e1
  subst e1'
  rw [lookup_cons]
  have hb2:(Str.ofString f==Str.ofString n)=false:=beq_eq_false_iff_ne.mpr fun z=>h (by rw [yX z];exact mem_cons_self)
  rw [hb2]
  exact lookup_none e2 fun z=>h (mem_cons_of_mem _ z)
theorem aPt{f:String}{v:V}:∀ {ns:List String} {fs:List (Str × V)},fs.map (·.1)=ns.map Str.ofString->f ∉ ns->aAj (Str.ofString f) v fs=fs++[(Str.ofString f,v)]
 | [],fs,e,_=>by cases fs with | nil=>rfl | cons _ _=>simp at e
 | n :: ns,[],e,_=>by simp at e
 | n :: ns,(g,w) :: fs,e,h=>by
  rw [map_cons,map_cons] at e
  injection e with e1 e2
  have e1':g=Str.ofString n:=e1
  subst e1'
  unfold aAj
  rw [if_neg (fun z=>h (by rw [yX z];exact mem_cons_self)),aPt e2 fun z=>h (mem_cons_of_mem _ z)]
  rfl
end
section
variable{X:Cx}{B:List Addr}{a b e o:Expr}{f g:Ex}{pos:Pos}
theorem jV.ins{K:Frag}{A:List Addr}{H:Hp}{c:String}{ns:List String}{ds:List D}{v:V}(h:jV K A H (.ins c ns ds) v):∃ p C dx fs,v = .ref p/\H p=some (.ins C dx fs)/\nsIn K mainGlobals (Str.ofString c)=some (some (.ref C))/\fs.map (·.1)=ns.map Str.ofString/\bD K (hide A H) ds (fs.map (·.2)):=by
 rcases h with h | ⟨p,kk,o,ds',vs,e,e2,h,ko,r⟩
 ·obtain ⟨p,C,dx,fs,vs,e,q1,q2,q3,q4,r⟩:=aI7.mp h
  subst q4
  exact ⟨p,C,dx,fs,e,bG _ _ _ _ q1,q2,q3,r⟩
 ·cases kk<;>cases e
  obtain ⟨_,C,dx,fs,rfl,q2,q3,rfl⟩:=ko
  exact ⟨p,C,dx,fs,e2,h,q2,q3,r⟩
theorem pI{f':String}  (hc:ClsAt X.K c C) (hn:lV X.K C (Str.ofString f')) (ho:PE X o (tP X.K B f)) (hb:attributeBase o (Str.ofString f') X.env (eval o X.env)=eval o X.env:=by rfl) :
  PE X (.Attribute o (Str.ofString f') pos) (tI X.K B (e1 (nD c f') f)):=by
 refine cM (bEa ho hb) ?_
 rintro σ H Q ⟨A,st,d,rs,hd,q⟩
 obtain ⟨x,hx,h2⟩:=R.ok_of hd
 refine ⟨A,st,x,rs,hx,fun v H1 s1 r1=>?_⟩
 cases x<;>first | (cases h2;done) | skip
 obtain ⟨e1,h3⟩:=aK h2
 subst e1
 obtain ⟨p,C',dx,fs,e2,h4,h5,h6,h7⟩:=r1.ins
 have:C'=C:=by have z:=h5.symm.trans hc.ns;injection z with z;injection z with z;injection z
 subst this
 obtain ⟨w,h8,h9⟩:=aJs h6 h7 (aBi h3)
 exact ⟨p,C',dx,fs,w,e2,h4,hc.cl,hn,h8,q w H1 s1 h9⟩
structure MethOk(P:Program)(w:World)(K:Frag)(mg:Str->Option Value)(base:Heap)(c m:String)(k np:Nat)(dv:List D)(p:List D->R D):Prop where
 ex:∃ (C fa:Addr) (fd:FuncData) (ps:List Str) (dvs:List V) (ds:List Value),ClsAt K c C/\Meth K C (Str.ofString m) fa/\FnOk P w K mg base CX0 k fa fd ps (spI K np p)/\Binds K fd ps ds/\Vals dvs ds/\∀ H,bD K H dv dvs
 len:∀ ds d,p ds = .ok d->ds.length=np
theorem lC{k:Nat}       (h:MethOk X.prog X.w X.K X.mg X.base c m k np dv p) (hr:Room j X.A) (hk:k<=j) (ho:PE X o (tI X.K B f)) (ha:PA X (e :: es) (tA X.K B r))
  (hst:starEach (e :: es) X.env=(false,eval e X.env) :: starEach es X.env:=by rfl) (hpl:(backTo pos (starEach es X.env)).any (·.1)=false:=by rfl)
  (ht:eval (.Call (.Attribute o (Str.ofString m) apos) (e :: es) [] pos) X.env=(do
   let ov <- eval o X.env
   standAt apos.atName
   let (f,first) <- holding [ov] (getMethod ov (Str.ofString m) pl)
   callWith pos f first (backTo pos (starEach (e :: es) X.env)) (backToKw pos (keywordEach [] X.env))):=by rfl) :
  PE X (.Call (.Attribute o (Str.ofString m) apos) (e :: es) [] pos) (tI X.K B (fM c m p dv f r)):=by
 obtain ⟨C,fa,fd,ps,dvs,ds,hc,hm,F,bd,vd,rd⟩:=h.ex
 refine cM (aS2 (pl:=pl) ho hc.cl hm F (hr.mono hk) bd vd aEa ha hst hpl ht) ?_
 rintro σ H Q ⟨A,st,d,rs,hd,q⟩
 obtain ⟨x,hx,h2⟩:=R.ok_of hd
 obtain ⟨xs,hxs,h3⟩:=R.ok_of h2
 refine ⟨A,st,x,rs,hx,fun v H1 s1 r1=>?_⟩
 cases x<;>first | (cases h3;done) | skip
 obtain ⟨⟨e1,hn⟩,h4⟩:=aK h3
 subst e1
 obtain ⟨p',C',dx,fs,e2,h5,h6,h7,h8⟩:=jV.ins (.inl r1)
 have:C'=C:=by have z:=h6.symm.trans hc.ns;injection z with z;injection z with z;injection z
 subst this
 refine ⟨p',dx,fs,e2,h5,lookup_none h7 hn,A,st,xs,rs.mono s1,hxs,fun vs H2 s2 r2=>?_⟩
 exact ⟨A++B,_,d,rs.own.mono (s1.trans s2),.cons (r1.mono (bA.hide s2)) (r2.append (rd _)),h.len _ _ h4,h4,fun w H' s' r'=>q w H' (s1.trans (s2.trans s')) r'⟩
theorem aFf{k:Nat}     (h:MethOk X.prog X.w X.K X.mg X.base c m k np dv p) (hr:Room j X.A) (hk:k<=j) (ho:PE X o (tI X.K B f))
  (ht:eval (.Call (.Attribute o (Str.ofString m) apos) [] [] pos) X.env=(do
   let ov <- eval o X.env
   standAt apos.atName
   let (f,first) <- holding [ov] (getMethod ov (Str.ofString m) pl)
   callWith pos f first (backTo pos (starEach [] X.env)) (backToKw pos (keywordEach [] X.env))):=by rfl) :
  PE X (.Call (.Attribute o (Str.ofString m) apos) [] [] pos) (tI X.K B (fM c m p dv f aN)):=by
 obtain ⟨C,fa,fd,ps,dvs,ds,hc,hm,F,bd,vd,rd⟩:=h.ex
 refine cM (aWb (pl:=pl) ho hc.cl hm F (hr.mono hk) bd vd aEa ht) ?_
 rintro σ H Q ⟨A,st,d,rs,hd,q⟩
 obtain ⟨x,hx,h2⟩:=R.ok_of hd
 obtain ⟨xs,hxs,h3⟩:=R.ok_of h2
 cases hxs
 refine ⟨A,st,x,rs,hx,fun v H1 s1 r1=>?_⟩
 cases x<;>first | (cases h3;done) | skip
 obtain ⟨⟨e1,hn⟩,h4⟩:=aK h3
 subst e1
 obtain ⟨p',C',dx,fs,e2,h5,h6,h7,h8⟩:=jV.ins (.inl r1)
 have:C'=C:=by have z:=h6.symm.trans hc.ns;injection z with z;injection z with z;injection z
 subst this
 refine ⟨p',dx,fs,e2,h5,lookup_none h7 hn,?_⟩
 show spI X.K np p (v :: ([]++dvs)) H1 Q E0
 rw [nil_append] at h4 ⊢
 exact ⟨A++B,_,d,rs.own.mono s1,.cons r1 (rd _),h.len _ _ h4,h4,fun w H' s' r'=>q w H' (s1.trans s') r'⟩
def spM(K:Frag)(c:String)(np:Nat)(p:List D->R D):Sp:=fun vs H Q _=>∃ x ws A C dx ds d,vs = .ref x :: ws/\H x=some (.ins C dx [])/\nsIn K mainGlobals (Str.ofString c)=some (some (.ref C))/\Own A H/\x ∉ A/\bD K (hide (x :: A) H) ds ws/\ds.length=np/\p ds = .ok d /\
 ∀ H',bA (hide [x] H) H'->Rep K (hide A H') d (.ref x)->Q .non H'
structure MakeOk(P:Program)(w:World)(K:Frag)(mg:Str->Option Value)(base:Heap)(c:String)(k np:Nat)(p:List D->R D):Prop where
 ex:∃ (C fa:Addr) (fd:FuncData) (ps:List Str),ClsAt K c C/\Mk K C fa/\FnOk P w K mg base CX0 k fa fd ps (spM K c np p)/\Binds K fd ps []/\mg (Str.ofString c)=some (.ref C)
 len:∀ ds d,p ds = .ok d->ds.length=np
theorem bGb{k:Nat}     (h:MakeOk X.prog X.w X.K X.mg X.base c k np p) (hr:Room j X.A) (hk:k+1<=j) (ha:PA X (e :: es) (tA X.K B r)) (hg:Gl X (Str.ofString c):=by rfl) (hdb:(Str.ofString c==("__debug__" : Str))=false:=by decide)
  (he:starEach (e :: es) X.env=(false,eval e X.env) :: starEach es X.env:=by rfl) (hpl:(backTo pos (starEach es X.env)).any (·.1)=false:=by rfl):PE X (.Call (.Name (Str.ofString c) p0) (e :: es) [] pos) (tI X.K B (aP p r)):=by
 obtain ⟨C,fa,fd,ps,hc,M,F,bd,hm⟩:=h.ex
 refine cM (aZx M F (hr.mono hk) hg hm bd .nil aEa ha hdb he hpl) ?_
 rintro σ H Q ⟨A,st,d,rs,hd,q⟩
 obtain ⟨xs,hx,h2⟩:=R.ok_of hd
 refine ⟨A,st,xs,rs,hx,fun vs H1 s1 r1 x dx hx0 hdx hne=>?_⟩
 have w1:=rs.own.mono s1
 have hxA:x ∉ A++B:=w1.free hx0
 have e0:∀ b u,H1 b=some u->upd (upd H1 dx (.own x)) x (.ins C dx []) b=some u:=fun b u z=>by
  rw [bM (aX z hx0),bM (aX z hdx)];exact z
 refine ⟨x,vs++[],A++B,C,dx,xs,d,rfl,bT,hc.ns,fun b hb=>?_,hxA,?_,h.len _ _ h2,h2,fun H' sm rd=>⟨rfl,q _ H' (fun b u z=>?_) rd⟩⟩
 ·obtain ⟨u,z⟩:=Option.isSome_iff_exists.mp (w1 b hb)
  rw [e0 b u z];rfl
 ·rw [append_nil]
  refine r1.mono fun b u z=>?_
  have z1:=bG _ _ _ _ z
  have hb:b ∉ A++B:=fun y=>by rw [eY y] at z;cases z
  rw [bY (fun y=>(List.mem_cons.mp y).elim (aX z1 hx0) hb)]
  exact e0 b u z1
 ·have z1:=s1 _ _ z
  exact sm b u (by rw [bY (by simpa using aX z1 hx0)];exact e0 b u z1)
theorem aV9{K:Frag}     {ws:List V} {x dx:Addr}  (w:Own A H) (hxA:x ∉ A) (hx:H x=some (.ins C dx [])) (hns:nsIn K mainGlobals (Str.ofString c)=some (some (.ref C))) (r:bD K (hide (x :: A) H) ds ws) :
  RS K A [x] H (some (Sl.o (.i x c []) []) :: (ds.map (fun d=>some (Sl.v d))++List.replicate (N.length - ds.length - 1) none)) (L2.start N (.ref x :: ws)):=by
 have hl:=r.length
 have sh:L2.start N (.ref x :: ws)=some (.ref x) :: (ws.map some++List.replicate (N.length - ds.length - 1) none):=by
  unfold L2.start
  rw [map_cons,List.cons_append,length_cons,hl]
  congr 2
 rw [sh]
 have nov:∀ (i:Nat) (s:Sl),(ds.map (fun d=>some (Sl.v d))++List.replicate (N.length - ds.length - 1) none)[i]?=some (some s)->∃ d,ds[i]?=some d/\s = .v d:=fun i s e=>by
  by_cases hi:i < ds.length
  ·rw [List.getElem?_append_left (by simpa using hi),List.getElem?_map,List.getElem?_eq_getElem hi] at e
   simp at e
   exact ⟨ds[i],List.getElem?_eq_getElem hi,e.symm⟩
  ·rw [List.getElem?_append_right (by simpa using hi),List.getElem?_replicate] at e
   split at e<;>simp at e
 refine ⟨by simp [hl],fun b hb=>?_,fun b hb=>by rw [List.mem_singleton.mp hb];exact hxA,fun i d e=>?_,fun i k xs e=>?_⟩
 ·rcases List.mem_append.mp hb with hb | hb
  ·rw [List.mem_singleton.mp hb,hx];rfl
  ·exact w b hb
 ·cases i with
  | zero=>simp at e
  | succ i =>
   rw [getElem?_cons_succ] at e
   obtain ⟨d',e1,e2⟩:=nov i _ e
   cases e2
   obtain ⟨v,hv,rv⟩:=r.get e1
   refine ⟨v,?_,rv⟩
   have hi:i < ws.length:=(List.getElem?_eq_some_iff.mp hv).1
   rw [getElem?_cons_succ,List.getElem?_append_left (by simpa using hi),List.getElem?_map,hv]
   rfl
 ·cases i with
  | zero =>
   simp at e
   obtain ⟨rfl,rfl⟩:=e
   refine ⟨x,_,[],rfl,List.mem_singleton.mpr rfl,hx,⟨rfl,C,dx,[],rfl,hns,rfl,rfl⟩,.nil,fun j k' ys ej _=>?_⟩
   cases j with
   | zero=>rfl
   | succ j =>
    rw [getElem?_cons_succ] at ej
    obtain ⟨_,_,e2⟩:=nov j _ ej
    cases e2
  | succ i =>
   rw [getElem?_cons_succ] at e
   obtain ⟨_,_,e2⟩:=nov i _ e
   cases e2
theorem bBo{K:Frag}    {st:Stmt} {f:Addr}   {k:Nat} (F:Fun K x qual st f fd) (S:FnScope N ps (aF st)) (c:String) (np n:Nat) (bd:Bd) (hnp:ps.length=np+1) (hn:N.length=n)
  (hb:∀ (cdv:Value) (A:Around) (outer:List Env) (s:Shared) (H:Hp) (E:XK) (B:List Addr),Room k (A.deeper (envOfC qual (aF st) s.heap.objs.size f cdv)) ->
   PSs (aIk CX0 P w K mg base N qual (aF st) f cdv A outer s H E).nox (cA st) (tS K B bd)):FnOk P w K mg base CX0 (k+1) f fd ps (spM K c np (aMt c np n bd)):=by
 refine F.ok S (fun vs H Q E h=>?_) (fun cdv A outer s H vs Q E hr h=>?_)
 ·obtain ⟨y,ws,A,C,dx,ds,d,rfl,_,_,_,_,r,hl,_⟩:=h
  rw [length_cons,r.length,hl,hnp]
 ·obtain ⟨y,ws,A',C,dx,ds,d,rfl,hy,hns,own,hyA,r,hl,hp,q⟩:=h
  refine ⟨tS K A' bd,hb cdv A outer s H E A' hr,?_⟩
  obtain ⟨_,h2⟩:=aK (aS8 hp y)
  obtain ⟨fl,hfl,h3⟩:=R.ok_of h2
  have rs:=aV9 (N:=N) (c:=c) own hyA hy hns r
  rw [hl,hn] at rs
  refine ⟨[y],_,fl,rs,hfl,?_⟩
  cases fl with
  | nx s1 =>
   intro A1 σ1 H1 l rs1
   have h3':(match (s1[0]?:Option (Option Sl)) with | some (some (.o (.i y' c' ns) xs))=>aO (y'=y) (R.ok (D.ins c' ns xs)) | _ => .bad) = .ok d:=h3
   split at h3'
   ·rename_i y' c' ns xs e1
    obtain ⟨rfl,h4⟩:=aK h3'
    cases h4
    obtain ⟨a,o,vs,e2,m,h5,ko,r5,_⟩:=rs1.lst 0 _ _ e1
    have ea:a=y':=ko.1
    subst ea
    refine q H1 (bA.trans (show bA (hide [a] H) (hide A1 H1) from l) (bG _ _)) ?_
    have:=ko.rep (H:=hide A' H1) (ds:=xs) (by rw [bY (rs1.dis a m)];exact h5) (r5.mono (lJ fun b hb=>List.mem_append_right _ hb))
    exact this
   ·cases h3'
  | rt d'=>cases h3
  | bk s1=>cases h3
  | ct s1=>cases h3
theorem aYl(ds:List D)(d:D)(h:aMt c np n bd ds = .ok d):ds.length=np:=(aK (aS8 h 0)).1
theorem aNk(i:Nat)  {f':String}   {value:Expr} (hc:ClsAt X.K c C) (hn:lV X.K C (Str.ofString f')) (he:PE X value (tI X.K B f)) (hN:X.N[i]?=some x:=by rfl) (hv:Vis X.env.scope x:=by first | exact Or.inl rfl | exact Or.inr (Or.inl rfl) | exact Or.inr (Or.inr rfl)) (hd:(x==("__debug__" : Str))=false:=by decide)
  (hcd:(x==("__classdict__" : Str))=false:=by decide) (hs:swapsWith value (some (.Attribute (.Name x p1) (Str.ofString f') p2)) pos.line X.env=pure false:=by rfl) :
  PS X (.Assign [.Attribute (.Name x p1) (Str.ofString f') p2] value pos) (tS X.K B (aL4 i c f' f)):=by
 refine lX (bEb (yD hN hv hd hcd) he hs) ?_
 rintro Dn σ H ⟨A,st,r,rs,hr,p⟩
 obtain ⟨d,hd,h3⟩:=R.ok_of hr
 split at h3
 ·rename_i n c' ns xs e1
  obtain ⟨⟨ec,hf,hlen⟩,h4⟩:=aK h3
  subst ec
  cases h4
  obtain ⟨l,o,vs,e2,m,h1,ko,q,u⟩:=rs.lst i _ _ e1
  obtain ⟨el,C',dx,fs,rfl,k1,k2,rfl⟩:=ko
  have:C'=C:=by have z:=k1.symm.trans hc.ns;injection z with z;injection z with z;injection z
  subst this
  refine ⟨A,st,d,rs,hd,fun y H1 s1 r1=>⟨.ref l,e2,l,C',dx,fs,rfl,s1 _ _ h1,hc.cl,hn,?_,?_⟩⟩
  ·have:=congrArg List.length k2
   rw [length_map,length_map] at this
   omega
  ·rw [aPt k2 hf]
   obtain ⟨w1,w2⟩:=(rs.mono s1).write e1 e2 (k1 := .i n c' (ns++[f'])) (o' := .ins C' dx (fs++[(Str.ofString f',y)])) (ds:=xs++[d]) (vs':=fs.map (·.2)++[y]) ⟨el,C',dx,_,rfl,k1,by rw [List.map_append,List.map_append,k2];rfl,by rw [List.map_append];rfl⟩ ((q.mono (bA.hide s1)).append (.cons r1 .nil))
   exact p A _ _ ((Le.of s1).trans w2) w1
 ·cases h3
theorem oY:PS X sm (tS X.K B rW):=fun _ _ _ _ _ _ ⟨_,_,_,_,h,_⟩=>nomatch h
end
end Pu
namespace Pu
open PySem PySem.Spec PyProof.Rows L2
section
variable    {iter c:Expr}  {t:Tg}  {u:Ex}
theorem aM4{H3 H5:Hp}{s3 s5:Shared}{fp:List Addr}{p:Addr}{m5:Str->Option Value}     (hN:X.N.Nodup) (hi:X.N[i]?=some x) (hx:Loc X.env.scope x)
  (hf:X.fn x=true\/X.env.scope.names.lookup x=some .local) (hC:s3.heap.objs.size<=C) (I3:Inv X pins σ H3 s3) (hfp:∀ b∈fp,aE9 X pins H3 b) (I5:Inv (cW X scope C s3 H3 fp) [] τ H5 s5) (hn5:s5.heap.Ns C m5)
  (hQ:∀ s',Inv X pins (σ.set i (some (.ref p))) H5 s'->Qf .none s'):compPost (model X.prog X.w) X.A X.xe (some (assign (.Name x px) X.env)) Qf (.ref p) C (.ok .next) s5:=by
 have I5':Inv X pins σ H5 { s5 with heap:=s5.heap }:=aI9 I3 hfp hC I5 (.refl ..)
 have lt:∀ b o,s3.heap.get? b=some o->C≠b:=fun b o e z=>Nat.lt_irrefl _ (Nat.lt_of_lt_of_le (Heap.lt_size (z ▸ e)) hC)
 have hL:C≠X.env.locals:=fun z=>Nat.lt_irrefl _ (Nat.lt_of_lt_of_le (z ▸ I3.lt) hC)
 have hc:∀ y c,X.env.cells.lookup y=some c->c≠C:=fun y c e=>by
  obtain ⟨v,o,ho,_⟩:=I3.cell y c e
  exact (lt c o ho).symm
 have hp:∀ q∈X.pn++pins,q.1≠C:=fun q hq=>(lt q.1 q.2 (I3.pin q hq).1).symm
 show wpAny _ X.A (assign (.Name x px) X.env (.ref p)) _ _ _
 refine wpAny_assign_Name (aKv (v := .ref p) I5' hN hi hx rfl (fun s6 I6 ⟨a,hs,ha⟩=>?_) hf)
 have hCa:C≠a:=by
  rcases ha with z | z
  ·rw [z];exact hL
  ·exact (hc x a z).symm
 refine ⟨m5,hn5.sameBut hs hCa,fun h' hs'=>hQ _ ?_⟩
 exact I6.turned (t':=s6.toks) (fun b o hb e=>(hs'.2 b hb).trans e) (show H5 C=none from I5.free) hL (.inr (Nat.le_trans I3.sz hC)) hc hp
theorem bGc(i:Nat){x:Str}{spos:Pos}(is:List Nat)(hsub:aJn is t)(S:CScope X scope is)(hi:L2.PI X tg iter (tIt X.K B it))(hg:∀ (B:List Addr) (C:Addr) (s₀:Shared) (H₀:Hp) (fp:List Addr),PG (cW X scope C s₀ H₀ fp) tg (tG X.K B t))
  (he:∀ (B:List Addr) (C:Addr) (s₀:Shared) (H₀:Hp) (fp:List Addr),PE (cW X scope C s₀ H₀ fp) elt (tI X.K B f)) (hc:X.calm=true) (hN:X.N.Nodup) (hi':X.N[i]?=some x:=by rfl) (hx:Loc X.env.scope x:=by first | exact Or.inl rfl | exact Or.inr rfl)
  (hsw:swapsWith (.ListComp elt [⟨tg,iter,[],0⟩] scope pos) (some (.Name x px)) spos.line X.env=pure true:=by rfl)
  (hf:X.fn x=true\/X.env.scope.names.lookup x=some .local:=by first | exact .inl rfl | exact .inr rfl | assumption) (hs:∀ x,foldedSetIterable iter X.env x=pure x:=by intro _;rfl) :
  PS X (.Assign [.Name x px] (.ListComp elt [⟨tg,iter,[],0⟩] scope pos) spos) (tS X.K B (cO i (dX is t it gW f))):=by
 intro pins s σ H Dn I h
 obtain ⟨A,st,r,rs,hr,q⟩:=h
 obtain ⟨d,hd,h3⟩:=R.ok_of hr
 cases h3
 obtain ⟨xs,hx',h2⟩:=R.ok_of hd
 obtain ⟨hl,h3⟩:=aK h2
 obtain ⟨ys,hy,h4⟩:=R.ok_of h3
 cases h4
 rw [exec_Assign_Name_used _ _ _ _ hsw]
 refine wpAny_bind (wpAny_standAt (wpAny_bind ?_))
 show wpAny _ X.A (do let _ <- comprehension (.ListComp elt [⟨tg,iter,[],0⟩] scope pos) scope X.env _ (newList []) false (eval iter X.env) (some (assign (.Name x px) X.env))) _ _ s
 refine wpAny_bind (wpAny_mono (Q:=fun _ s'=>SP X pins Dn .next s') ?_ (fun _ s' hq=>wpAny_pure (wpAny_pure hq)) fun _ _ e=>e)
 refine xM (use:=some (assign (.Name x px) X.env)) (Qf:=fun _ s'=>SP X pins Dn .next s') (Q:=fun v H'=>Dn.nx (σ.set i (some v)) H') (tt:=aNh) (te:=tIx X.K f) (rest:=fun env it p=>eval elt env >>= fun x=>call (.builtin "list.append") [p,x] >>= fun _=>again (.compLoop (.ListComp elt [⟨tg,iter,[],0⟩] scope pos) 0 it p env)) S hc hi (fun C s₀ H₀ fp=>aY6 fun B=>hg B C s₀ H₀ fp) (fun _ _ _=>uP)
  (fun C s₀ H₀ fp it p s Q h=>bJz (Y:=cW X scope C s₀ H₀ fp) h) (fun C s₀ H₀ fp it p τ H s pins vs N Q I h q=>bDe (Y:=cW X scope C s₀ H₀ fp) rfl (aY5 fun B=>he B C s₀ H₀ fp) τ H s pins vs N Q I h (fun Q Q' m h=>aBk Q Q' m h) q) hs I
  (aPp hsub (fun τ H Q ⟨B,A,st,k,rs,hk,q⟩=>?_) rs hx' hl hy fun p vs H1 H' s1 hp s2 hv r=>aNi (Q:=fun v H'=>Dn.nx (σ.set i (some v)) H') rs (fun v H' sm rv=>q A _ H' (Le.of sm) ((rs.mono sm).set i rv)) s1 hp s2 hv r) fun C p H5 s5 m5 s3 H3 fp τ hC I3 hfp I5 hn5 q5=>aM4 hN hi' hx hf hC I3 hfp I5 hn5 fun s' I'=>⟨_,_,I',q5⟩
 cases hk
 exact q H (bA.refl _)
theorem aYm(i:Nat){x:Str}{spos:Pos}(is:List Nat)(hsub:aJn is t)(S:CScope X scope is)(hi:L2.PI X tg iter (tIt X.K B it))(hg:∀ (B:List Addr) (C:Addr) (s₀:Shared) (H₀:Hp) (fp:List Addr),PG (cW X scope C s₀ H₀ fp) tg (tG X.K B t))
  (ht:∀ (B:List Addr) (C:Addr) (s₀:Shared) (H₀:Hp) (fp:List Addr),PT (cW X scope C s₀ H₀ fp) c (tT X.K B u))
  (he:∀ (B:List Addr) (C:Addr) (s₀:Shared) (H₀:Hp) (fp:List Addr),PE (cW X scope C s₀ H₀ fp) elt (tI X.K B f)) (hc:X.calm=true) (hN:X.N.Nodup) (hi':X.N[i]?=some x:=by rfl) (hx:Loc X.env.scope x:=by first | exact Or.inl rfl | exact Or.inr rfl)
  (hsw:swapsWith (.ListComp elt [⟨tg,iter,[c],0⟩] scope pos) (some (.Name x px)) spos.line X.env=pure true:=by rfl)
  (hf:X.fn x=true\/X.env.scope.names.lookup x=some .local:=by first | exact .inl rfl | exact .inr rfl | assumption) (hs:∀ x,foldedSetIterable iter X.env x=pure x:=by intro _;rfl) :
  PS X (.Assign [.Name x px] (.ListComp elt [⟨tg,iter,[c],0⟩] scope pos) spos) (tS X.K B (cO i (dX is t it u f))):=by
 intro pins s σ H Dn I h
 obtain ⟨A,st,r,rs,hr,q⟩:=h
 obtain ⟨d,hd,h3⟩:=R.ok_of hr
 cases h3
 obtain ⟨xs,hx',h2⟩:=R.ok_of hd
 obtain ⟨hl,h3⟩:=aK h2
 obtain ⟨ys,hy,h4⟩:=R.ok_of h3
 cases h4
 rw [exec_Assign_Name_used _ _ _ _ hsw]
 refine wpAny_bind (wpAny_standAt (wpAny_bind ?_))
 show wpAny _ X.A (do let _ <- comprehension (.ListComp elt [⟨tg,iter,[c],0⟩] scope pos) scope X.env _ (newList []) false (eval iter X.env) (some (assign (.Name x px) X.env))) _ _ s
 refine wpAny_bind (wpAny_mono (Q:=fun _ s'=>SP X pins Dn .next s') ?_ (fun _ s' hq=>wpAny_pure (wpAny_pure hq)) fun _ _ e=>e)
 exact xM (use:=some (assign (.Name x px) X.env)) (Qf:=fun _ s'=>SP X pins Dn .next s') (Q:=fun v H'=>Dn.nx (σ.set i (some v)) H') (tt:=tTx X.K u) (te:=tIx X.K f) (rest:=fun env it p=>isTrue c env (eval c env) >>= fun ok=>if ok=true then (eval elt env >>= fun x=>call (.builtin "list.append") [p,x] >>= fun _=>again (.compLoop (.ListComp elt [⟨tg,iter,[c],0⟩] scope pos) 0 it p env)) else again (.compLoop (.ListComp elt [⟨tg,iter,[c],0⟩] scope pos) 0 it p env)) S hc hi (fun C s₀ H₀ fp=>aY6 fun B=>hg B C s₀ H₀ fp) (fun _ _ _=>uP)
  (fun C s₀ H₀ fp it p s Q h=>bG6 (Y:=cW X scope C s₀ H₀ fp) h) (fun C s₀ H₀ fp it p τ H s pins vs N Q I h q=>aY7 (Y:=cW X scope C s₀ H₀ fp) rfl (aY5 fun B=>he B C s₀ H₀ fp) (bG7 fun B=>ht B C s₀ H₀ fp) τ H s pins vs N Q I h (fun _ Q Q' m h=>aBk Q Q' m h) q) hs I
  (aPp hsub (fun τ H Q h=>h) rs hx' hl hy fun p vs H1 H' s1 hp s2 hv r=>aNi (Q:=fun v H'=>Dn.nx (σ.set i (some v)) H') rs (fun v H' sm rv=>q A _ H' (Le.of sm) ((rs.mono sm).set i rv)) s1 hp s2 hv r) fun C p H5 s5 m5 s3 H3 fp τ hC I3 hfp I5 hn5 q5=>aM4 hN hi' hx hf hC I3 hfp I5 hn5 fun s' I'=>⟨_,_,I',q5⟩
end
end Pu
namespace Pu
open PySem PySem.Spec PyProof.Rows L2
structure FunD(K:Frag)(x qual:Str)(st:Stmt)(dV:Value)(f:Addr)(fd:FuncData):Prop where
 ex:∃ (oc:Value) (od:Option Addr) (kV doc pm:Value) (an:Option Addr) (cdv ct:Value) (osl:Array (Option Value)),
  fd=fnOf x qual (cP st) (cA st) (aF st) dV kV doc pm an cdv ct/\K.lookup f=some ⟨oc,od,.func fd,osl⟩/\codeIn K cdv qual=true
 kp:keepIn K (.ref f)=true
section
variable   {K:Frag}    {st:Stmt}  {f:Addr}   {k:Nat}
theorem fH{od an:Option Addr}  {kV doc pm cdv ct:Value} (l:K.lookup f=some ⟨oc,od,.func (fnOf x qual (cP st) (cA st) (aF st) dV kV doc pm an cdv ct),osl⟩)
  (c:codeIn K cdv qual=true) (k:keepIn K (.ref f)=true):FunD K x qual st dV f (fnOf x qual (cP st) (cA st) (aF st) dV kV doc pm an cdv ct):=⟨⟨oc,od,kV,doc,pm,an,cdv,ct,osl,rfl,l,c⟩,k⟩
theorem FunD.binds0(F:FunD K x qual st .none f fd)
  (h:∀ (kV doc pm:Value) (an:Option Addr) (cdv ct:Value) (us:List Value),us.length=ps.length->bindArgs (fnOf x qual (cP st) (cA st) (aF st) .none kV doc pm an cdv ct) ⟨us,[]⟩=pure (ps.zip us)):Binds K fd ps []:=by
 obtain ⟨oc,od,kV,doc,pm,an,cdv,ct,osl,rfl,lk,hcd⟩:=F.ex
 exact .all (h kV doc pm an cdv ct)
theorem FunD.binds{o:Obj}  {m:Nat} {ds:List Value} (F:FunD K x qual st (.ref T) f fd) (hT:K.lookup T=some o) (hd:o.data = .seq items n) (hm:m+ds.length=ps.length)
  (h:∀ (kV doc pm:Value) (an:Option Addr) (cdv ct:Value) (us:List Value),us.length=m->∃ k:Option (Array Value)->Sem (List (Str × Value)),bindArgs (fnOf x qual (cP st) (cA st) (aF st) (.ref T) kV doc pm an cdv ct) ⟨us,[]⟩=seqItems? (.ref T) >>= k/\k (some items)=pure (ps.zip (us++ds))):Binds K fd ps ds:=by
 obtain ⟨oc,od,kV,doc,pm,an,cdv,ct,osl,rfl,lk,hcd⟩:=F.ex
 intro s us KX hl
 obtain ⟨k,h1,h2⟩:=h kV doc pm an cdv ct us (by rw [length_append] at hl;omega)
 exact .of_defaults rfl (KX _ _ hT) hd h1 h2
theorem FunD.okX{sp:Sp}(F:FunD K x qual st dV f fd)(S:FnScope N ps (aF st))(len:∀ vs H Q E,sp vs H Q E->vs.length=ps.length)
  (hbody:∀ (cdv:Value) (A:Around) (outer:List Env) (s:Shared) (H:Hp) (vs:List V) (Q:VK) (E:XK),Room k (A.deeper (envOfC qual (aF st) s.heap.objs.size f cdv))->sp vs H Q E ->
   ∃ t,PSs (aIk CX0 P w K mg base N qual (aF st) f cdv A outer s H E).nox (cA st) t/\t { nx:=fun _ H'=>Q .non H',rt:=Q } (L2.start N vs) H):FnOk P w K mg base CX0 (k+1) f fd ps sp:=by
 obtain ⟨oc,od,kV,doc,pm,an,cdv,ct,osl,rfl,lk,hcd⟩:=F.ex
 refine bCn lk hcd S len fun A outer s H vs Q E hr hsp=>?_
 obtain ⟨t,h,q⟩:=hbody cdv A outer s H vs Q E hr hsp
 exact ⟨t,h.nox,q⟩
theorem bW(F:FunD K x qual st dV f fd)(S:FnScope N ps (aF st))(np n:Nat)(bd:Bd)(hnp:ps.length=np)(hn:N.length=n)
  (hb:∀ (cdv:Value) (A:Around) (outer:List Env) (s:Shared) (H:Hp) (E:XK) (B:List Addr),Room k (A.deeper (envOfC qual (aF st) s.heap.objs.size f cdv)) ->
   PSs (aIk CX0 P w K mg base N qual (aF st) f cdv A outer s H E).nox (cA st) (tS K B bd)):FnOk P w K mg base CX0 (k+1) f fd ps (spI K np (cF np n bd)):=by
 refine F.okX S (fun vs H Q E h=>?_) (fun cdv A outer s H vs Q E hr h=>?_)
 ·obtain ⟨A,ds,d,own,r,hl,_⟩:=h
  rw [r.length,hl,hnp]
 ·obtain ⟨B,ds,d,own,r,hl,hp,q⟩:=h
  refine ⟨tS K B bd,hb cdv A outer s H E B hr,?_⟩
  obtain ⟨_,h2⟩:=aK hp
  obtain ⟨fl,hfl,h3⟩:=R.ok_of h2
  have rs:=aJi (N:=N) own r
  rw [hl,hn] at rs
  refine ⟨[],_,fl,rs,hfl,?_⟩
  have fin:∀ {A':List Addr} {H':Hp},Le [] H A' H'->bA H H':=fun {A' H'} l=>by
   unfold Le at l
   rw [xH] at l
   exact l.trans (bG _ _)
  cases fl with
  | nx s1 =>
   cases h3
   exact fun A' σ' H' l rs'=>q _ H' (fin l) (cJ.mpr rfl)
  | rt d' =>
   cases h3
   exact fun A' v H' l rv=>q v H' (fin l) (rv.mono (lJ fun a ha=>List.mem_append_right _ ha))
  | bk s1=>exact nomatch h3
  | ct s1=>exact nomatch h3
theorem MethOk.of{ds:List Value}  (hc:ClsAt K c C) (hm:Meth K C (Str.ofString m) f) (F:FnOk P w K mg base CX0 k f fd ps (spI K np (cF np n bd))) (b:Binds K fd ps ds) (v:Vals dvs ds) (r:∀ H,bD K H dv dvs):MethOk P w K mg base c m k np dv (cF np n bd) :=
 ⟨⟨C,f,fd,ps,dvs,ds,hc,hm,F,b,v,r⟩,xK⟩
end
end Pu
namespace Pu
open PySem PySem.Spec PyProof.Rows L2 PySem.SeqAt
section
variable   {a b o:Expr}     
theorem aRj:mC X (.type "list") (fun vs H Q=>∃ l xs,vs=[.ref l]/\(SqL X.K H l xs\/SqT X.K H l xs)/\∀ n,H n=none->Q (.ref n) (upd H n (.lst xs))):=by
 intro pins s σ H vs us Q I r h
 obtain ⟨l,xs,rfl,hl,q⟩:=h
 obtain ⟨u,rfl,ru⟩:=r.one
 obtain rfl:u=Value.ref l:=ru
 rcases hl with hl | hl
 ·obtain ⟨its,rv,⟨ob,n,e,hc,_,hd⟩,hz⟩:=I.list hl
  refine call_list_seq l (T := "list") (.inl rfl) e hc hd (fun h' c' k hn=>?_) (by rw [rv.length] at hz;simpa using hz)
  exact ⟨.ref s.heap.objs.size,_,I.laid (o := .lst xs) (t':=s.toks) k (Nat.le_refl _) ⟨hz,its,c',rv,hn⟩,rfl,q _ (I.hok.fresh (Nat.le_refl _))⟩
 ·obtain ⟨its,rv,⟨ob,e,hc,n,hd⟩,hz⟩:=I.tuple hl
  refine call_list_seq l (T := "tuple") (.inr rfl) e hc hd (fun h' c' k hn=>?_) (by rw [rv.length] at hz;simpa using hz)
  exact ⟨.ref s.heap.objs.size,_,I.laid (o := .lst xs) (t':=s.toks) k (Nat.le_refl _) ⟨hz,its,c',rv,hn⟩,rfl,q _ (I.hok.fresh (Nat.le_refl _))⟩
theorem aYn(hm:X.mg "list" = none)(ha:PE X a (tP X.K B f))(hg:Gl X "list" := by rfl)(hs:starEach [a] X.env=(false,eval a X.env) :: starEach [] X.env:=by rfl):PE X (.Call (.Name "list" p0) [a] [] pos) (tI X.K B (e1 aOl f)):=by
 refine cM (wR aRj hg hm (by rfl) (dH ha iJ hs) (he:=hs)) ?_
 rintro σ H Q ⟨A,st,d,rs,hd,q⟩
 obtain ⟨x,hx,h2⟩:=R.ok_of hd
 refine ⟨A,st,x,rs,hx,fun v H1 s1 r1=>?_⟩
 cases x<;>first | (cases h2;done) | skip
 ·cases h2
  obtain ⟨l,vs,e,h3,r3⟩:=r1.tup
  exact ⟨l,vs,by rw [e],.inr h3,fun n hn=>q _ _ (s1.trans (cG hn)) (gZ (rs.own.mono s1) hn r3)⟩
 ·cases h2
  obtain ⟨l,vs,e,h3,r3⟩:=r1.lst
  exact ⟨l,vs,by rw [e],.inl h3,fun n hn=>q _ _ (s1.trans (cG hn)) (gZ (rs.own.mono s1) hn r3)⟩
theorem aTm:∀ {l:List Bool} {us:List Value},Vals (l.map V.bl) us->us=l.map Value.bool
 | [],_,.nil=>rfl
 | b :: l,_,.cons r t=>by
  rw [aTm t]
  cases r
  rfl
theorem aVa(hc:X.calm=true):mC X (.builtin "all") (fun vs H Q=>∃ (l:Addr) (bs:List Bool),vs=[.ref l]/\SqL X.K H l (bs.map V.bl)/\Q (.bl (bs.all id)) H):=by
 intro pins s σ H vs us Q I r h
 obtain ⟨l,bs,rfl,hl,q⟩:=h
 obtain ⟨u,rfl,ru⟩:=r.one
 obtain rfl:u=Value.ref l:=ru
 obtain ⟨its,rv,⟨ob,n,e,hcl,_,hd⟩,hz⟩:=I.list hl
 have ei:=aTm rv
 have isl:s.heap.IsList l its.toArray:=⟨ob,e,hcl,n,hd⟩
 have hlt:l < s.heap.objs.size:=Heap.lt_size e
 refine call_all_walk (wpAny_pyIter_list isl ⟨s.heap.objs.size,_,_,_,_,_,fun i=>bs[i]?.getD false,rfl,Walks.list (A:=X.A.in1) (I.ok.hd hc) _ l (Nat.ne_of_lt hlt) its.toArray,⟨⟨_,Heap.get?_push_size _ rfl,rfl,rfl⟩,isl.push _⟩,?_,fun h' tk k=>?_⟩)
 ·intro i v s' Q' E' hv hq
  rw [ei] at hv
  simp only [List.getElem?_toArray,List.getElem?_map,Option.map_eq_some_iff] at hv
  obtain ⟨b,hb,rfl⟩:=hv
  have hq':Q' (bs[i]?.getD false) s':=hq
  rw [hb] at hq'
  exact wpAny_pure hq'
 ·refine ⟨.bl (bs.all id),H,I.kept (fun b u z=>k b u (fun hb=>?_) (Heap.get?_push_of_some _ z)),?_,q⟩
  ·have:=List.mem_singleton.mp hb
   exact Nat.lt_irrefl _ (this ▸ Heap.lt_size z)
  ·show Value.bool _=Value.bool _
   congr 1
   rw [Bool.eq_iff_iff,List.all_eq_true,List.all_eq_true]
   have hsz:its.toArray.size=bs.length:=by rw [ei];simp
   rw [hsz]
   constructor
   ·intro h x hx
    obtain ⟨i,hi,rfl⟩:=List.mem_iff_getElem.mp hx
    have:=h i (List.mem_range.mpr hi)
    rw [List.getElem?_eq_getElem hi] at this
    exact this
   ·intro h i hi
    have hi':=List.mem_range.mp hi
    rw [List.getElem?_eq_getElem hi']
    exact h _ (List.getElem_mem hi')
theorem aTn{K:Frag}{H:Hp}:∀ {l:List Bool} {vs:List V},bD K H (l.map D.bl) vs->vs=l.map V.bl
 | [],vs,h=>dG.mp h
 | b :: l,vs,h=>by
  obtain ⟨v,r,rfl,h1,h2⟩:=bU.mp h
  rw [aTn h2,bF.mp h1];rfl
theorem aTo(hm:X.mg "all" = none)(hc:X.calm=true)(ha:PE X a (tP X.K B f))(hg:Gl X "all" := by rfl)(hs:starEach [a] X.env=(false,eval a X.env) :: starEach [] X.env:=by rfl):PE X (.Call (.Name "all" p0) [a] [] pos) (tI X.K B (e1 aHj f)):=by
 refine cM (rA (aVa hc) hg hm (by rfl) (dH ha iJ hs) (he:=hs)) ?_
 rintro σ H Q ⟨A,st,d,rs,hd,q⟩
 obtain ⟨x,hx,h2⟩:=R.ok_of hd
 refine ⟨A,st,x,rs,hx,fun v H1 s1 r1=>?_⟩
 cases x<;>first | (cases h2;done) | skip
 obtain ⟨bs,h3,h4⟩:=R.ok_of h2
 cases h4
 obtain ⟨l,vs,e,h5,r5⟩:=r1.lst
 rw [aWq h3] at r5
 rw [aTn r5] at h5
 exact ⟨l,bs,by rw [e],h5,q _ H1 s1 (bF.mpr rfl)⟩
theorem aPu:∀ {l:List Int} {us:List Value},Vals (l.map V.int) us->∃ ps:List (Int × Tok),us=ps.map (fun p=>Value.int p.1 p.2)/\ps.map (·.1)=l
 | [],_,.nil=>⟨[],rfl,rfl⟩
 | b :: l,_,.cons r t=>by
  obtain ⟨ps,e,e2⟩:=aPu t
  obtain ⟨t,rfl⟩:=r
  exact ⟨(b,t) :: ps,by rw [e];rfl,by rw [map_cons,e2]⟩
theorem aPv{ps:List (Int × Tok)}  (hi:i < ps.length):numAt ps.toArray i=(ps.map (·.1))[i]'(by simpa using hi):=by
 unfold numAt
 rw [List.getElem?_toArray,List.getElem?_eq_getElem hi]
 simp
theorem aVb(hc:X.calm=true):mC X (.builtin "max") (fun vs H Q=>∃ (l:Addr) (is:List Int),vs=[.ref l]/\SqL X.K H l (is.map V.int)/\0 < is.length/\Q (.int (aIs is)) H):=by
 intro pins s σ H vs us Q I r h
 obtain ⟨l,is,rfl,hl,hp,q⟩:=h
 obtain ⟨u,rfl,ru⟩:=r.one
 obtain rfl:u=Value.ref l:=ru
 obtain ⟨its,rv,⟨ob,n,e,hcl,_,hd⟩,hz⟩:=I.list hl
 obtain ⟨ps,ei,e2⟩:=aPu rv
 have hlen:ps.length=is.length:=by rw [<-e2,length_map]
 have isl:s.heap.IsList l (intItems ps.toArray):=⟨ob,e,hcl,n,by rw [hd,ei];simp [intItems]⟩
 refine max_intList (I.ok.hd hc) isl (by simpa [hlen] using hp) fun v h' tk hv k=>?_
 obtain ⟨t,rfl⟩:=intItems_at hv
 refine ⟨.int (aIs is),H,I.kept k,⟨t,?_⟩,q⟩
 congr 1
 have hs:ps.toArray.size=ps.length:=rfl
 rw [hs]
 obtain ⟨h1,h2⟩:=argBest_gt (numAt ps.toArray) (ps.length - 1)
 have hb:argBest (fun i j=>decide (numAt ps.toArray i > numAt ps.toArray j)) (ps.length - 1) < ps.length:=by omega
 refine (bAg ?_ fun x hx=>?_).symm
 ·rw [aPv hb,<-e2]
  exact List.getElem_mem _
 ·rw [<-e2] at hx
  obtain ⟨i,hi,rfl⟩:=List.mem_iff_getElem.mp hx
  have hi':i < ps.length:=by simpa using hi
  rw [<-aPv hi']
  exact h2 i (by omega)
theorem aPw{K:Frag}{H:Hp}:∀ {l:List Int} {vs:List V},bD K H (l.map D.int) vs->vs=l.map V.int
 | [],vs,h=>dG.mp h
 | b :: l,vs,h=>by
  obtain ⟨v,r,rfl,h1,h2⟩:=bU.mp h
  rw [aPw h2,aQ.mp h1];rfl
theorem bDi(hm:X.mg "max" = none)(hc:X.calm=true)(ha:PE X a (tP X.K B f))(hg:Gl X "max" := by rfl)(hs:starEach [a] X.env=(false,eval a X.env) :: starEach [] X.env:=by rfl):PE X (.Call (.Name "max" p0) [a] [] pos) (tI X.K B (e1 aGt f)):=by
 refine cM (rA (aVb hc) hg hm (by rfl) (dH ha iJ hs) (he:=hs)) ?_
 rintro σ H Q ⟨A,st,d,rs,hd,q⟩
 obtain ⟨x,hx,h2⟩:=R.ok_of hd
 refine ⟨A,st,x,rs,hx,fun v H1 s1 r1=>?_⟩
 cases x<;>first | (cases h2;done) | skip
 obtain ⟨is,h3,h4⟩:=R.ok_of h2
 obtain ⟨c,h4⟩:=aK h4
 cases h4
 obtain ⟨l,vs,e,h5,r5⟩:=r1.lst
 rw [wV h3] at r5
 rw [aPw r5] at h5
 exact ⟨l,is,by rw [e],h5,c,q _ H1 s1 (aQ.mpr rfl)⟩
theorem aPx:∀ {l:List (List Nat)} {us:List Value},Vals (l.map fun t=>V.str ⟨t.toArray⟩) us->∃ ps:List (Str × Tok),us=strValues ps/\ps.map (·.1)=l.map fun t=>(⟨t.toArray⟩:Str)
 | [],_,.nil=>⟨[],rfl,rfl⟩
 | b :: l,_,.cons r t=>by
  obtain ⟨ps,e,e2⟩:=aPx t
  obtain ⟨t,rfl⟩:=r
  exact ⟨(⟨b.toArray⟩,t) :: ps,by rw [e];rfl,by rw [map_cons,e2];rfl⟩
theorem aTp(x:List Nat):∀ (l:List (List Nat)),Str.join ⟨x.toArray⟩ (l.map fun t=>(⟨t.toArray⟩:Str))=⟨(aEh x l).toArray⟩
 | []=>rfl
 | [a]=>rfl
 | a :: b :: l=>by
  show (⟨a.toArray⟩:Str)++⟨x.toArray⟩++Str.join ⟨x.toArray⟩ ((b :: l).map fun t=>(⟨t.toArray⟩:Str))=_
  rw [aTp x (b :: l)]
  show (⟨a.toArray++x.toArray++(aEh x (b :: l)).toArray⟩:Str)=⟨(a++x++aEh x (b :: l)).toArray⟩
  simp
theorem bBp:MtR X "str.join" (fun x vs H Q=>∃ (z:List Nat) (l:Addr) (ts:List (List Nat)),x = .str ⟨z.toArray⟩/\vs=[.ref l]/\SqL X.K H l (ts.map fun t=>V.str ⟨t.toArray⟩)/\(ts.map List.length).sum+ts.length * z.length<=sizeLine/\Q (.str ⟨(aEh z ts).toArray⟩) H):=by
 intro pins s σ H x vs v us Q I rx rv h
 obtain ⟨z,l,ts,rfl,rfl,hl,hz,q⟩:=h
 obtain ⟨t,rfl⟩:=rx
 obtain ⟨u,rfl,ru⟩:=rv.one
 obtain rfl:u=Value.ref l:=ru
 obtain ⟨its,rv,⟨ob,n,e,hcl,_,hd⟩,_⟩:=I.list hl
 obtain ⟨ps,ei,e2⟩:=aPx rv
 refine SC.join (l:=ps) ⟨ob,e,hcl,n,by rw [hd,ei]⟩ e2 ?_ fun t' k=>⟨.str ⟨(aEh z ts).toArray⟩,H,I.tok _,⟨t',?_⟩,q⟩
 ·unfold JoinOk
  rw [Bool.not_eq_true']
  show Builtin.Str.tooLong _=false
  rw [StrLaws.joinTotal]
  unfold Builtin.Str.tooLong
  refine decide_eq_false (Nat.not_lt.mpr ?_)
  rw [List.map_map,length_map,str_len]
  have:(ts.map ((fun x:Str=>x.length) ∘ fun t=>(⟨t.toArray⟩:Str)))=ts.map List.length:=List.map_congr_left fun t _=>str_len t
  rw [this]
  exact hz
 ·rw [<-aTp,<-StrLaws.glued_eq_join];rfl
theorem aPy{K:Frag}{H:Hp}:∀ {l:List (List Nat)} {vs:List V},bD K H (l.map D.str) vs->vs=l.map fun t=>V.str ⟨t.toArray⟩
 | [],vs,h=>dG.mp h
 | b :: l,vs,h=>by
  obtain ⟨v,r,rfl,h1,h2⟩:=bU.mp h
  rw [aPy h2,aZ.mp h1];rfl
theorem aYo(ho:PE X o (tP X.K B f))(ha:PA X (e :: es) (tA X.K B r))(hbase:attributeBase o "join" X.env (eval o X.env)=eval o X.env:=by rfl)
  (hfew:((backTo cpos (starEach (e :: es) X.env)).all (fun x => !x.1)&&(backToKw cpos (keywordEach [] X.env)).all (fun x=>x.1.isSome)
   && decide ((e :: es).length+([]:List Keyword).length+(if ([]:List Keyword).isEmpty then 0 else 1) < 30))=true:=by rfl)
  (hline:(apos.endLine==cpos.line)=true:=by rfl) (hs:starEach (e :: es) X.env=(false,eval e X.env) :: starEach es X.env:=by rfl) (hplain:(backTo cpos (starEach es X.env)).any (·.1)=false:=by rfl) :
  PE X (.Call (.Attribute o "join" apos) (e :: es) [] cpos) (tI X.K B (eMt aGu f r)):=by
 refine bBj (m:=aGu) PySem.F.slot_str_join PySem.F.type_str_join bBp (fun x xs d h=>?_) (fun A H x d xs v vs Q w rx rxs h k=>?_) ho ha hbase hfew hline hs hplain
 ·cases x<;>first | exact ⟨_,rfl⟩ | exact nomatch h
 ·unfold aGu at h
  split at h
  ·obtain ⟨ts,h1,h2⟩:=R.ok_of h
   obtain ⟨c,h2⟩:=aK h2
   cases h2
   obtain ⟨u,rfl,ru⟩:=aM0 rxs
   obtain ⟨l,ws,e,h5,r5⟩:=jV.lst (.inl ru)
   rw [aOm h1] at r5
   rw [aPy r5] at h5
   exact ⟨_,l,ts,rx.str,by rw [e],h5,lim c,k _ H (bA.refl _) (aZ.mpr rfl)⟩
  ·cases h
end
end Pu
namespace Pu
open PySem PySem.Spec PyProof.Rows L2
section
variable {A:Around}   {e L:Addr} {h0 b0:Heap}   {outer:List Env} {Q:Unit->Shared->Prop}
end
end Pu
namespace Pu
open PySem PySem.Spec PyProof.Rows L2
section
variable    {t:TA} {W:Addr->L2.St->Hp->Prop}
end
end Pu
namespace Pu
open PySem PySem.Spec PyProof.Rows L2
section
variable   {σ:L2.St}  {ea:Addr} 
end
section
variable {A:Around}  {nm q:Str} {N:Addr} {bs bm:List Value} {hdct:Bool} {sn:List Str} {sub:List Value} {ab:Bool} {col:Option Bool} {dd:Option Addr} {k0 k1 k2 k3 k5:Option Value} 
variable{nm' q':Str}{D' N':Addr}{bs' bm':List Value}{hdct':Bool}{sn':List Str}{sub':List Value}{ab':Bool}{col':Option Bool}{dd':Option Addr}{j0 j1 j2 j3 j5:Option Value}{newId':String}
end
section
end
end Pu
namespace Pu
open PySem PySem.Spec PyProof.Rows L2
abbrev XW:=D->L2.St->Hp->Prop
section
variable   {a b o:Expr}    {rest:List Stmt}  {W:XW} {s1 s2:Bool}
end
end Pu
variable{W:Pu.XW}
namespace Pu
open PySem PySem.Spec PyProof.Rows L2
section
variable   {a b o:Expr}   
end
end Pu
namespace Pu
open PySem PySem.Spec PyProof.Rows L2
section
variable   {a b:Expr}   
end
end Pu
namespace Pu
open PySem PySem.Spec PyProof.Rows L2 PySem.Calls Builtin Builtin.ObjectAttr Builtin.Getset_descriptor
section
variable   {A:Around}   {K:Frag} {x:Addr}
end
section
variable   {a:Expr}   
end
section
variable    {σ:L2.St}   {ea:Addr}
end
end Pu
namespace Pu
open PySem PySem.Spec PyProof.Rows L2
section
variable{K:Frag}   {D':Addr} {bmB:List Value} {B initId:String}
end
section
variable   {K:Frag}   {f:Addr}   {k:Nat}
theorem MakeOk.of(hc:ClsAt K c C)(hm:Mk K C f)(F:FnOk P w K mg base CX0 k f fd ps (spM K c np (aMt c np n bd)))(b:Binds K fd ps [])(m:mg (Str.ofString c)=some (.ref C)):MakeOk P w K mg base c k np (aMt c np n bd) :=
 ⟨⟨C,f,fd,ps,hc,hm,F,b,m⟩,aYl⟩
end
section
variable {P:List α->Prop}
theorem aTq(h:P [])(us:List α)(hl:us.length=0):P us:=by rw [List.length_eq_zero_iff.mp hl];exact h
theorem aCi(h:∀ a us,us.length=n->P (a :: us))(us:List α)(hl:us.length=n+1):P us:=by
 cases us with
 | nil=>cases hl
 | cons a us=>exact h a us (Nat.succ.inj hl)
theorem jF(h:∀ a,P [a])(us:List α)(hl:us.length=1):P us:=aCi (fun a=>aTq (h a)) us hl
theorem cH(h:∀ a b,P [a,b])(us:List α)(hl:us.length=2):P us:=aCi (fun a=>jF (P:=fun us=>P (a :: us)) (h a)) us hl
theorem iH(h:∀ a b c,P [a,b,c])(us:List α)(hl:us.length=3):P us:=aCi (fun a=>cH (P:=fun us=>P (a :: us)) (h a)) us hl
theorem aCj(h:∀ a b c d,P [a,b,c,d])(us:List α)(hl:us.length=4):P us:=aCi (fun a=>iH (P:=fun us=>P (a :: us)) (h a)) us hl
theorem aTr(h:∀ a b c d e,P [a,b,c,d,e])(us:List α)(hl:us.length=5):P us:=aCi (fun a=>aCj (P:=fun us=>P (a :: us)) (h a)) us hl
theorem bBq(h:∀ a b c d e f,P [a,b,c,d,e,f])(us:List α)(hl:us.length=6):P us:=aCi (fun a=>aTr (P:=fun us=>P (a :: us)) (h a)) us hl
end
end Pu
namespace Pu
open PySem PySem.Spec PyProof.Rows L2
section
variable   {a b o:Expr}    
end
end Pu
namespace Pu
open PySem PySem.Spec PyProof.Rows L2
def Inn(K:Frag)(G H:Hp):List (List D)->List Addr->Prop
 | [],ps=>ps=[]
 | xs :: xss,ps=>∃ p r vs,ps=p :: r/\H p=some (.lst vs)/\bD K G xs vs/\Inn K G H xss r
section
variable   {a b o:Expr}    {rest:List Stmt}  {na:NB} 
end
end Pu
namespace Pu
open PySem PySem.Spec PyProof.Rows L2
def tSF(K:Frag)(B:List Addr)(i:Nat)(b:Bd):TS:=fun Dn σ H=>∃ A st st' xs,RS K B A H st σ/\b st = .ok (.nx st')/\st'[i]?=some (some (.o .l xs))/\∀ A' a vs H',Le A H A' H'->a∈A'->H' a=some (.lst vs)->bD K (hide (A'++B) H') xs vs->Dn.rt (.ref a) H'
def spF(K:Frag)(np:Nat)(p:List D->R D):Sp:=fun vs H Q _=>∃ A ds xs,Own A H/\bD K (hide A H) ds vs/\ds.length=np/\p ds = .ok (.lst xs)/\∀ a ws H',bA H H'->H a=none->H' a=some (.lst ws)->bD K (hide (a :: A) H') xs ws->Q (.ref a) H'
section
variable   {o:Expr}    {rest:List Stmt}  
theorem aTs(h1:PS X sm (tS X.K B bd))(h2:PSs X rest (tSF X.K B i bd')):PSs X (sm :: rest) (tSF X.K B i (aU bd bd')):=aCf (aIg h1 h2) (by
 rintro Dn σ H ⟨A,st,st',xs,rs,hb,hi,q⟩
 unfold aU aG2 at hb
 obtain ⟨fl,hfl,h3⟩:=R.ok_of hb
 refine ⟨A,st,fl,rs,hfl,?_⟩
 cases fl with
 | nx s1=>exact fun A' σ' H' l rs'=>⟨A',s1,st',xs,rs',h3,hi,fun A2 a vs H2 l2=>q A2 a vs H2 (l.trans l2)⟩
 | rt d=>cases h3
 | bk s1=>cases h3
 | ct s1=>cases h3)
theorem bGd(hN:X.N[i]?=some x:=by rfl)(hv:Vis X.env.scope x:=by first | exact Or.inl rfl | exact Or.inr (Or.inl rfl) | exact Or.inr (Or.inr rfl))(hd:(x==("__debug__" : Str))=false:=by decide)(hcd:(x==("__classdict__" : Str))=false:=by decide) :
  PSs X [.Return (some (.Name x p1)) pos] (tSF X.K B i cY):=aCf (aMh (aQp (yD hN hv hd hcd))) (by
 rintro Dn σ H ⟨A,st,st',xs,rs,hb,hi,q⟩
 cases hb
 obtain ⟨a,o,vs,e1,m,h1,ko,r,_⟩:=rs.lst i .l xs hi
 have eo:o = .lst vs:=ko
 subst eo
 exact ⟨.ref a,e1,q A a vs H Le.refl m h1 r⟩)
end
section
variable   {K:Frag}    {st:Stmt}  {f:Addr}   {k:Nat}
theorem bMg(F:FunD K x qual st dV f fd)(S:FnScope N ps (aF st))(np n i:Nat)(bd:Bd)(hnp:ps.length=np)(hn:N.length=n)
  (hb:∀ (cdv:Value) (A:Around) (outer:List Env) (s:Shared) (H:Hp) (E:XK) (B:List Addr),Room k (A.deeper (envOfC qual (aF st) s.heap.objs.size f cdv)) ->
   PSs (aIk CX0 P w K mg base N qual (aF st) f cdv A outer s H E).nox (cA st) (tSF K B i bd)):FnOk P w K mg base CX0 (k+1) f fd ps (spF K np (cF np n (aEi bd i))):=by
 refine F.okX S (fun vs H Q E h=>?_) (fun cdv A outer s H vs Q E hr h=>?_)
 ·obtain ⟨A,ds,d,own,r,hl,_⟩:=h
  rw [r.length,hl,hnp]
 ·obtain ⟨B,ds,xs,own,r,hl,hp,q⟩:=h
  refine ⟨tSF K B i bd,hb cdv A outer s H E B hr,?_⟩
  obtain ⟨_,h2⟩:=aK hp
  obtain ⟨fl,hfl,h3⟩:=R.ok_of h2
  have rs:=aJi (N:=N) own r
  rw [hl,hn] at rs
  unfold aEi at hfl
  split at hfl
  ·rename_i s1 hf1
   unfold aWs at hfl
   split at hfl
   ·rename_i e1
    cases hfl
    cases h3
    refine ⟨[],_,s1,_,rs,hf1,e1,fun A' a vs' H' l ha hv rv=>?_⟩
    have sm:bA H H':=by
     unfold Le at l
     rw [xH] at l
     exact l.trans (bG _ _)
    refine q a vs' H' sm ?_ hv (rv.mono (lJ fun b hb=>?_))
    ·cases hH:H a with
     | none=>rfl
     | some o =>
      have z:=l a o (by rw [xH];exact hH)
      rw [eY ha] at z;cases z
    ·rcases List.mem_cons.mp hb with rfl | hb
     ·exact List.mem_append_left _ ha
     ·exact List.mem_append_right _ hb
   ·cases hfl
  ·cases hfl
theorem aVc(h:cF np n (aEi bd i) ds = .ok d):∃ xs,d = .lst xs:=by
 obtain ⟨_,h2⟩:=aK h
 obtain ⟨fl,hfl,h3⟩:=R.ok_of h2
 unfold aEi at hfl
 split at hfl
 ·unfold aWs at hfl
  split at hfl
  ·cases hfl;cases h3;exact ⟨_,rfl⟩
  ·cases hfl
 ·cases hfl
theorem aM5(hp:∀ ds d,p ds = .ok d->∃ xs,d = .lst xs)  (F:FnOk P w K mg base CX0 k f fd ps (spF K np p)):FnOk P w K mg base CX0 k f fd ps (spI K np p):=by
 have up:∀ vs H Q E,spI K np p vs H Q E->spF K np p vs H Q E:=by
  rintro vs H Q E ⟨A,ds,d,own,r,hl,he,q⟩
  obtain ⟨xs,rfl⟩:=hp ds d he
  refine ⟨A,ds,xs,own,r,hl,he,fun a ws H' sm ha hv rv=>q _ H' sm (bZ.mpr ⟨a,ws,rfl,SqL.of (by rw [bY (own.free ha)];exact hv),rv.mono (lJ fun b hb=>mem_cons_of_mem _ hb)⟩)⟩
 exact ⟨fun vs H Q E h=>F.len vs H Q E (up vs H Q E h),fun A outer s H args us vs Q E hr e0 hb hv h=>F.run A outer s H args us vs Q E hr e0 hb hv (up vs H Q E h)⟩
end
structure MethOkF(P:Program)(w:World)(K:Frag)(mg:Str->Option Value)(base:Heap)(c m:String)(k np:Nat)(dv:List D)(p:List D->R D):Prop where
 ex:∃ (C fa:Addr) (fd:FuncData) (ps:List Str) (dvs:List V) (ds:List Value),ClsAt K c C/\Meth K C (Str.ofString m) fa/\FnOk P w K mg base CX0 k fa fd ps (spF K np p)/\Binds K fd ps ds/\Vals dvs ds/\∀ H,bD K H dv dvs
 len:∀ ds d,p ds = .ok d->ds.length=np
 lst:∀ ds d,p ds = .ok d->∃ xs,d = .lst xs
theorem MethOkF.of{K:Frag}   {k:Nat} {f:Addr}        {ds:List Value}  (hc:ClsAt K c C) (hm:Meth K C (Str.ofString m) f) (F:FnOk P w K mg base CX0 k f fd ps (spF K np (cF np n (aEi bd i)))) (b:Binds K fd ps ds) (v:Vals dvs ds) (r:∀ H,bD K H dv dvs):MethOkF P w K mg base c m k np dv (cF np n (aEi bd i)) :=
 ⟨⟨C,f,fd,ps,dvs,ds,hc,hm,F,b,v,r⟩,xK,fun _ _ h=>aVc h⟩
theorem MethOkF.plain{K:Frag}    {k:Nat}   (h:MethOkF P w K mg base c m k np dv p):MethOk P w K mg base c m k np dv p:=by
 obtain ⟨C,fa,fd,ps,dvs,ds,hc,hm,F,b,v,r⟩:=h.ex
 exact ⟨⟨C,fa,fd,ps,dvs,ds,hc,hm,aM5 h.lst F,b,v,r⟩,h.len⟩
section
variable   {o:Expr}  
theorem bGe{k:Nat}       (h:MethOkF X.prog X.w X.K X.mg X.base c m k np dv p) (hr:Room j X.A) (hk:k<=j) (ho:PE X o (tI X.K B f)) (ha:PA X (e :: es) (tA X.K B r))
  (hst:starEach (e :: es) X.env=(false,eval e X.env) :: starEach es X.env:=by rfl) (hpl:(backTo pos (starEach es X.env)).any (·.1)=false:=by rfl)
  (ht:eval (.Call (.Attribute o (Str.ofString m) apos) (e :: es) [] pos) X.env=(do
   let ov <- eval o X.env
   standAt apos.atName
   let (f,first) <- holding [ov] (getMethod ov (Str.ofString m) pl)
   callWith pos f first (backTo pos (starEach (e :: es) X.env)) (backToKw pos (keywordEach [] X.env))):=by rfl) :
  PE X (.Call (.Attribute o (Str.ofString m) apos) (e :: es) [] pos) (tF X.K B (fM c m p dv f r)):=by
 obtain ⟨C,fa,fd,ps,dvs,ds,hc,hm,F,bd,vd,rd⟩:=h.ex
 refine cM (aS2 (pl:=pl) ho hc.cl hm F (hr.mono hk) bd vd aEa ha hst hpl ht) ?_
 rintro σ H Q ⟨A,st,xs,rs,hd,q⟩
 obtain ⟨x,hx,h2⟩:=R.ok_of hd
 obtain ⟨ys,hxs,h3⟩:=R.ok_of h2
 refine ⟨A,st,x,rs,hx,fun v H1 s1 r1=>?_⟩
 cases x<;>first | (cases h3;done) | skip
 obtain ⟨⟨e1,hn⟩,h4⟩:=aK h3
 subst e1
 obtain ⟨p',C',dx,fs,e2,h5,h6,h7,h8⟩:=jV.ins (.inl r1)
 have:C'=C:=by have z:=h6.symm.trans hc.ns;injection z with z;injection z with z;injection z
 subst this
 refine ⟨p',dx,fs,e2,h5,lookup_none h7 hn,A,st,ys,rs.mono s1,hxs,fun vs H2 s2 r2=>?_⟩
 refine ⟨A++B,_,xs,rs.own.mono (s1.trans s2),.cons (r1.mono (bA.hide s2)) (r2.append (rd _)),h.len _ _ h4,h4,fun a ws H' s' ha' hv rv=>?_⟩
 have e0:upd (hide [a] H') a (.lst ws)=H':=by
  funext b
  by_cases hb:b=a
  ·subst hb;rw [bT];exact hv.symm
  ·rw [bM hb,bY (by simpa using hb)]
 have z:=q a ws (hide [a] H') (fun b u hz=>?_) (eY (by simp)) ?_
 ·rw [e0] at z;exact z
 ·have hz2:=s2 _ _ (s1 _ _ hz)
  rw [bY (by simpa using aX hz2 ha')]
  exact s' _ _ hz2
 ·refine rv.mono fun b u hz=>?_
  have hb:b ∉ a :: (A++B):=fun y=>by rw [eY y] at hz;cases hz
  rw [bY fun y=>hb (mem_cons_of_mem _ y),bY (by simpa using fun y=>hb (by rw [y];exact mem_cons_self))]
  exact bG _ _ _ _ hz
end
end Pu
namespace Pu
open PySem PySem.Spec PyProof.Rows L2
section
variable   {a:Expr}  
end
end Pu
namespace Pu
open PySem PySem.Spec PyProof.Rows L2
section
variable   {e1 e2 o:Expr}    {rest:List Stmt}   {s1:Bool}
end
section
variable   {K:Frag}    {st:Stmt}     {k:Nat}   
end
section
variable   {e1 e2 o:Expr}  
end
section
variable   {o:Expr}  
end
end Pu
namespace Pu
open PySem PySem.Spec PyProof.Rows L2
section
variable   {a b:Expr}  
theorem aPz:∀ {ns:List Int} {us:List Value},Vals (ns.map V.int) us->IntsAre us ns
 | [],us,h=>by rw [h.zero];exact .nil
 | n :: ns,us,h=>by
  cases h with
  | cons r t =>
   obtain ⟨k,rfl⟩:=r
   exact .cons n k (aPz t)
theorem aM6{K:Frag}{H:Hp}:∀ {l:List Int} {vs:List V},bD K H (l.map D.int) vs->vs=l.map V.int
 | [],vs,h=>dG.mp h
 | i :: l,vs,h=>by
  obtain ⟨v,r,rfl,h1,h2⟩:=bU.mp h
  rw [aQ.mp h1,aM6 h2]
  rfl
end
end Pu
namespace Pu
open PySem PySem.Spec PyProof.Rows L2
def noH:Hp:=fun _=>none
theorem bBr:bA noH H:=fun _ _ h=>nomatch h
theorem aYp{K:Frag}    (h:atom d=true) (r:Rep K H d v):Rep K noH d v:=by
 cases d<;>first | (cases h;done) | skip
 ·exact cJ.mpr (cJ.mp r)
 ·exact bF.mpr (bF.mp r)
 ·exact aQ.mpr (aQ.mp r)
 ·exact aZ.mpr (aZ.mp r)
def tC(K:Frag)(B:List Addr)(f:Ex):TE:=fun σ H Q=>∃ A st d xs,RS K B A H st σ/\f st = .ok d/\bEw d = .ok (.lst xs)/\∀ P ps H',bA H H'->(∀ p∈P :: ps,H p=none)->(P :: ps).Nodup->H' P=some (.lst (ps.map V.ref))->Inn K noH H' (xs.map unL) ps->Q (.ref P) H'
section
variable    {iter:Expr} {pl:Pos}  {r:Str} 
end
end Pu
namespace Pu
open PySem PySem.Spec PyProof.Rows L2
section
variable   {r:Str}
end
end Pu
namespace Pu
open PySem PySem.Spec PyProof.Rows L2
section
variable {a b o:Expr}    {rest:List Stmt}   {H0:Hp} {x:Addr}
end
section
variable   {a b o:Expr}   
end
end Pu
namespace Pu
open PySem PySem.Spec PyProof.Rows L2
section
variable{K:Frag}{Z:List Addr}  {st:PSt} 
end
section
variable   {a b o:Expr}    {rest:List Stmt}  {na:NB} 
end
section
variable    {iter:Expr} {pl:Pos}  {r:Str} {rest:List Stmt}  
end
end Pu
namespace Pu
open PySem PySem.Spec PyProof.Rows L2
open Builtin
section
variable{prog:Program}{w:World}{A:Around}{E:Value->Shared->Prop}{s:Shared}
variable{z TI TO i1 i2 l:Addr}{fp:List Addr}{n k1 k2:Nat}{P:Nat->Value->Prop}{St:Nat->Heap->Prop}{ys:Array Value}{y a b:Value}
structure ZApart(z TI TO i1 i2 l:Addr)(fp:List Addr):Prop where
 TIz:TI≠z
 TOz:TO≠z
 i1z:i1≠z
 i2z:i2≠z
 TITO:TI≠TO
 TIi1:TI≠i1
 TIi2:TI≠i2
 TOi1:TO≠i1
 TOi2:TO≠i2
 i12:i1≠i2
 lz:l≠z
 lTO:l≠TO
 li1:l≠i1
 li2:l≠i2
 zf:z ∉ fp
 Tf:TO ∉ fp
 i2f:i2 ∉ fp
theorem aRk{n l:Nat}(h:l < n):ZApart (n+4) (n+2) (n+3) n (n+1) l [n]:=by
 constructor
 ·show n+2≠n+4;omega
 ·show n+3≠n+4;omega
 ·show n≠n+4;omega
 ·show n+1≠n+4;omega
 ·show n+2≠n+3;omega
 ·show n+2≠n;omega
 ·show n+2≠n+1;omega
 ·show n+3≠n;omega
 ·show n+3≠n+1;omega
 ·show n≠n+1;omega
 ·show l≠n+4;omega
 ·show l≠n+3;omega
 ·show l≠n;omega
 ·show l≠n+1;omega
 ·intro z
  have:n+4=n:=List.mem_singleton.mp z
  omega
 ·intro z
  have:n+3=n:=List.mem_singleton.mp z
  omega
 ·intro z
  have:n+1=n:=List.mem_singleton.mp z
  omega
theorem aYq(D1:Draws prog w A i1 fp n P St)(D:ZApart z TI TO i1 i2 l fp)
  (hz:IsZip s.heap z TI TO .none) (hTI:IsPair s.heap TI (.ref i1) (.ref i2)) (hTO:IsPair s.heap TO a b)
  (h1:St k1 s.heap) (hk1:k1 < n) (h2:s.heap.IsListIter i2 l k2) (hl:s.heap.IsList l ys) (hy:ys[k2]?=some y) 
  (hQ:∀ h' tk x,P k1 x->IsZip h' z TI TO (rawInt s.heap.objs.size)->IsPair h' TO x y->St (k1+1) h'->h'.IsListIter i2 l (k2+1)->IsPair h' s.heap.objs.size x y->h'.objs.size=s.heap.objs.size+1 ->
   (∀ c o,c≠z->c≠TO->c≠i1->c≠i2->s.heap.get? c=some o->h'.get? c=some o)->Q (.ref s.heap.objs.size) { s with heap:=h',toks:=tk }) :
  wpAny (model prog w) A (Builtin.«zip.__next__» ⟨[.ref z],[]⟩) (fun fin s'=>∃ v,fin = .done (.ret v)/\Q v s') E s:=by
 show wpAny _ _ (field (.ref z) 2 >>= _) _ _ _
 refine wpAny_bind (wpAny_field hz rfl (x := .bool false) rfl ?_)
 show wpAny _ _ (field (.ref z) 3 >>= _) _ _ _
 refine wpAny_bind (wpAny_field hz rfl (x := .ref TI) rfl ?_)
 refine wpAny_bind (wpAny_seqItems hTI rfl ?_)
 show wpAny _ _ (Builtin.SmallTypes.ownedTupleIsFree (.ref z) >>= _) _ _ _
 refine wpAny_bind ?_
 unfold Builtin.SmallTypes.ownedTupleIsFree
 refine wpAny_bind (wpAny_field hz rfl (x := .none) rfl (wpAny_pure ?_))
 simp only [if_true]
 refine wpAny_bind (wpAny_rule ?_)
 refine wpAny_bind (wpAny_field hz rfl (x := .ref TO) rfl ?_)
 refine wpAny_bind (wpAny_setField_rec hz (by simp) fun h₁ hz₁ hs₁=>?_)
 replace hz₁:IsZip h₁ z TI TO .ellipsis:=hz₁
 refine wpAny_bind ?_
 simp only [List.zipIdx_cons,List.zipIdx_nil,forIn_cons,forIn_nil]
 refine wpAny_bind (wpAny_bind (wpAny_onRaise ?_))
 show wpAny _ _ (Builtin.SmallTypes.nextOf (.ref i1) >>= _) _ _ _
 refine wpAny_bind (D1.item k1 { s with heap:=h₁ } _ _ hk1 (D1.frame k1 s.heap h₁ h1 fun b hb o e=>hs₁.extBut _ _ (fun x=>D.zf (x ▸ hb)) e) fun x h₂ tk hP h1₂ hs₂=>wpAny_pure ?_)
 have hs₂:Heap.SameBut i1 h₁ h₂:=hs₂
 have hTO₂:IsPair h₂ TO a b:=hs₂.extBut _ _ D.TOi1 (hs₁.extBut _ _ D.TOz hTO)
 refine wpAny_bind (wpAny_seqItems hTO₂ rfl ?_)
 refine wpAny_bind (wpAny_updateSeq_pair hTO₂ fun h₃ hTO₃ hs₃=>?_)
 replace hTO₃:IsPair h₃ TO x b:=hTO₃
 refine wpAny_bind (wpAny_letGo (wpAny_pure ?_))
 refine wpAny_bind (wpAny_bind (wpAny_onRaise ?_))
 show wpAny _ _ (Builtin.SmallTypes.nextOf (.ref i2) >>= _) _ _ _
 refine wpAny_bind (wpAny_nextOf_list_item (((h2.extBut hs₁.extBut D.i2z).extBut hs₂.extBut D.i12.symm).extBut hs₃.extBut D.TOi2.symm)
  (((hl.extBut hs₁.extBut D.lz).extBut hs₂.extBut D.li1).extBut hs₃.extBut D.lTO) hy fun h₄ h2₄ hs₄=>wpAny_pure ?_)
 have hTO₄:IsPair h₄ TO x b:=hs₄.extBut _ _ D.TOi2 hTO₃
 refine wpAny_bind (wpAny_seqItems hTO₄ rfl ?_)
 refine wpAny_bind (wpAny_updateSeq_pair hTO₄ fun h₅ hTO₅ hs₅=>?_)
 replace hTO₅:IsPair h₅ TO x y:=hTO₅
 refine wpAny_bind (wpAny_letGo (wpAny_pure (wpAny_pure ?_)))
 refine wpAny_bind (wpAny_seqItems hTO₅ rfl ?_)
 refine wpAny_bind (wpAny_newTuple ?_)
 have hs₃':Heap.SameBut TO h₂ h₃:=hs₃
 have hs₄':Heap.SameBut i2 h₃ h₄:=hs₄
 have hs₅':Heap.SameBut TO h₄ h₅:=hs₅
 have hsz:h₅.objs.size=s.heap.objs.size:=by rw [hs₅'.1,hs₄'.1,hs₃'.1,hs₂.1,hs₁.1]
 have hz₅:IsZip h₅ z TI TO .ellipsis:=hs₅'.extBut _ _ D.TOz.symm (hs₄'.extBut _ _ D.i2z.symm (hs₃'.extBut _ _ D.TOz.symm (hs₂.extBut _ _ D.i1z.symm hz₁)))
 have hk₅:∀ c o,c≠z->c≠TO->c≠i1->c≠i2->s.heap.get? c=some o->h₅.get? c=some o:=fun c o c1 c2 c3 c4 e =>
  hs₅'.extBut _ _ c2 (hs₄'.extBut _ _ c4 (hs₃'.extBut _ _ c2 (hs₂.extBut _ _ c3 (hs₁.extBut _ _ c1 e))))
 have h1₅:St (k1+1) h₅:=D1.frame _ h₂ h₅ h1₂ fun b hb o e=>hs₅'.extBut _ _ (fun x=>D.Tf (x ▸ hb)) (hs₄'.extBut _ _ (fun x=>D.i2f (x ▸ hb)) (hs₃'.extBut _ _ (fun x=>D.Tf (x ▸ hb)) e))
 have h2₅:h₅.IsListIter i2 l (k2+1):=h2₄.extBut hs₅'.extBut D.TOi2.symm
 have hzlt:z < h₅.objs.size:=Heap.lt_size hz₅
 show wpAny _ _ (Builtin.SmallTypes.ownedTupleHandOut (.ref z) (.ref h₅.objs.size) >>= _) _ _ _
 refine wpAny_bind ?_
 unfold Builtin.SmallTypes.ownedTupleHandOut
 have hz₆:IsZip (h₅.push { cls := .type "tuple", data := .seq #[x,y] }) z TI TO .ellipsis:=Heap.get?_push_of_some _ hz₅
 refine wpAny_bind (wpAny_setField_rec hz₆ (by simp) fun h₇ hz₇ hs₇=>?_)
 replace hz₇:IsZip h₇ z TI TO (rawInt h₅.objs.size):=hz₇
 refine wpAny_setField_rec hz₇ (by simp) fun h₈ hz₈ hs₈=>?_
 replace hz₈:IsZip h₈ z TI TO (rawInt h₅.objs.size):=hz₈
 have up:∀ c o,c≠z->h₅.get? c=some o->h₈.get? c=some o:=fun c o c1 e=>hs₈.extBut _ _ c1 (hs₇.extBut _ _ c1 (Heap.get?_push_of_some _ e))
 have hT₈:IsPair h₈ h₅.objs.size x y:=hs₈.extBut _ _ (Nat.ne_of_gt hzlt) (hs₇.extBut _ _ (Nat.ne_of_gt hzlt) (Heap.get?_push_size _ rfl))
 have hz8:h₈.objs.size=h₅.objs.size+1:=by rw [hs₈.1,hs₇.1,Heap.size_push]
 rw [hsz] at hz₈ hT₈ hz8
 refine wpAny_pure ⟨_,rfl,?_⟩
 show Q (.ref h₅.objs.size) _
 rw [hsz]
 exact hQ h₈ _ x hP hz₈ (up _ _ D.TOz hTO₅) (D1.frame _ h₅ h₈ h1₅ fun b hb o e=>up b o (fun x=>D.zf (x ▸ hb)) e) (h2₅.at fun o e=>up _ o D.i2z e) hT₈ hz8 fun c o c1 c2 c3 c4 e=>up c o c1 (hk₅ c o c1 c2 c3 c4 e)
theorem bBs(D1:Draws prog w A i1 fp n P St)(hh:A.handled=none)(D:ZApart z TI TO i1 i2 l fp)
  (hz:IsZip s.heap z TI TO .none) (hTI:IsPair s.heap TI (.ref i1) (.ref i2)) (hTO:IsPair s.heap TO a b)
  (h1:St k1 s.heap) (h2:s.heap.IsListIter i2 l k2) (hl:s.heap.IsList l ys)
  (hend:(∀ (s:Shared) (Q:Value->Shared->Prop) (E:Value->Shared->Prop),St k1 s.heap->(∀ h' e,Heap.ExtBut i1 s.heap h'->(∃ o,h'.get? e=some o/\o.cls = .type "StopIteration")->E (.ref e) { s with heap:=h' })->wpAny (model prog w) A (Builtin.SmallTypes.nextOf (.ref i1)) Q E s)\/(k1 < n/\ys[k2]?=none)) {Q:Fin->Shared->Prop}
  (hE:∀ h' e tk,(∀ c o,c≠z->c≠TO->c≠i1->c≠i2->s.heap.get? c=some o->h'.get? c=some o)->(∃ o,h'.get? e=some o/\o.cls = .type "StopIteration")->E (.ref e) { s with heap:=h',toks:=tk }) :
  wpAny (model prog w) A (Builtin.«zip.__next__» ⟨[.ref z],[]⟩) Q E s:=by
 show wpAny _ _ (field (.ref z) 2 >>= _) _ _ _
 refine wpAny_bind (wpAny_field hz rfl (x := .bool false) rfl ?_)
 show wpAny _ _ (field (.ref z) 3 >>= _) _ _ _
 refine wpAny_bind (wpAny_field hz rfl (x := .ref TI) rfl ?_)
 refine wpAny_bind (wpAny_seqItems hTI rfl ?_)
 show wpAny _ _ (Builtin.SmallTypes.ownedTupleIsFree (.ref z) >>= _) _ _ _
 refine wpAny_bind ?_
 unfold Builtin.SmallTypes.ownedTupleIsFree
 refine wpAny_bind (wpAny_field hz rfl (x := .none) rfl (wpAny_pure ?_))
 simp only [if_true]
 refine wpAny_bind (wpAny_rule ?_)
 refine wpAny_bind (wpAny_field hz rfl (x := .ref TO) rfl ?_)
 refine wpAny_bind (wpAny_setField_rec hz (by simp) fun h₁ hz₁ hs₁=>?_)
 replace hz₁:IsZip h₁ z TI TO .ellipsis:=hz₁
 refine wpAny_bind ?_
 simp only [List.zipIdx_cons,List.zipIdx_nil,forIn_cons,forIn_nil]
 refine wpAny_bind (wpAny_bind (wpAny_onRaise ?_))
 show wpAny _ _ (Builtin.SmallTypes.nextOf (.ref i1) >>= _) _ _ _
 have fr1:St k1 h₁:=D1.frame k1 s.heap h₁ h1 fun b hb o e=>hs₁.extBut _ _ (fun x=>D.zf (x ▸ hb)) e
 rcases hend with hend | ⟨hkn,hy⟩
 ·refine wpAny_bind (hend { s with heap:=h₁ } _ _ fr1 fun h₂ e hs₂ he=>?_)
  have hs₂:Heap.ExtBut i1 h₁ h₂:=hs₂
  obtain ⟨oe,hoe,hce⟩:=he
  have hz₂:IsZip h₂ z TI TO .ellipsis:=hs₂ _ _ D.i1z.symm hz₁
  have hez:e≠z:=fun x=>by subst x;rw [hz₂] at hoe;cases hoe;simp at hce
  refine wpAny_setField_rec hz₂ (by simp) fun h₃ _ hs₃=>hE h₃ e _ (fun c o c1 _ c3 _ x=>hs₃.extBut _ _ c1 (hs₂ _ _ c3 (hs₁.extBut _ _ c1 x))) ⟨oe,hs₃.extBut _ _ hez hoe,hce⟩
 ·refine wpAny_bind (D1.item k1 { s with heap:=h₁ } _ _ hkn fr1 fun x h₂ tk hP h1₂ hs₂=>wpAny_pure ?_)
  have hs₂:Heap.SameBut i1 h₁ h₂:=hs₂
  have hTO₂:IsPair h₂ TO a b:=hs₂.extBut _ _ D.TOi1 (hs₁.extBut _ _ D.TOz hTO)
  refine wpAny_bind (wpAny_seqItems hTO₂ rfl ?_)
  refine wpAny_bind (wpAny_updateSeq_pair hTO₂ fun h₃ hTO₃ hs₃=>?_)
  have hs₃':Heap.SameBut TO h₂ h₃:=hs₃
  refine wpAny_bind (wpAny_letGo (wpAny_pure ?_))
  refine wpAny_bind (wpAny_bind (wpAny_onRaise ?_))
  show wpAny _ _ (Builtin.SmallTypes.nextOf (.ref i2) >>= _) _ _ _
  refine wpAny_bind (wpAny_nextOf_list_end hh (((h2.extBut hs₁.extBut D.i2z).extBut hs₂.extBut D.i12.symm).extBut hs₃'.extBut D.TOi2.symm)
   (((hl.extBut hs₁.extBut D.lz).extBut hs₂.extBut D.li1).extBut hs₃'.extBut D.lTO) hy fun h₄ e hs₄ he=>?_)
  have hs₄:Heap.ExtBut i2 h₃ h₄:=hs₄
  obtain ⟨oe,hoe,hce⟩:=he
  have hz₄:IsZip h₄ z TI TO .ellipsis:=hs₄ _ _ D.i2z.symm (hs₃'.extBut _ _ D.TOz.symm (hs₂.extBut _ _ D.i1z.symm hz₁))
  have hez:e≠z:=fun x=>by subst x;rw [hz₄] at hoe;cases hoe;simp at hce
  refine wpAny_setField_rec hz₄ (by simp) fun h₅ _ hs₅=>hE h₅ e _ (fun c o c1 c2 c3 c4 x=>hs₅.extBut _ _ c1 (hs₄ _ _ c4 (hs₃'.extBut _ _ c2 (hs₂.extBut _ _ c3 (hs₁.extBut _ _ c1 x))))) ⟨oe,hs₅.extBut _ _ hez hoe,hce⟩
end
section
variable{prog:Program}{w:World}{A:Around}{E:Value->Shared->Prop}{s:Shared}
abbrev zH1(h:Heap)(x:Str)(t:Tok):Heap:=h.push { cls := .type (strIterType x),data := .fields #[.str x t,.int 0 0] }
abbrev zH2(h:Heap)(x:Str)(t:Tok)(l:Addr):Heap:=(zH1 h x t).push { cls := .type "list_iterator", data := .fields #[.ref l,.int 0 0] }
abbrev zH3(h:Heap)(x:Str)(t:Tok)(l:Addr):Heap:=(zH2 h x t l).push { cls := .type "tuple", data := .seq #[.ref h.objs.size,.ref (zH1 h x t).objs.size] }
abbrev zH4(h:Heap)(x:Str)(t:Tok)(l:Addr):Heap:=(zH3 h x t l).push { cls := .type "tuple", data := .seq #[.none,.none] }
abbrev zH5(h:Heap)(x:Str)(t:Tok)(l:Addr):Heap:=(zH4 h x t l).push { cls := .type "zip", data := .fields #[.none,.bool false,.bool false,.ref (zH2 h x t l).objs.size,.ref (zH3 h x t l).objs.size] }
theorem aRl(x:Str)(t:Tok)(l:Addr)(ys:Array Value) :
  Meets (Builtin.«zip.__new__» ⟨[.type "zip", .str x t,.ref l],[]⟩) (fun _ R s=>s.heap.IsList l ys /\
   R (.ok (.ret (.ref (zH4 s.heap x t l).objs.size))) { s with heap:=zH5 s.heap x t l }) :=
 .of_wp fun prog w A R s h=>by
  obtain ⟨hp,g,d,tk,os⟩:=s;obtain ⟨hl,h⟩:=h
  have hsub:=sub_zip
  have hL:Heap.IsList (Shared.heap ⟨hp.push { cls := .type (strIterType x),data := .fields #[.str x t,.int 0 0] },g,d,tk,os⟩) l ys:=Heap.IsList.push hl _
  wp_walk using wpAny_pyIter_strU,wpAny_pyIter_list hL
  exact ⟨_,rfl,h⟩
theorem aVd{t:Tok}  {ys:Array Value}  (hl:s.heap.IsList l ys)
  (h:∀ h',IsZip h' (s.heap.objs.size+4) (s.heap.objs.size+2) (s.heap.objs.size+3) .none->IsPair h' (s.heap.objs.size+2) (.ref s.heap.objs.size) (.ref (s.heap.objs.size+1)) ->
   IsPair h' (s.heap.objs.size+3) .none .none->h'.IsStrIter s.heap.objs.size (strIterType x) x t 0->h'.IsListIter (s.heap.objs.size+1) l 0->h'.objs.size=s.heap.objs.size+5 ->
   (∀ c o,s.heap.get? c=some o->h'.get? c=some o)->Q (.ref (s.heap.objs.size+4)) { s with heap:=h' }) :
  wpAny (model prog w) A (call (.type "zip") [.str x t,.ref l]) Q E s:=by
 refine callType_new PySem.F.called_zip (by decide) (PySem.F.typeCall_zip_2 _ _) (PySem.F.newCall_zip_2 _ _) (fun obj=>PySem.F.args_object_init_3 obj _ _) PySem.F.entry_zip_new
  (aRl x t l ys) ⟨hl,?_⟩
 have z1:(zH1 s.heap x t).objs.size=s.heap.objs.size+1:=Heap.size_push ..
 have z2:(zH2 s.heap x t l).objs.size=s.heap.objs.size+2:=by rw [Heap.size_push,z1]
 have z3:(zH3 s.heap x t l).objs.size=s.heap.objs.size+3:=by rw [Heap.size_push,z2]
 have z4:(zH4 s.heap x t l).objs.size=s.heap.objs.size+4:=by rw [Heap.size_push,z3]
 have z5:(zH5 s.heap x t l).objs.size=s.heap.objs.size+5:=by rw [Heap.size_push,z4]
 have g5:(zH5 s.heap x t l).get? (zH4 s.heap x t l).objs.size=some _:=Heap.get?_push_size _ rfl
 have g4:(zH5 s.heap x t l).get? (zH3 s.heap x t l).objs.size=some _:=Heap.get?_push_of_some _ (Heap.get?_push_size _ rfl)
 have g3:(zH5 s.heap x t l).get? (zH2 s.heap x t l).objs.size=some _:=Heap.get?_push_of_some _ (Heap.get?_push_of_some _ (Heap.get?_push_size _ rfl))
 have g2:(zH5 s.heap x t l).get? (zH1 s.heap x t).objs.size=some _:=Heap.get?_push_of_some _ (Heap.get?_push_of_some _ (Heap.get?_push_of_some _ (Heap.get?_push_size _ rfl)))
 have g1:(zH5 s.heap x t l).get? s.heap.objs.size=some _:=Heap.get?_push_of_some _ (Heap.get?_push_of_some _ (Heap.get?_push_of_some _ (Heap.get?_push_of_some _ (Heap.get?_push_size _ rfl))))
 show _/\_
 rw [z2,z3,z4] at g5
 rw [z1,z2] at g3
 rw [z3] at g4
 rw [z1] at g2
 rw [z4]
 exact ⟨⟨_,g5,rfl⟩,h _ g5 g3 g4 ⟨_,g1,rfl,rfl⟩ ⟨_,g2,rfl,rfl⟩ z5 fun c o x =>
  Heap.get?_push_of_some _ (Heap.get?_push_of_some _ (Heap.get?_push_of_some _ (Heap.get?_push_of_some _ (Heap.get?_push_of_some _ x))))⟩
theorem aM7(hh:A.handled=none)(it:Addr)(x:Str)(t:Tok){n:String}(hn:n = "str_ascii_iterator" \/ n = "str_iterator") :
  Draws prog w A it [it] x.cps.size (fun i v=>∃ c u,x.cps[i]?=some c/\v = .str ⟨#[c]⟩ u) (fun i h=>h.IsStrIter it n x t i):=by
 rcases hn with rfl | rfl
 ·exact Draws.strAscii hh it x t
 ·exact Draws.strWide hh it x t
theorem bBt(hh:A.handled=none){it:Addr}  {t:Tok} {n:String}  (hn:n = "str_ascii_iterator" \/ n = "str_iterator")  (st:s.heap.IsStrIter it n x t i) (hx:x.cps[i]?=none)
  (hE:∀ h' e,Heap.ExtBut it s.heap h'->(∃ o,h'.get? e=some o/\o.cls = .type "StopIteration")->E (.ref e) { s with heap:=h' }):wpAny (model prog w) A (Builtin.SmallTypes.nextOf (.ref it)) Q E s:=by
 rcases hn with rfl | rfl
 ·exact wpAny_nextOf_ascii_end hh st hx hE
 ·exact wpAny_nextOf_wide_end hh st hx hE
theorem aKl(x:Str):strIterType x = "str_ascii_iterator" \/ strIterType x = "str_iterator" := by
 unfold strIterType
 split<;>simp
end
def Itz(K:Frag)(z:List Nat)(a:Addr):It :=
 ⟨fun i H=>i < z.length/\∃ xs x,SqL K H a xs/\xs[i]?=some x,fun i H x H'=>∃ T c v,x=V.ref T/\H T=none/\z[i]?=some c/\H'=upd H T (.tup [.str ⟨#[c]⟩,v])/\∀ xs,SqL K H a xs->xs[i]?=some v,fun i H=>∃ xs,SqL K H a xs/\(z.length<=i\/xs.length<=i)⟩
theorem aYr{K:Frag}  {x1} {tp:Pos} {zs:List Nat} {t:Tok} {n:String} (hn:n = "str_ascii_iterator" \/ n = "str_iterator") (a z TI TO i1 i2:Addr) (D:∀ l,l=a->ZApart z TI TO i1 i2 l [i1]) :
  Turn P w K (.Tuple elts x1 tp) (Itz K zs a) [z,TI,TO,i1,i2] z (fun i h=>IsZip h z TI TO .none/\IsPair h TI (.ref i1) (.ref i2)/\(∃ u v,IsPair h TO u v)/\h.IsStrIter i1 n ⟨zs.toArray⟩ t i/\h.IsListIter i2 a i) where
 mem:=by simp
 obj:=fun i h st b hb=>by
  obtain ⟨hz,hTI,⟨u,v,hTO⟩,⟨o1,q1,c1,d1⟩,⟨o2,q2,c2,d2⟩⟩:=st
  simp only [mem_cons,List.not_mem_nil,or_false] at hb
  rcases hb with rfl | rfl | rfl | rfl | rfl
  ·exact ⟨_,hz,fun v z=>by cases z⟩
  ·exact ⟨_,hTI,fun v z=>by cases z⟩
  ·exact ⟨_,hTO,fun v z=>by cases z⟩
  ·exact ⟨o1,q1,fun v z=>by rw [d1] at z;cases z⟩
  ·exact ⟨o2,q2,fun v z=>by rw [d2] at z;cases z⟩
 keep:=fun i h h' st k=>by
  obtain ⟨hz,hTI,⟨u,v,hTO⟩,⟨o1,q1,r1⟩,h2⟩:=st
  exact ⟨k z (by simp) _ hz,k TI (by simp) _ hTI,⟨u,v,k TO (by simp) _ hTO⟩,⟨o1,k i1 (by simp) _ q1,r1⟩,h2.at fun o x=>k i2 (by simp) o x⟩
 item:=by
  intro X hP hw hK hc i pins s σ H E I hf st hg
  subst hP hw hK
  obtain ⟨hz,hTI,⟨u0,v0,hTO⟩,h1,h2⟩:=st
  obtain ⟨hi,xs,x,hq,hx⟩:=hg
  obtain ⟨its,rv,p,_⟩:=I.list hq
  obtain ⟨u,hu,ru⟩:=rv.get hx
  have D:=D a rfl
  have fo:∀ b∈[z,TI,TO,i1,i2],H b=none:=fun b hb=>(hf b hb).1
  have hT:H s.heap.objs.size=none:=I.hok.fresh (Nat.le_refl _)
  have hzt:s.TypeIs (.ref z) "zip" := ⟨_,hz,rfl⟩
  have hh:=I.ok.hd hc
  unfold pyNext
  refine wpAny_bind (wpAny_attempt (wpAny_callSpecial?_slot (name:=Str.ofString "__next__") hzt PySem.F.slot_zip_next
   (wpAny_call_entry PySem.F.slot_zip_next hzt PySem.F.entry_zip_next
    (aYq (aM7 (A:=X.A.in1) hh i1 ⟨zs.toArray⟩ t hn) D hz hTI hTO h1 (by simpa using hi) h2 p.isList (y:=u) (by simpa using hu) fun h' tk v hP a1 a2 a3 a4 a5 a6 hk=>wpAny_pure ?_) (PySem.F.args_zip_next_1 _))))
  obtain ⟨c,uu,hcc,rfl⟩:=hP
  refine ⟨_,rfl,wpAny_letOwnedTupleGo_zip (s:={ s with heap:=h',toks:=tk }) a1 fun h9 hz9 sb=>?_⟩
  have hkeep:∀ b o,b≠z->b≠TO->b≠i1->b≠i2->s.heap.get? b=some o->h9.get? b=some o:=fun b o e1 e2 e3 e4 q=>(sb.2 b e1).trans (hk b o e1 e2 e3 e4 q)
  have zlt:z≠s.heap.objs.size:=Nat.ne_of_lt (Heap.lt_size hz)
  have htup:h9.get? s.heap.objs.size=some { cls := .type "tuple", data := .seq #[.str ⟨#[c]⟩ uu,u] }:=(sb.2 _ zlt.symm).trans a5
  have nT:∀ b u',H b=some u'->b≠s.heap.objs.size:=fun b u' q=>aX q hT
  have nx:∀ b u',H b=some u'->b≠z/\b≠TO/\b≠i1/\b≠i2:=fun b u' q=>⟨aX q (fo z (by simp)),aX q (fo TO (by simp)),aX q (fo i1 (by simp)),aX q (fo i2 (by simp))⟩
  have mx:∀ b:Addr,b ∉ [z,TI,TO,i1,i2]->b≠z/\b≠TO/\b≠i1/\b≠i2:=fun b hb=>⟨fun q=>hb (by simp [q]),fun q=>hb (by simp [q]),fun q=>hb (by simp [q]),fun q=>hb (by simp [q])⟩
  have inL:∀ b o,s.heap.get? b=some o->b≠s.heap.objs.size:=fun b o q=>Nat.ne_of_lt (Heap.lt_size q)
  have kp:∀ b o,b ∉ [z,TI,TO,i1,i2]->s.heap.get? b=some o->h9.get? b=some o:=fun b o hb q=>hkeep b o (mx b hb).1 (mx b hb).2.1 (mx b hb).2.2.1 (mx b hb).2.2.2 q
  have un:Un (frs X.stack) [z,TI,TO,i1,i2] H (upd H s.heap.objs.size (.tup [.str ⟨#[c]⟩,x])) s.heap h9:=by
   refine ⟨fun b o q n hb hx=>kp b o hx q,fun b o q n hb hx=>⟨o.slots,kp b o hx q⟩,fun b o q n hx=>by rw [bM (inL b o q)];exact n,fun b o q hx=>⟨o,kp b o hx q⟩,fun b ys q=>by rw [bM (nT b _ q)];exact q,fun b o u' q=>by rw [bM (nT b _ q)];exact q,fun b ps q=>⟨#[],by rw [bM (nT b _ q),Array.append_empty];exact q⟩⟩
  have hok:HOk X.prog X.w (upd H s.heap.objs.size (.tup [.str ⟨#[c]⟩,x])) h9:=fun b u' q=>by
   by_cases hb:b=s.heap.objs.size
   ·subst hb
    rw [bT] at q
    cases q
    exact ⟨show 2<=sizeLine by decide,[.str ⟨#[c]⟩ uu,u],.cons ⟨_,rfl⟩ (.cons ru .nil),_,htup,rfl,_,rfl⟩
   ·rw [bM hb] at q
    refine (I.hok b u' q).stay (fun c v hc' q' => ?_) (fun c q'=>by rw [bM (nT c _ q')];exact q') fun c ys q'=>by rw [bM (nT c _ q')];exact q'
    have:∃ u'',H c=some u'':=by
     rcases hc' with z | z
     ·exact ⟨u',by rw [z];exact q⟩
     ·exact ⟨_,z⟩
    obtain ⟨u'',hu''⟩:=this
    obtain ⟨e1,e2,e3,e4⟩:=nx c _ hu''
    exact hkeep c v e1 e2 e3 e4 q'
  have I2:Inv X pins σ (upd H s.heap.objs.size (.tup [.str ⟨#[c]⟩,x])) { s with heap:=h9,toks:=tk }:=I.call (g':=s.gens) (t':=tk) (d':=s.drawn) (ch:=[z,TI,TO,i1,i2]) un hok I.bare fun b hb=>by
   have fb:=hf b hb
   exact ⟨fb.2.2.2.1,fb.2.1,fb.2.2.2.2.1,fb.2.2.2.2.2⟩
  have up:∀ b o,b≠z->h'.get? b=some o->h9.get? b=some o:=fun b o e q=>(sb.2 b e).trans q
  refine ⟨.ref s.heap.objs.size,_,I2,rfl,⟨_,c,x,rfl,hT,by simpa using hcc,rfl,fun ys hy=>by rw [I.list_inj hy hq];exact hx⟩,⟨hz9,up _ _ D.TIz (hk _ _ D.TIz D.TITO D.TIi1 D.TIi2 hTI),⟨_,_,up _ _ D.TOz a2⟩,?_,a4.at fun o y=>up _ o D.i2z y⟩,fun b hb=>?_⟩
  ·obtain ⟨o1,q1,r1⟩:=a3
   exact ⟨o1,up _ _ D.i1z q1,r1⟩
  ·have hbs:∃ o,s.heap.get? b=some o:=by
    simp only [mem_cons,List.not_mem_nil,or_false] at hb
    obtain ⟨o1,q1,_⟩:=h1
    obtain ⟨o2,q2,_⟩:=h2
    rcases hb with rfl | rfl | rfl | rfl | rfl
    ·exact ⟨_,hz⟩
    ·exact ⟨_,hTI⟩
    ·exact ⟨_,hTO⟩
    ·exact ⟨_,q1⟩
    ·exact ⟨_,q2⟩
   obtain ⟨o,q⟩:=hbs
   rw [bM (inL b o q)]
   exact fo b hb
 done:=by
  intro X hP hw hK hc i pins s σ H E I hf st hg
  subst hP hw hK
  obtain ⟨hz,hTI,⟨u0,v0,hTO⟩,h1,h2⟩:=st
  obtain ⟨xs,hq,hx⟩:=hg
  obtain ⟨its,rv,p,_⟩:=I.list hq
  have D:=D a rfl
  have hzt:s.TypeIs (.ref z) "zip" := ⟨_,hz,rfl⟩
  have hh:=I.ok.hd hc
  have hl:=rv.length
  unfold pyNext
  refine wpAny_bind (wpAny_attempt (wpAny_callSpecial?_slot (name:=Str.ofString "__next__") hzt PySem.F.slot_zip_next
   (wpAny_call_entry PySem.F.slot_zip_next hzt PySem.F.entry_zip_next
    (bBs (aM7 (A:=X.A.in1) hh i1 ⟨zs.toArray⟩ t hn) hh D hz hTI hTO h1 h2 p.isList (by
     by_cases hi:zs.length<=i
     ·refine .inl fun s' Q E st hE=>bBt (A:=X.A.in1) hh hn st (by simpa using hi) hE
     ·exact .inr ⟨by simpa using hi,by simp;omega⟩) fun h' e tk hk he=>?_) (PySem.F.args_zip_next_1 _))))
  obtain ⟨o,ho,hce⟩:=he
  refine wpAny_bind (wpAny_isInstance (T := "StopIteration") (b:=true) ⟨o,ho,hce⟩ isSubtype_stop ?_)
  refine wpAny_pure ⟨rfl,?_⟩
  have fo:∀ b∈[z,TI,TO,i1,i2],H b=none:=fun b hb=>(hf b hb).1
  have mx:∀ b:Addr,b ∉ [z,TI,TO,i1,i2]->b≠z/\b≠TO/\b≠i1/\b≠i2:=fun b hb=>⟨fun q=>hb (by simp [q]),fun q=>hb (by simp [q]),fun q=>hb (by simp [q]),fun q=>hb (by simp [q])⟩
  have kp:∀ b o,b ∉ [z,TI,TO,i1,i2]->s.heap.get? b=some o->h'.get? b=some o:=fun b o hb q=>hk b o (mx b hb).1 (mx b hb).2.1 (mx b hb).2.2.1 (mx b hb).2.2.2 q
  have un:Un (frs X.stack) [z,TI,TO,i1,i2] H H s.heap h' :=
   ⟨fun b o q n hb hx=>kp b o hx q,fun b o q n hb hx=>⟨o.slots,kp b o hx q⟩,fun b o q n hx=>n,fun b o q hx=>⟨o,kp b o hx q⟩,fun b ys q=>q,fun b o u' q=>q,fun b ps q=>⟨#[],by rw [Array.append_empty];exact q⟩⟩
  have hok:HOk X.prog X.w H h':=fun b u' q=>by
   refine (I.hok b u' q).stay (fun c v hc' q' => ?_) (fun c q'=>q') fun c ys q'=>q'
   have:∃ u'',H c=some u'':=by
    rcases hc' with z | z
    ·exact ⟨u',by rw [z];exact q⟩
    ·exact ⟨_,z⟩
   obtain ⟨u'',hu''⟩:=this
   exact hk c v (aX hu'' (fo z (by simp))) (aX hu'' (fo TO (by simp))) (aX hu'' (fo i1 (by simp))) (aX hu'' (fo i2 (by simp))) q'
  exact I.call (g':=s.gens) (t':=tk) (d':=s.drawn) (ch:=[z,TI,TO,i1,i2]) un hok I.bare fun b hb=>by
   have fb:=hf b hb
   exact ⟨fb.2.2.2.1,fb.2.1,fb.2.2.2.2.1,fb.2.2.2.2.2⟩
 self:=fun _ _ _ _ _ st h=>wpAny_pyIter_zip st.1 h
theorem aQ0:∀ (z:List Nat) (ds:List D),(aHk z ds).length=min z.length ds.length
 | [],ds=>by simp [aHk]
 | c :: z,[]=>by simp [aHk]
 | c :: z,d :: ds=>by rw [aHk,length_cons,length_cons,length_cons,aQ0];omega
theorem aQ1:∀ (z:List Nat) (ds:List D) (i:Nat) (d:D),(aHk z ds)[i]?=some d->∃ c e,z[i]?=some c/\ds[i]?=some e/\d = .tup [.str [c],e]
 | [],ds,i,d,h=>by simp [aHk] at h
 | c :: z,[],i,d,h=>by simp [aHk] at h
 | c :: z,e :: ds,0,d,h=>by
  rw [aHk] at h
  simp at h
  exact ⟨c,e,rfl,rfl,h.symm⟩
 | c :: z,e :: ds,i+1,d,h=>by
  rw [aHk,getElem?_cons_succ] at h
  obtain ⟨c',e',h1,h2,h3⟩:=aQ1 z ds i d h
  exact ⟨c',e',by simpa using h1,by simpa using h2,h3⟩
section
variable   {a b:Expr}  
theorem bGf{K:Frag}       (hq:SqL K (hide (A++B) H) l vs) (r:bD K (hide (A++B) H) ds vs):aV4 K B A H (Itz K z l) (aHk z ds):=by
 intro A' H' le own i
 have hq':SqL K H' l vs:=(bG _ _).seq ((Le.app le).seq hq)
 refine ⟨fun d hd=>?_,fun hl=>⟨vs,hq',?_⟩⟩
 ·obtain ⟨c,e,h1,h2,rfl⟩:=aQ1 z ds i d hd
  obtain ⟨v,hv,rv⟩:=r.get h2
  refine ⟨⟨(List.getElem?_eq_some_iff.mp h1).1,vs,v,hq',hv⟩,fun x H3 y=>?_⟩
  obtain ⟨T,c',v',rfl,hT,hc',rfl,h5⟩:=y
  have hx:=h5 vs hq'
  rw [hv] at hx
  cases hx
  rw [h1] at hc'
  cases hc'
  exact ⟨cG hT,aH7 own hT (.cons (aZ.mpr rfl) (.cons (rv.mono (Le.app le)) .nil))⟩
 ·rw [aQ0] at hl
  rw [r.length]
  omega
theorem bGg{x1}{tp p:Pos}(hm:X.mg "zip" = none)(ha:PE X a (tI X.K B f))(hb:PE X b (tI X.K B g))(hg:Gl X "zip" := by rfl)(hs:starEach [a,b] X.env=(false,eval a X.env) :: starEach [b] X.env:=by rfl)(hs2:starEach [b] X.env=[(false,eval b X.env)]:=by rfl):L2.PI X (.Tuple elts x1 tp) (.Call (.Name "zip" p) [a,b] [] pos) (tIt X.K B (bCs f g)):=by
 intro pins s σ H Rq I ⟨A,st,ds,rs,hd,q⟩
 obtain ⟨x,hx,h2⟩:=R.ok_of hd
 obtain ⟨y,hy,h3⟩:=R.ok_of h2
 split at h3
 rotate_left
 ·cases h3
 rename_i zs ws
 cases h3
 refine Call_ (aFx I hg hm boot_zip (PyProof.Rows.callWith_type1 (thn ((dH ha (dH hb iJ hs2) hs) pos pins s σ H (fun vs H1=>∃ v w,vs=[v,w]/\bA H H1/\Rep X.K (hide (A++B) H1) (.str zs) v/\Rep X.K (hide (A++B) H1) (.lst ws) w) I ⟨A,st,_,rs,hx,fun v H1 s1 r1=>⟨A,st,_,rs.mono s1,hy,fun w H2 s2 r2=>⟨v,w,rfl,s1.trans s2,r1.mono (bA.hide s2),r2⟩⟩⟩) fun us s1 ⟨vs,H1,I1,r1,v,w,hv,sm,rv,rw'⟩=>?_) hs (by rw [hs2];rfl)))
 subst hv
 obtain ⟨u1,u2,rfl,ra,rb⟩:∃ u1 u2,us=[u1,u2]/\L2.RelV v u1/\L2.RelV w u2:=by
  cases r1 with
  | cons ra rb =>
   cases rb with
   | cons rb rc =>
    cases rc
    exact ⟨_,_,rfl,ra,rb⟩
 obtain ⟨l,ts,rfl,hq,rr⟩:=bZ.mp rw'
 have ev:=aZ.mp rv
 subst ev
 obtain ⟨t,rfl⟩:=(show ∃ t,u1=Value.str ⟨zs.toArray⟩ t from ra)
 have eu:u2=Value.ref l:=rb
 subst eu
 obtain ⟨its,rvv,pl,hz⟩:=I1.list ((bG _ _).seq hq)
 have hlt:l < s1.heap.objs.size:=by
  obtain ⟨o,e,_⟩:=pl.isList
  exact Heap.lt_size e
 refine aVd pl.isList fun h' hz' hTI hTO hit1 hit2 hsz hk=>?_
 refine wpAny_pyIter_zip hz' ⟨s1.heap.objs.size+4,[s1.heap.objs.size+4,s1.heap.objs.size+2,s1.heap.objs.size+3,s1.heap.objs.size,s1.heap.objs.size+1],_,Itz X.K zs l,H1,rfl,I1.kept (t':=s1.toks) hk,aYr (t:=t) (aKl ⟨zs.toArray⟩) l (s1.heap.objs.size+4) (s1.heap.objs.size+2) (s1.heap.objs.size+3) s1.heap.objs.size (s1.heap.objs.size+1) (fun l' e=>?_),⟨hz',hTI,⟨_,_,hTO⟩,hit1,hit2⟩,fun b hb=>?_,q _ H1 sm (bGf hq rr)⟩
 ·subst e
  exact aRk hlt
 ·simp only [mem_cons,List.not_mem_nil,or_false] at hb
  rcases hb with rfl | rfl | rfl | rfl | rfl<;>exact I1.fpOk (by simp) (I1.hok.fresh (by simp))
end
end Pu
namespace Pu
open PySem PySem.Spec PyProof.Rows L2
section
variable   {a b:Expr}  {q:Pos}
theorem bGh{ta:TA}(hm:X.mg "range" = none)(ha:PA X [a] ta)(hg:Gl X "range" := by rfl)(hs:starEach [a] X.env=[(false,eval a X.env)]:=by rfl) :
  PE X (.Call (.Name "range" p1) [a] [] q) (fun σ H Q=>ta σ H fun vs H1=>∃ j:Int,vs=[.int j]/\∀ r,H1 r=none->Q (.ref r) (upd H1 r (.rng 0 j))):=by
 intro pins s σ H Q I h
 refine Call_ (aFx I hg hm boot_range (PyProof.Rows.callWith_type1 (thn (ha q pins s σ H _ I h) fun us s1 ⟨vs,H1,I1,r1,j,e,qq⟩=>?_) hs rfl))
 subst e
 cases r1 with
 | cons r rr =>
  cases rr
  obtain ⟨t,rfl⟩:=r
  exact call_range_1 ⟨.ref s1.heap.objs.size,_,I1.laid (a:=s1.heap.objs.size) (o := .rng 0 j) (fun b o e=>Heap.get?_push_of_some _ e) (Nat.le_refl _) ⟨_,_,_,Heap.get?_push_size _ rfl⟩,rfl,qq _ (I1.hok.fresh (Nat.le_refl _))⟩
theorem aNl(hc:X.calm=true):mC X (.type "list") (fun vs H Q=>∃ r,∃ j:Int,vs=[.ref r]/\H r=some (.rng 0 j) /\ -10000000<=j/\j<=10000000/\∀ n,H n=none->Q (.ref n) (upd H n (.lst ((List.range j.toNat).map fun (k:Nat)=>V.int (k:Int))))):=by
 intro pins s σ H vs us Q I r h
 obtain ⟨l,j,rfl,hl,h1,h2,q⟩:=h
 obtain ⟨u,rfl,ru⟩:=r.one
 obtain rfl:u=Value.ref l:=ru
 obtain ⟨t,u,v,ho⟩:=(show ∃ t u v,s.heap.get? l=some { cls := .type "range", data := .fields #[.int 0 t,.int j u,.int 1 v] } from I.hok l _ hl)
 have hn:Builtin.Range.rangeSize 0 j 1=(j.toNat:Nat):=by rw [rangeSize_one];split<;>omega
 refine call_list_range (I.ok.hd hc) ho (small_one (by omega) (by omega) (by omega) (by omega)) hn (by omega) fun h' tk acc c' hk hs hi=>?_
 refine ⟨.ref s.heap.objs.size,_,I.laid (o := .lst ((List.range j.toNat).map fun (k:Nat)=>V.int (k:Int))) (t':=tk) hk (Nat.le_refl _) ⟨?_,acc.toList,c',?_,by simpa using hs⟩,rfl,q _ (I.hok.fresh (Nat.le_refl _))⟩
 ·rw [length_map,length_range,sizeLine_eq];omega
 ·obtain ⟨h3,h4⟩:=hi
  have key:∀ (n:Nat) (xs:List Value),xs.length=n->(∀ (k:Nat) w,xs[k]?=some w->∃ t,w = .int (0+(k:Int) * 1) t)->Vals ((List.range n).map fun (k:Nat)=>V.int (k:Int)) xs:=by
   intro n
   induction n with
   | zero=>intro xs hx _;rw [List.length_eq_zero_iff.mp hx];exact .nil
   | succ n ih =>
    intro xs hx hp
    obtain ⟨ys,y,rfl⟩:∃ ys y,xs=ys++[y]:=by
     rcases List.eq_nil_or_concat xs with e | ⟨ys,y,e⟩
     ·rw [e] at hx;simp at hx
     ·exact ⟨ys,y,by rw [e,List.concat_eq_append]⟩
    have hy:ys.length=n:=by simpa using hx
    rw [List.range_succ,List.map_append]
    refine (ih ys hy fun k w hk=>?_).append (.cons ?_ .nil)
    ·exact hp k w (by rw [List.getElem?_append_left (List.getElem?_eq_some_iff.mp hk).1];exact hk)
    ·obtain ⟨t,e⟩:=hp n y (by rw [List.getElem?_append_right (by omega),hy];simp)
     exact ⟨t,by rw [e];simp⟩
  exact key _ _ (by simpa using h3) fun k w hk=>by
   obtain ⟨t,e⟩:=h4 k w (by simpa using hk)
   exact ⟨t,e⟩
theorem aRm{K:Frag}  (n:Nat):bD K H (pM 0 n) ((List.range n).map fun (k:Nat)=>V.int (k:Int)):=by
 unfold pM
 generalize List.range n=l
 induction l with
 | nil=>exact .nil
 | cons x l ih=>exact .cons (aQ.mpr (by rw [Int.zero_add])) ih
theorem aQ2(hm:X.mg "list" = none)(hr:X.mg "range" = none)(hc:X.calm=true)(ha:PE X a (tP X.K B f))(hg:Gl X "list" := by rfl)(hg2:Gl X "range" := by rfl)(hs:starEach [a] X.env=(false,eval a X.env) :: starEach [] X.env:=by rfl)(hs2:starEach [Expr.Call (.Name "range" p1) [a] [] q] X.env=(false,eval (.Call (.Name "range" p1) [a] [] q) X.env) :: starEach [] X.env:=by rfl) :
  PE X (.Call (.Name "list" p0) [.Call (.Name "range" p1) [a] [] q] [] pos) (tI X.K B (e1 aEj f)):=by
 refine cM (wR (aNl hc) hg hm (by rfl) (dH (bGh hr (dH ha iJ hs) hg2 hs) iJ hs2) (he:=hs2)) ?_
 rintro σ H Q ⟨A,st,d,rs,hd,qq⟩
 obtain ⟨x,hx,h2⟩:=R.ok_of hd
 refine ⟨A,st,x,rs,hx,fun v H1 s1 r1=>?_⟩
 cases x<;>first | (cases h2;done) | skip
 rename_i j
 obtain ⟨c,h3⟩:=aK h2
 cases h3
 rw [jW] at c
 refine ⟨j,by rw [r1.int],fun r hr=>⟨r,j,rfl,bT,by omega,by omega,fun n hn=>?_⟩⟩
 have w1:=rs.own.mono (s1.trans (cG (o := .rng 0 j) hr))
 exact qq _ _ (s1.trans ((cG hr).trans (cG hn))) (gZ w1 hn (aRm _))
theorem bBu(i:Nat)   (hk:PE X a (tI X.K B g)) (hv:PE X b (tI X.K B f)) (hN:X.N.Nodup) (hi:X.N[i]?=some x:=by rfl) (hx:Loc X.env.scope x:=by first | exact Or.inl rfl | exact Or.inr rfl) (hs:swapsWith (.Dict [some a] [b] dp) (some (.Name x pos')) pos.line X.env=pure false:=by rfl)
  (hf:X.fn x=true\/X.env.scope.names.lookup x=some .local:=by first | exact .inl rfl | exact .inr rfl | assumption):PS X (.Assign [.Name x pos'] (.Dict [some a] [b] dp) pos) (tS X.K B (aR9 i g f)):=lX (aFy hN hi hx (aS7 (aOi hk hv aS6) rfl rfl (by simp) (show 1<=15 by omega)) hs hf) (by
 rintro Dn σ H ⟨A,st,r,rs,hr,p⟩
 obtain ⟨k,hk,h2⟩:=R.ok_of hr
 obtain ⟨d,hd,h3⟩:=R.ok_of h2
 obtain ⟨⟨c1,c2⟩,h4⟩:=aK h3
 cases h4
 intro a ha
 refine ⟨A,st,k,rs.mono (cG ha),hk,fun u H1 s1 r1=>⟨A,st,d,(rs.mono (cG ha)).mono s1,hd,fun v H2 s2 r2=>?_⟩⟩
 have e2:H2 a=some (.dK []):=s2 _ _ (s1 _ _ bT)
 obtain ⟨kk,ek,ev⟩:∃ kk:Key,mK kk=k/\u=kV kk:=by
  cases k<;>first | (cases c1;done) | skip
  ·exact ⟨.inl _,rfl,aQ.mp r1⟩
  ·refine ⟨.inr ⟨_⟩,?_,aZ.mp r1⟩
   simp [mK]
 refine ⟨e2,[(kk,v)],by rw [ev];rfl,(show 1<=15 by omega),?_⟩
 let G:Hp:=fun b=>if b=a then none else H2 b
 have sG:bA H G:=fun b o z=>by
  have hb:b≠a:=aX z ha
  show (if b=a then none else H2 b)=_
  rw [if_neg hb]
  exact s2 _ _ (s1 _ _ (by rw [bM hb];exact z))
 have gN:G a=none:=if_pos rfl
 have eG:upd H2 a (.dK (aDj [] [(kk,v)]))=upd G a (.dK [(kk,v)]):=by
  funext b
  by_cases hb:b=a
  ·subst hb;rw [bT,bT];rfl
  ·rw [bM hb,bM hb]
   exact (if_neg hb).symm
 rw [eG]
 exact p (a :: A) _ _ ((Le.of sG).trans (aJe gN)) ((rs.mono sG).setO (kk := .d false [k]) i gN (.inl ⟨rfl,[(kk,v)],rfl,by rw [<-ek];rfl,rfl⟩) (.cons ((aYp c2 r2).mono bBr) .nil)))
end
end Pu
namespace Pu
open PySem PySem.Spec PyProof.Rows L2
theorem bitAnd_nn{i j:Int}(h1:0<=i)(h2:0<=j):Builtin.bitAnd i j=((i.toNat &&& j.toNat:Nat):Int):=by
 unfold Builtin.bitAnd
 rw [decide_eq_true h1,decide_eq_true h2]
theorem aYs{i j:Int}(h1:0<=i)(h2:0<=j):Builtin.bitOr i j=((i.toNat ||| j.toNat:Nat):Int):=by
 unfold Builtin.bitOr Builtin.bitAnd
 have a1:¬ 0<=Builtin.bitNot i:=by unfold Builtin.bitNot;omega
 have a2:¬ 0<=Builtin.bitNot j:=by unfold Builtin.bitNot;omega
 rw [decide_eq_false a1,decide_eq_false a2]
 have e1:Builtin.bitNot (Builtin.bitNot i)=i:=by unfold Builtin.bitNot;omega
 have e2:Builtin.bitNot (Builtin.bitNot j)=j:=by unfold Builtin.bitNot;omega
 show Builtin.bitNot (Builtin.bitNot _)=_
 rw [e1,e2]
 unfold Builtin.bitNot
 omega
section
variable   {a b o:Expr}  
theorem bDj(ha:PE X a (tP X.K B f))(hb:PE X b (tP X.K B g)):PE X (.BinOp a .LShift b pos) (tI X.K B (e2 aUq f g)) :=
 aJc bE5 (aJd (g:=fun i j => .int (i * 2 ^ j.toNat)) (fun _ _ _=>aQ.mpr rfl) fun x y d e=>by
  unfold aUq at e
  split at e
  ·obtain ⟨c,e⟩:=aK e;cases e;exact ⟨_,_,rfl,rfl,c,rfl⟩
  ·cases e) ha hb
theorem bK4(ha:PE X a (tP X.K B f))(hb:PE X b (tP X.K B g)):PE X (.BinOp a .RShift b pos) (tI X.K B (e2 aWt f g)) :=
 aJc bE6 (aJd (g:=fun i j => .int (i / 2 ^ j.toNat)) (fun _ _ _=>aQ.mpr rfl) fun x y d e=>by
  unfold aWt at e
  split at e
  ·obtain ⟨c,e⟩:=aK e;cases e;exact ⟨_,_,rfl,rfl,c,rfl⟩
  ·cases e) ha hb
theorem aYt(ha:PE X a (tP X.K B f))(hb:PE X b (tP X.K B g)):PE X (.BinOp a .BitAnd b pos) (tI X.K B (e2 aUr f g)) :=
 aJc bE7 (yS (g:=fun i j => .int (Builtin.bitAnd i j)) (fun _ _ _=>aQ.mpr rfl) fun x y d e=>by
  unfold aUr at e
  split at e
  ·obtain ⟨c,e⟩:=aK e;cases e;exact ⟨_,_,rfl,rfl,by rw [bitAnd_nn c.1 c.2]⟩
  ·cases e) ha hb
theorem aYu(ha:PE X a (tP X.K B f))(hb:PE X b (tP X.K B g)):PE X (.BinOp a .BitOr b pos) (tI X.K B (e2 dOr f g)) :=
 aJc bHr (yS (g:=fun i j => .int (Builtin.bitOr i j)) (fun _ _ _=>aQ.mpr rfl) fun x y d e=>by
  unfold dOr at e
  split at e
  ·obtain ⟨c,e⟩:=aK e;cases e;exact ⟨_,_,rfl,rfl,by rw [aYs c.1 c.2]⟩
  ·cases e) ha hb
theorem aJt{K:Frag}{H:Hp}:∀ {l:List Int} {vs:List V},bD K H (l.map D.int) vs->vs=l.map V.int
 | [],vs,h=>dG.mp h
 | i :: l,vs,h=>by
  obtain ⟨v,r,rfl,h1,h2⟩:=bU.mp h
  rw [aQ.mp h1,aJt h2];rfl
theorem vals_ints:∀ {l:List Int} {us:List Value},Vals (l.map V.int) us->∀ (j:Nat) (h:j < us.length),∃ i t,l[j]?=some i/\us[j] = .int i t
 | [],us,r,j,h=>by cases r;simp at h
 | i :: l,us,r,j,h=>by
  cases r with
  | cons ra rb =>
   obtain ⟨t,rfl⟩:=ra
   cases j with
   | zero=>exact ⟨i,t,rfl,rfl⟩
   | succ j =>
    obtain ⟨i',t',h1,h2⟩:=vals_ints rb j (by simpa using h)
    exact ⟨i',t',by simpa using h1,by simpa using h2⟩
theorem aVe:MtR X "list.index" (fun x vs H Q=>∃ (p:Addr) (l:List Int) (k:Int) (n:Nat),x=V.ref p/\vs=[.int k]/\SqL X.K H p (l.map V.int)/\l.findIdx? (fun i=>i==k)=some n/\l.length<=10000000/\Q (.int (n:Int)) H):=by
 intro pins s σ H x vs v us Q I rx rv h
 obtain ⟨p,l,k,n,rfl,rfl,hq,hn,hl,q⟩:=h
 obtain ⟨u,rfl,ru⟩:=rv.one
 obtain ⟨t,rfl⟩:=(show ∃ t,u=Value.int k t from ru)
 have ep:v=Value.ref p:=rx
 subst ep
 obtain ⟨its,rr,⟨⟨cls,dd,data,sl⟩,n0,ho,hc,_,hd⟩,hz⟩:=I.list hq
 have hlen:=rr.length
 rw [length_map] at hlen
 obtain ⟨h1,h2,h3⟩:=List.findIdx?_eq_some_iff_getElem.mp hn
 dsimp only at hc hd
 subst hc hd
 have hnu:n < its.length:=by omega
 refine call_meets PySem.F.slot_list_index ⟨_,ho,rfl⟩ PySem.F.entry_list_index (PySem.F.args_list_index_2 _ _) (PySem.SeqAt.list_indexAt p its.toArray n0 dd sl (.int k t) (fun y=>match y with | .int i _=>i==k | _=>false) n (by simpa using hnu) (by omega) ?_ fun m hm hmn=>?_) ⟨ho,fun y hy=>?_,?_⟩
 ·obtain ⟨i,t',e1,e2⟩:=vals_ints rr n hnu
  rw [List.getElem_toArray,e2]
  rw [List.getElem?_eq_getElem h1] at e1
  cases e1
  exact h2
 ·have hm':m < its.length:=by simpa using hm
  obtain ⟨i,t',e1,e2⟩:=vals_ints rr m hm'
  rw [List.getElem_toArray,e2]
  rw [List.getElem?_eq_getElem (by omega)] at e1
  cases e1
  have:=h3 m hmn
  simpa using this
 ·obtain ⟨m,hm,rfl⟩:=List.mem_iff_getElem.mp (show y∈its by simpa using hy)
  obtain ⟨i,t',e1,e2⟩:=vals_ints rr m hm
  rw [e2]
  exact (PySem.MeetsSeq.EqGives.int i k t' t).at _ _
 ·exact ⟨.int (n:Int),H,I.tok _,⟨_,rfl⟩,q⟩
theorem aQ3(ho:PE X o (tP X.K B f))(ha:PA X [e] (tA X.K B r))(hbase:attributeBase o "index" X.env (eval o X.env)=eval o X.env:=by rfl)
  (hfew:((backTo cpos (starEach [e] X.env)).all (fun x => !x.1)&&(backToKw cpos (keywordEach [] X.env)).all (fun x=>x.1.isSome)
   && decide (([e]:List Expr).length+([]:List Keyword).length+(if ([]:List Keyword).isEmpty then 0 else 1) < 30))=true:=by rfl)
  (hline:(apos.endLine==cpos.line)=true:=by rfl) (hs:starEach [e] X.env=(false,eval e X.env) :: starEach [] X.env:=by rfl) :
  PE X (.Call (.Attribute o "index" apos) [e] [] cpos) (tI X.K B (eMt aLa f r)):=by
 refine cM (aS5 PySem.F.plainAttrs_list PySem.F.slot_list_index PySem.F.type_list_index aVe ho ha hbase hfew hline hs rfl) ?_
 rintro σ H Q ⟨A,st,d,rs,hd,k⟩
 obtain ⟨x,hx,h2⟩:=R.ok_of hd
 obtain ⟨xs,hxs,h3⟩:=R.ok_of h2
 unfold aLa at h3
 split at h3
 ·rename_i ys j
  obtain ⟨l,hl,h4⟩:=R.ok_of h3
  obtain ⟨n,hn,h5⟩:=R.ok_of h4
  obtain ⟨c,h6⟩:=aK h5
  cases h6
  have ey:=wV hl
  subst ey
  refine ⟨A,st,_,rs,hx,fun v H1 s1 r1=>?_⟩
  obtain ⟨p,vs,e1,hq,rr⟩:=r1.lst
  have ev:=aJt rr
  subst ev
  refine ⟨by rw [e1];exact .inl ⟨rfl,_,hq⟩,A,st,_,rs.mono s1,hxs,fun ws H2 s2 r2=>?_⟩
  obtain ⟨w,rfl,rw'⟩:=aM0 r2
  rw [jW,length_map] at c
  exact ⟨p,l,j,n,e1,by rw [aQ.mp rw'],s2.seq hq,aBi hn,c,k _ H2 (s1.trans s2) (aQ.mpr rfl)⟩
 ·cases h3
theorem bBv:MtR X "int.bit_length" (fun x vs H Q=>∃ i:Int,x = .int i/\vs=[]/\Q (.int ((Builtin.Int.intBits i:Nat):Int)) H):=by
 intro pins s σ H x vs v us Q I rx rv h
 obtain ⟨i,rfl,rfl,q⟩:=h
 obtain ⟨t,rfl⟩:=(show ∃ t,v=Value.int i t from rx)
 have hus:=rv.zero
 subst hus
 exact call_int_bit_length ⟨.int _,H,I.tok _,⟨_,rfl⟩,q⟩
theorem bBw(i:Int):Builtin.Int.intBits i=aWu i:=by
 unfold Builtin.Int.intBits aWu
 by_cases h:i=0
 ·rw [if_pos h,if_pos (by rw [h];rfl)]
 ·rw [if_neg h,if_neg (by simpa using h)]
theorem bGi(ho:PE X o (tP X.K B f))(hbase:attributeBase o "bit_length" X.env (eval o X.env)=eval o X.env:=by rfl)(hline:(apos.endLine==cpos.line)=true:=by rfl) :
  PE X (.Call (.Attribute o "bit_length" apos) [] [] cpos) (tI X.K B (e1 aSd f)):=by
 refine cM (aR0 PySem.F.plainAttrs_int PySem.F.slot_int_bit_length PySem.F.type_int_bit_length bBv ho hbase hline) ?_
 rintro σ H Q ⟨A,st,d,rs,hd,k⟩
 obtain ⟨x,hx,h2⟩:=R.ok_of hd
 cases x<;>first | (cases h2;done) | skip
 cases h2
 refine ⟨A,st,_,rs,hx,fun v H1 s1 r1=>⟨by rw [r1.int];rfl,_,r1.int,rfl,?_⟩⟩
 rw [bBw]
 exact k _ H1 s1 (aQ.mpr rfl)
end
end Pu
namespace Pu
open PySem PySem.Spec PyProof.Rows L2
section
open PySem.SeqAt
open PySem.AutoSeq1 (wpAny_loadPart')
open PySem.MeetsSeq PySem.MeetsSeq2 PySem.MeetsSeq3
inductive LexW (A:Around) (s:Shared):List Value->List Value->Bool->Prop where
 | nn:LexW A s [] [] true
 | nc {w:Value} {ws:List Value}:LexW A s [] (w :: ws) true
 | cn {v:Value} {vs:List Value}:LexW A s (v :: vs) [] false
 | eq {v w:Value} {vs ws:List Value} {b:Bool}:EqAt A s v w true->LexW A s vs ws b->LexW A s (v :: vs) (w :: ws) b
 | lt {v w:Value} {vs ws:List Value} {b:Bool}:EqAt A s v w false->(∀ (prog:Program) (wd:World) (E Q:Value->Shared->Prop),Q (.bool b) s->wpAny (model prog wd) A (richCompare .LtE v w) Q E s)->LexW A s (v :: vs) (w :: ws) b
end
section
end
end Pu
namespace Pu
open PySem PySem.Spec PyProof.Rows L2
theorem aYv{k:Key}  (h:aGn k u=true):L2.RelV (kV k) u:=by
 rcases fP h with ⟨i,t,rfl,rfl⟩ | ⟨x,t,rfl,rfl⟩
 ·exact ⟨t,rfl⟩
 ·exact ⟨t,rfl⟩
theorem aM8:∀ {kvs:List (Key × V)} {vs:List (Key × Value)} {us:List Value},KV kvs vs->us.length=vs.length->(∀ (j:Nat) (u:Value),us[j]?=some u->∃ k x,vs[j]?=some (k,x)/\aGn k u=true)->Vals (kvs.map fun p=>kV p.1) us
 | [],_,us,r,hl,_=>by
  cases r
  rw [List.length_eq_zero_iff.mp hl]
  exact .nil
 | p :: kvs,_,us,r,hl,h=>by
  cases r with
  | @cons a b as bs h1 t =>
   cases us with
   | nil=>simp at hl
   | cons u us =>
    obtain ⟨k,x,e,hk⟩:=h 0 u rfl
    simp at e
    refine .cons ?_ (aM8 t (by simpa using hl) fun j u hj=>?_)
    ·have:p.1=k:=by rw [h1.1,e]
     show L2.RelV (kV p.1) u
     rw [this]
     exact aYv hk
    ·obtain ⟨k,x,e,hk⟩:=h (j+1) u (by simpa using hj)
     exact ⟨k,x,by simpa using e,hk⟩
section
variable   {a:Expr}  
theorem aYw{kvs:List (Key × V)}{vs:List (Key × Value)}(r:KV kvs vs):vs.length=kvs.length:=by
 unfold KV at r
 induction r with
 | nil=>rfl
 | cons _ _ ih=>simp [ih]
theorem aRn(hc:X.calm=true):mC X (.type "list") (fun vs H Q=>∃ (r:Addr) (kvs:List (Key × V)),vs=[.ref r]/\H r=some (.dK kvs)/\kvs.length<=10000000/\∀ n,H n=none->Q (.ref n) (upd H n (.lst (kvs.map fun p=>kV p.1)))):=by
 intro pins s σ H vs us Q I r h
 obtain ⟨l,kvs,rfl,hl,h1,q⟩:=h
 obtain ⟨u,rfl,ru⟩:=r.one
 obtain rfl:u=Value.ref l:=ru
 obtain ⟨hz,hs,xs,kv,hd⟩:=aOf I.hok hl
 have hlen:=aYw kv
 obtain ⟨ep,hat⟩:=hd.dictAt
 refine PySem.W.kdl_call (PySem.W.kdl_dict (knd:=eX X.prog X.w) hs) (I.ok.hd hc) hat (by rw [sizeLine_eq];omega) fun h' tk acc c' hk hS hi=>?_
 refine ⟨.ref s.heap.objs.size,_,I.laid (o := .lst (kvs.map fun p=>kV p.1)) (t':=tk) hk (Nat.le_refl _) ⟨by rw [length_map];exact hz,acc.toList,c',?_,by simpa using hS⟩,rfl,q _ (I.hok.fresh (Nat.le_refl _))⟩
 obtain ⟨h3,h4⟩:=hi
 exact aM8 kv (by simpa using h3) fun j u hj=>h4 j u (by simpa using hj)
theorem aM9{K:Frag}{H:Hp}:∀ (kvs:List (Key × V)),bD K H (kvs.map fun p=>mK p.1) (kvs.map fun p=>kV p.1)
 | [] => .nil
 | p :: kvs=>by
  refine .cons ?_ (aM9 kvs)
  obtain ⟨k,v⟩:=p
  cases k with
  | inl i=>exact aQ.mpr rfl
  | inr x=>exact aZ.mpr (by simp [kV])
theorem aTt(hm:X.mg "list" = none)(hc:X.calm=true)(ha:PE X a (tI X.K B f))(hg:Gl X "list" := by rfl)(hs:starEach [a] X.env=(false,eval a X.env) :: starEach [] X.env:=by rfl):PE X (.Call (.Name "list" p0) [a] [] pos) (tI X.K B (e1 aAq f)):=by
 refine cM (wR (aRn hc) hg hm (by rfl) (dH ha iJ hs) (he:=hs)) ?_
 rintro σ H Q ⟨A,st,d,rs,hd,q⟩
 obtain ⟨x,hx,h2⟩:=R.ok_of hd
 refine ⟨A,st,x,rs,hx,fun v H1 s1 r1=>?_⟩
 unfold aAq at h2
 split at h2
 ·obtain ⟨c,h3⟩:=aK h2
  cases h3
  obtain ⟨p,vs,rfl,h4,r4⟩:=vH.mp r1
  rcases h4 with ⟨_,kvs,h5,rfl,rfl⟩ | ⟨h5,_⟩
  ·rw [jW,length_map] at c
   exact ⟨p,kvs,rfl,bG _ _ _ _ h5,c,fun n hn=>q _ _ (s1.trans (cG hn)) (gZ (rs.own.mono s1) hn (aM9 kvs))⟩
  ·cases h5
 ·cases h2
end
section
variable    {iter c:Expr}  {t:Tg}  {u:Ex}
end
end Pu
namespace Pu
open PySem PySem.Spec PyProof.Rows L2
section
variable   {a:Expr}  
end
end Pu
namespace Pu
open PySem PySem.Spec PyProof.Rows L2
section
variable   {a b:Expr}   
end
end Pu
namespace Pu
section
open PySem PySem.Spec PyProof.Rows L2
variable   {a b:Expr}  
theorem aFg{K:Frag}:aBg K (rI0 fun i j => .bl (decide (i < j))) aMu:=yS (g:=fun i j => .bl (decide (i < j))) (fun _ _ _=>bF.mpr rfl) fun x y d e=>by
 unfold aMu at e
 split at e
 ·cases e;exact ⟨_,_,rfl,rfl,rfl⟩
 ·cases e
theorem aYx{i j:Int}(c:(-18446744073709551616 < i/\i < 18446744073709551616)\/(-18446744073709551616 < j/\j < 18446744073709551616)):aQs i j:=by
 unfold aQs
 omega
theorem gH(ha:PE X a (tP X.K B f))(hb:PE X b (tP X.K B g)):PE X (.BinOp a .Mult b pos) (tI X.K B (e2 fD f g)):=by
 refine aJc aW6 ?_ ha hb
 intro A H x y d v u Q w rx ry e q
 unfold fD at e
 split at e
 ·obtain ⟨c,e⟩:=aK e
  cases e
  exact ⟨_,_,rx.int,ry.int,aYx c,q _ H (bA.refl _) (aQ.mpr rfl)⟩
 ·cases e
end
end Pu
namespace Pu
open PySem PySem.Spec PyProof.Rows L2
theorem bMh{K:Frag}   {p:Addr}   (s1:bA H H1) (hp:H1 p=none) (s2:bA H1 H') (hv:H' p=some (.lst vs)) (r:bD K (hide (A++p :: B) H') ds vs):∃ G,bA H G/\G p=none/\upd G p (.lst vs)=H'/\bD K (hide (A++B) G) ds vs:=by
 let G:Hp:=fun b=>if b=p then none else H' b
 have gN:G p=none:=if_pos rfl
 refine ⟨G,fun b o z=>?_,gN,?_,r.mono fun b o z=>?_⟩
 ·have hb:b≠p:=aX (s1 _ _ z) hp
  show (if b=p then none else H' b)=_
  rw [if_neg hb]
  exact s2 _ _ (s1 _ _ z)
 ·funext b
  by_cases hb:b=p
  ·subst hb;rw [bT,hv]
  ·rw [bM hb];exact if_neg hb
 ·have hb:b ∉ A++p :: B:=fun w=>by rw [eY w] at z;cases z
  have z1:=bG _ _ _ _ z
  rw [bY fun w=>hb (mem_mid.mpr (.inr w))]
  show (if b=p then none else H' b)=_
  rw [if_neg fun w=>hb (mem_mid.mpr (.inl w))]
  exact z1
section
variable    {iter:Expr}  {t:Tg}  {h:Ex} {rest:List Stmt}  
end
end Pu
namespace Pu
open PySem PySem.Spec PyProof.Rows L2
def aQ4(v d:Addr):HO := .ext fun h=>h.IsItemsView v d
section
variable   {σ:List (Option V)}   
theorem aYy(I:Inv X pins σ H s)(k:∀ b u,s.heap.get? b=some u->h'.get? b=some u)(sm:bA H H')(hn:∀ b,b < s.heap.objs.size->H' b=H b)(new:∀ a o,H a=none->H' a=some o->iI X.prog X.w H' h' a o):Inv X pins σ H' { s with heap:=h',toks:=t' }:=by
 refine I.un ⟨fun b u q _ _ _=>k b u q,fun b u q _ _ _=>⟨u.slots,k b u q⟩,fun b u q n _=>by rw [hn b (Heap.lt_size q)];exact n,fun b u q _=>⟨u,k b u q⟩,fun b xs q=>sm _ _ q,fun b u xs q=>sm _ _ q,fun b ps q=>⟨#[],by rw [sm _ _ q];simp⟩⟩ fun a o e=>?_
 cases hH:H a with
 | none=>exact new a o hH e
 | some u =>
  have z:=sm a u hH
  rw [e] at z
  cases z
  exact (I.hok a _ hH).stay (fun b v _ q=>k b v q) (fun b q=>sm _ _ q) fun b xs q=>sm _ _ q
theorem aYz:MtR X "dict.items" (fun x vs H Q=>∃ (d:Addr) (kvs:List (Key × V)),x = .ref d/\vs=[]/\H d=some (.dK kvs)/\∀ n,H n=none->Q (.ref n) (upd H n (aQ4 n d))):=by
 intro pins s σ H x vs v us Q I rx rv h
 obtain ⟨d,kvs,rfl,rfl,hd,q⟩:=h
 cases rx
 have hus:=rv.zero
 subst hus
 obtain ⟨hz,hs,xs,kv,hD⟩:=aOf I.hok hd
 refine call_meetsIn PySem.F.slot_dict_items hD.typeIs PySem.F.entry_dict_items (PySem.F.args_dict_items_1 _) (meets_dict_items (eX X.prog X.w) d hs) ⟨⟨xs,hD⟩,?_⟩
 have e:(s.heap.push { cls := .type "dict_items", data := .fields #[.ref d] }).get? s.heap.objs.size=some { cls := .type "dict_items", data := .fields #[.ref d] }:=Heap.get?_push_size _ rfl
 exact ⟨.ref s.heap.objs.size,_,I.laid (o:=aQ4 s.heap.objs.size d) (t':=s.toks) (fun b u q=>Heap.get?_push_of_some _ q) (Nat.le_refl _) ⟨⟨_,e,rfl,rfl⟩,⟨_,e⟩,fun h1 h2 ⟨o,ho,hc,hd⟩ k=>⟨o,k o ho,hc,hd⟩⟩,rfl,q _ (I.hok.fresh (Nat.le_refl _))⟩
theorem aRo:∀ {kvs:List (Key × V)} {vs:List (Key × Value)} {j:Nat} {k:Key} {x:Value},KV kvs vs->vs[j]?=some (k,x)->∃ p,kvs[j]?=some p/\p.1=k/\RelV p.2 x
 | _,_,j,k,x,.nil,e=>by simp at e
 | _,_,0,k,x,.cons h _,e=>by
  simp at e
  subst e
  exact ⟨_,rfl,h.1,h.2⟩
 | _,_,j+1,k,x,.cons _ t,e=>by
  obtain ⟨p,e1,e2⟩:=aRo (j:=j) (k:=k) (x:=x) t (by simpa using e)
  exact ⟨p,by simpa using e1,e2⟩
theorem aRp(hc:X.calm=true):mC X (.type "list") (fun vs H Q=>∃ (v d:Addr) (kvs:List (Key × V)),vs=[.ref v]/\H v=some (aQ4 v d)/\H d=some (.dK kvs) /\
  ∀ (n:Addr) (ps:List Addr) (H':Hp),bA H H'->H' n=none->ps.length=kvs.length->(∀ a∈ps,H a=none)->(∀ (j:Nat) (a:Addr),ps[j]?=some a->∃ p,kvs[j]?=some p/\H' a=some (.tup [kV p.1,p.2]))->Q (.ref n) (upd H' n (.lst (ps.map V.ref)))):=by
 intro pins s σ H vs us Q I r h
 obtain ⟨v,d,kvs,rfl,hv,hd,q⟩:=h
 obtain ⟨u,rfl,ru⟩:=r.one
 obtain rfl:u=Value.ref v:=ru
 obtain ⟨hz,hs,xs,kv,hD⟩:=aOf I.hok hd
 have hlen:=aYw kv
 obtain ⟨ep,hat⟩:=hD.dictAt
 obtain ⟨hview,_,_⟩:=I.hok v _ hv
 refine PySem.W.kdx_call (knd:=eX X.prog X.w) (I.ok.hd hc) hview hat (by omega) fun h' tk acc c as hk hS hl hG hacc=>?_
 have nd:as.Nodup:=hG.rise.imp Nat.ne_of_lt
 have lo:∀ a∈as,s.heap.objs.size < a:=hG.above
 have nn:∀ a∈as,H a=none:=fun a ha=>I.hok.fresh (Nat.le_of_lt (lo a ha))
 let G:Hp:=fun b=>if b∈as then (kvs[as.idxOf b]?).map (fun p => .tup [kV p.1,p.2]) else H b
 have sG:bA H G:=fun b o e=>by
  show (if b∈as then _ else H b)=_
  rw [if_neg fun z=>by rw [nn b z] at e;cases e]
  exact e
 have gN:G s.heap.objs.size=none:=by
  show (if _∈as then _ else H _)=_
  rw [if_neg fun z=>Nat.lt_irrefl _ (lo _ z)]
  exact I.hok.fresh (Nat.le_refl _)
 have gA:∀ (j:Nat) (a:Addr),as[j]?=some a->∃ p,kvs[j]?=some p/\G a=some (.tup [kV p.1,p.2]):=fun j a e=>by
  obtain ⟨key,k,x,e1,e2,e3⟩:=hG.pairs j a e
  obtain ⟨p,e4,e5,e6⟩:=aRo kv e1
  refine ⟨p,e4,?_⟩
  show (if a∈as then _ else H a)=_
  rw [if_pos (List.mem_of_getElem? e)]
  obtain ⟨hj,ej⟩:=List.getElem?_eq_some_iff.mp e
  rw [<-ej,nd.idxOf_getElem j hj,e4]
  rfl
 refine ⟨.ref s.heap.objs.size,_,aYy (H':=upd G s.heap.objs.size (.lst (as.map V.ref))) (t':=tk) I hk (sG.trans (cG gN)) (fun b hb=>?_) (fun a o ha e=>?_),rfl,q _ as G sG gN (by rw [hl];exact hlen) nn gA⟩
 ·rw [bM (Nat.ne_of_lt hb)]
  show (if b∈as then _ else H b)=_
  rw [if_neg fun z=>Nat.lt_irrefl _ (Nat.lt_trans hb (lo _ z))]
 ·by_cases hb:a=s.heap.objs.size
  ·subst hb
   rw [bT] at e
   cases e
   refine ⟨by rw [length_map,hl];omega,acc.toList,c,?_,by simpa using hS⟩
   rw [hacc]
   clear hacc hG nd lo nn gA sG gN hl G
   induction as with
   | nil=>exact .nil
   | cons a as ih=>exact .cons rfl ih
  ·rw [bM hb] at e
   have ha':a∈as:=by
    refine Classical.byContradiction fun z=>?_
    have e':(if a∈as then (kvs[as.idxOf a]?).map (fun p=>HO.tup [kV p.1,p.2]) else H a)=some o:=e
    rw [if_neg z,ha] at e'
    cases e'
   obtain ⟨j,hj⟩:=List.mem_iff_getElem?.mp ha'
   obtain ⟨p,e1,e2⟩:=gA j a hj
   obtain ⟨key,k,x,f1,f2,f3⟩:=hG.pairs j a hj
   obtain ⟨p',g1,g2,g3⟩:=aRo kv f1
   rw [e1] at g1
   cases g1
   rw [e2] at e
   cases e
   refine ⟨by rw [sizeLine_eq];show 2<=16777216;decide,[key,x],.cons ?_ (.cons g3 .nil),_,f3,?_⟩
   ·rw [g2]
    exact aYv f2
   ·exact ⟨rfl,_,rfl⟩
theorem aJu{K:Frag}{H:Hp}:∀ (kvs:List (Key × V)) (ds:List D) (ps:List Addr),bD K H ds (kvs.map (·.2))->ps.length=kvs.length->(∀ (j:Nat) (a:Addr),ps[j]?=some a->∃ p,kvs[j]?=some p/\H a=some (.tup [kV p.1,p.2]))->bD K H (List.zipWith (fun k d => .tup [k,d]) (kvs.map fun p=>mK p.1) ds) (ps.map V.ref)
 | [],ds,ps,_,hl,_=>by
  rw [List.length_eq_zero_iff.mp hl]
  exact .nil
 | p :: kvs,[],ps,r,_,_=>by
  have:=r.length
  simp at this
 | p :: kvs,d :: ds,[],_,hl,_=>by simp at hl
 | p :: kvs,d :: ds,a :: ps,r,hl,h=>by
  obtain ⟨v,rest,e,r1,r2⟩:=bU.mp r
  cases e
  obtain ⟨p',e1,e2⟩:=h 0 a rfl
  cases e1
  refine .cons (uN.mpr ⟨a,_,rfl,e2,.cons ?_ (.cons r1 .nil)⟩) (aJu kvs ds ps r2 (by simpa using hl) fun j b hj=>?_)
  ·obtain ⟨k,v⟩:=p
   cases k with
   | inl i=>exact aQ.mpr rfl
   | inr x=>exact aZ.mpr (by simp [kV])
  ·obtain ⟨p',e1,e2⟩:=h (j+1) b (by simpa using hj)
   exact ⟨p',by simpa using e1,e2⟩
end
section
variable{X:Cx}{B:List Addr}{a e:Expr}{es:List Expr}{f:Ex}{pos p0 apos cpos:Pos}{sm:Stmt}{rest:List Stmt}{bd bd':Bd}{r:Exs}
theorem bBx(hm:X.mg "list" = none)(hc:X.calm=true)(ha:PE X a (tI X.K B f))(hg:Gl X "list" := by rfl)(hbase:attributeBase a "items" X.env (eval a X.env)=eval a X.env:=by rfl)(hline:(apos.endLine==cpos.line)=true:=by rfl)
  (hs:starEach [.Call (.Attribute a "items" apos) [] [] cpos] X.env=(false,eval (.Call (.Attribute a "items" apos) [] [] cpos) X.env) :: starEach [] X.env:=by rfl):PE X (.Call (.Name "list" p0) [.Call (.Attribute a "items" apos) [] [] cpos] [] pos) (tF X.K B (e1 aG4 f)):=by
 refine cM (wR (aRp hc) hg hm (by rfl) (dH (aR0 PySem.F.plainAttrs_dict PySem.F.slot_dict_items PySem.F.type_dict_items aYz ha hbase hline) iJ hs) (he:=hs)) ?_
 rintro σ H Q ⟨A,st,ds,rs,hd,q⟩
 obtain ⟨x,hx,h2⟩:=R.ok_of hd
 refine ⟨A,st,x,rs,hx,fun v H1 s1 r1=>?_⟩
 unfold aG4 at h2
 split at h2
 ·obtain ⟨c,h3⟩:=aK h2
  cases h3
  obtain ⟨p,vs,rfl,h4,r4⟩:=vH.mp r1
  rcases h4 with ⟨_,kvs,h5,rfl,rfl⟩ | ⟨h5,_⟩
  ·have h6:=bG _ _ _ _ h5
   refine ⟨.inr (.inr (.inl ⟨rfl,.inl ⟨kvs,h6⟩⟩)),p,kvs,rfl,rfl,h6,fun n hn=>⟨n,p,kvs,rfl,bT,by rw [bM (aX h6 hn)];exact h6,fun m ps H' s2 hm' hl hps hp=>?_⟩⟩
   have s3:=(cG (o:=aQ4 n p) hn).trans s2
   refine q m _ H' (s1.trans s3) hm' (aJu kvs _ ps (r4.mono (bA.hide s3)) hl fun j b hj=>?_)
   obtain ⟨p',e1,e2⟩:=hp j b hj
   have hb:=hps b (List.mem_of_getElem? hj)
   exact ⟨p',e1,by rw [bY ((rs.own.mono (s1.trans (cG (o:=aQ4 n p) hn))).free hb)];exact e2⟩
  ·cases h5
 ·cases h2
def tSR(K:Frag)(B:List Addr)(b:Bd)(f:Ex):TS:=fun Dn σ H=>∃ A st st' xs,RS K B A H st σ/\b st = .ok (.nx st')/\f st' = .ok (.lst xs)/\∀ A' a vs H',Le A H A' H'->a∈A'->H' a=some (.lst vs)->bD K (hide (A'++B) H') xs vs->Dn.rt (.ref a) H'
theorem aTu(h1:PS X sm (tS X.K B bd))(h2:PSs X rest (tSR X.K B bd' f)):PSs X (sm :: rest) (tSR X.K B (aU bd bd') f):=aCf (aIg h1 h2) (by
 rintro Dn σ H ⟨A,st,st',xs,rs,hb,hi,q⟩
 unfold aU aG2 at hb
 obtain ⟨fl,hfl,h3⟩:=R.ok_of hb
 refine ⟨A,st,fl,rs,hfl,?_⟩
 cases fl with
 | nx s1=>exact fun A' σ' H' l rs'=>⟨A',s1,st',xs,rs',h3,hi,fun A2 a vs H2 l2=>q A2 a vs H2 (l.trans l2)⟩
 | rt d=>cases h3
 | bk s1=>cases h3
 | ct s1=>cases h3)
theorem aZ0(he:PE X e (tF X.K B f)):PSs X [.Return (some e) pos] (tSR X.K B cY f):=aCf (aMh (aQp he)) (by
 rintro Dn σ H ⟨A,st,st',xs,rs,hb,hf,q⟩
 cases hb
 exact ⟨A,st,xs,rs,hf,fun p vs H' s hp r=>q (p :: A) p vs (upd H' p (.lst vs)) ((Le.of s).trans (aJe hp)) mem_cons_self bT (r.mono (aFb hp))⟩)
end
section
variable   {K:Frag}    {st:Stmt}  {f:Addr}   {k:Nat}
theorem bK5(F:FunD K x qual st dV f fd)(S:FnScope N ps (aF st))(np n:Nat)(bd:Bd)(g:Ex)(hnp:ps.length=np)(hn:N.length=n)
  (hb:∀ (cdv:Value) (A:Around) (outer:List Env) (s:Shared) (H:Hp) (E:XK) (B:List Addr),Room k (A.deeper (envOfC qual (aF st) s.heap.objs.size f cdv)) ->
   PSs (aIk CX0 P w K mg base N qual (aF st) f cdv A outer s H E).nox (cA st) (tSR K B bd g)):FnOk P w K mg base CX0 (k+1) f fd ps (spF K np (cF np n (aCv bd g))):=by
 refine F.okX S (fun vs H Q E h=>?_) (fun cdv A outer s H vs Q E hr h=>?_)
 ·obtain ⟨A,ds,d,own,r,hl,_⟩:=h
  rw [r.length,hl,hnp]
 ·obtain ⟨B,ds,xs,own,r,hl,hp,q⟩:=h
  refine ⟨tSR K B bd g,hb cdv A outer s H E B hr,?_⟩
  obtain ⟨_,h2⟩:=aK hp
  obtain ⟨fl,hfl,h3⟩:=R.ok_of h2
  have rs:=aJi (N:=N) own r
  rw [hl,hn] at rs
  unfold aCv at hfl
  split at hfl
  ·rename_i s1 hf1
   obtain ⟨d,hd,h4⟩:=R.ok_of hfl
   split at h4
   ·cases h4
    cases h3
    refine ⟨[],_,s1,_,rs,hf1,hd,fun A' a vs' H' l ha hv rv=>?_⟩
    have sm:bA H H':=by
     unfold Le at l
     rw [xH] at l
     exact l.trans (bG _ _)
    refine q a vs' H' sm ?_ hv (rv.mono (lJ fun b hb=>?_))
    ·cases hH:H a with
     | none=>rfl
     | some o =>
      have z:=l a o (by rw [xH];exact hH)
      rw [eY ha] at z;cases z
    ·rcases List.mem_cons.mp hb with rfl | hb
     ·exact List.mem_append_left _ ha
     ·exact List.mem_append_right _ hb
   ·cases h4
  ·cases hfl
theorem aVf(ds:List D)(d:D)(h:cF np n (aCv bd g) ds = .ok d):∃ xs,d = .lst xs:=by
 obtain ⟨_,h2⟩:=aK h
 obtain ⟨fl,hfl,h3⟩:=R.ok_of h2
 unfold aCv at hfl
 split at hfl
 ·obtain ⟨d,hd,h4⟩:=R.ok_of hfl
  split at h4
  ·cases h4;cases h3;exact ⟨_,rfl⟩
  ·cases h4
 ·cases hfl
end
structure DefOkF(P:Program)(w:World)(K:Frag)(mg:Str->Option Value)(base:Heap)(x:Str)(k np:Nat)(p:List D->R D):Prop where
 ex:∃ (fa:Addr) (fd:FuncData) (ps:List Str),FnOk P w K mg base CX0 k fa fd ps (spF K np p)/\mg x=some (.ref fa)/\keepIn K (.ref fa)=true/\Binds K fd ps []
 len:∀ ds d,p ds = .ok d->ds.length=np
 lst:∀ ds d,p ds = .ok d->∃ xs,d = .lst xs
theorem DefOkF.of{K:Frag}    {k:Nat}      (h:FnOk P w K mg base CX0 k fa fd ps (spF K np (cF np n (aCv bd g)))) (m:mg x=some (.ref fa))
  (kp:keepIn K (.ref fa)=true) (b:Binds K fd ps []):DefOkF P w K mg base x k np (cF np n (aCv bd g)):=⟨⟨fa,fd,ps,h,m,kp,b⟩,xK,aVf⟩
theorem DefOkF.plain{K:Frag}    {k:Nat}  (h:DefOkF P w K mg base x k np p):DefOk P w K mg base x k np p:=by
 obtain ⟨fa,fd,ps,F,m,kp,bd⟩:=h.ex
 exact ⟨⟨fa,fd,ps,aM5 h.lst F,m,kp,bd⟩,h.len⟩
section
theorem bBy{k:Nat}  (h:DefOkF X.prog X.w X.K X.mg X.base x k np p) (hr:Room j X.A) (hk:k<=j) (ha:PA X (e :: es) (tA X.K B r)) (hg:Gl X x:=by rfl) (hdb:(x==("__debug__" : Str))=false:=by decide)
  (he:starEach (e :: es) X.env=(false,eval e X.env) :: starEach es X.env:=by rfl) (hpl:(backTo pos (starEach es X.env)).any (·.1)=false:=by rfl):PE X (.Call (.Name x p0) (e :: es) [] pos) (tF X.K B (aP p r)):=by
 obtain ⟨fa,fd,ps,F,m,kp,bd⟩:=h.ex
 refine cM (aMm F (hr.mono hk) hg m kp bd .nil aEa ha hdb he hpl) ?_
 rintro σ H Q ⟨A,st,d,rs,hd,q⟩
 obtain ⟨xs,hx,h2⟩:=R.ok_of hd
 refine ⟨A,st,xs,rs,hx,fun vs H1 s1 r1=>?_⟩
 show spF X.K np p (vs++[]) H1 Q E0
 rw [append_nil]
 refine ⟨A++B,xs,d,rs.own.mono s1,r1,h.len _ _ h2,h2,fun a ws H' s' ha' hv rv=>?_⟩
 have e0:upd (hide [a] H') a (.lst ws)=H':=by
  funext b
  by_cases hb:b=a
  ·subst hb;rw [bT];exact hv.symm
  ·rw [bM hb,bY (by simpa using hb)]
 have z:=q a ws (hide [a] H') (fun b u hz=>?_) (eY (by simp)) ?_
 ·rw [e0] at z;exact z
 ·have hz2:=s1 _ _ hz
  rw [bY (by simpa using aX hz2 ha')]
  exact s' _ _ hz2
 ·refine rv.mono fun b u hz=>?_
  have hb:b ∉ a :: (A++B):=fun y=>by rw [eY y] at hz;cases hz
  rw [bY fun y=>hb (mem_cons_of_mem _ y),bY (by simpa using fun y=>hb (by rw [y];exact mem_cons_self))]
  exact bG _ _ _ _ hz
end
section
end
end Pu
namespace Pu
open PySem PySem.Spec PyProof.Rows L2 PySem.Calls Builtin Builtin.ObjectAttr
section
variable   {A:Around}  {R:Result->Shared->Prop}  {K:Frag} {x dx:Addr} {mA:Str->Option Value}  {v:Value} {ox:Obj}
end
section
variable   {A:Around}  {hp:Heap} {gs:Array GenState} {dn:Drawn} {tn:Nat} {os:OsState}
variable{n0 q:Str}{N:Addr}{l0 l1 l2:List Value}{z0:Bool}{l3:List Str}{l4:List Value}{z1:Bool}{z2:Option Bool}{z3:Option Addr}{k0 k1 k2 k3 k5:Option Value}{B initId:String}
end
section
variable   {σ:List (Option V)}    {x dx:Addr}
end
section
variable   {o value:Expr} {f:Str}  {ta tv:TE}
end
section
end
section
variable   {K:Frag}    {st:Stmt}  {f:Addr}   {k:Nat}
end
section
end
end Pu
namespace Pu
open PySem PySem.Spec PyProof.Rows L2
structure DA(K:Frag)(n:Str)(st:Stmt):Prop where
 ex:∃ (f:Addr) (fd:FuncData),nsIn K mainGlobals n=some (some (.ref f))/\FunD K n n st .none f fd
section
variable{P:Program}{w:World}{K:Frag}{h base:Heap}{mg:Str->Option Value}{n:Str}{st:Stmt}{f:Addr}{ps:List Str}{k np m:Nat}{p:List D->R D}{bd:Bd}{g:Ex}
theorem cT{od an:Option Addr}  {kV doc pm cdv ct:Value} (a:nsIn K mainGlobals n=some (some (.ref f))) (l:K.lookup f=some ⟨oc,od,.func (fnOf n n (cP st) (cA st) (aF st) .none kV doc pm an cdv ct),osl⟩)
  (c:codeIn K cdv n=true) (k:keepIn K (.ref f)=true):DA K n st:=⟨⟨f,_,a,fH l c k⟩⟩
structure Ct(P:Program)(w:World)(K:Frag)(mg:Str->Option Value)(base h:Heap):Prop where
 X:K.In h
 G:h.Ns mainGlobals mg
def Bn(n:Str)(st:Stmt)(ps:List Str):Prop:=∀ (kV doc pm:Value) (an:Option Addr) (cdv ct:Value) (us:List Value),us.length=ps.length->bindArgs (fnOf n n (cP st) (cA st) (aF st) .none kV doc pm an cdv ct) ⟨us,[]⟩=pure (ps.zip us)
theorem DA.use(D:DA K n st)(C:Ct P w K mg base h)(b:Bn n st ps):∃ (f:Addr) (fd:FuncData),FunD K n n st .none f fd/\mg n=some (.ref f)/\Binds K fd ps []:=by
 obtain ⟨f,fd,a,F⟩:=D.ex
 exact ⟨f,fd,F,mg_of C.X C.G a,F.binds0 b⟩
theorem DA.ok(D:DA K n st)(C:Ct P w K mg base h)(r:∀ {f:Addr} {fd:FuncData},FunD K n n st .none f fd->FnOk P w K mg base CX0 k f fd ps (spI K np (cF np m bd)))(b:Bn n st ps):DefOk P w K mg base n k np (cF np m bd):=by
 obtain ⟨f,fd,F,a,z⟩:=D.use C b
 exact .of (r F) a F.kp z xK
theorem DA.okF(D:DA K n st)(C:Ct P w K mg base h)(r:∀ {f:Addr} {fd:FuncData},FunD K n n st .none f fd->FnOk P w K mg base CX0 k f fd ps (spF K np (cF np m (aCv bd g))))(b:Bn n st ps):DefOkF P w K mg base n k np (cF np m (aCv bd g)):=by
 obtain ⟨f,fd,F,a,z⟩:=D.use C b
 exact .of (r F) a F.kp z
end
end Pu
namespace Pu
open PySem
structure TI(b:Bool)(t:SetTable):Prop where
 rise:t.place.toList.Pairwise (· < ·)
 dum:t.dummies = #[]
 led:t.led=b
theorem aJv(xs:Array Nat)(j:Nat)(hr:xs.toList.Pairwise (· < ·)):∀ (fuel lo hi:Nat),hi - lo<=fuel->lo<=hi->hi<=xs.size->(∀ (i:Nat) (a:Nat),i < lo->xs[i]?=some a->a < j)->(∀ (i:Nat) (a:Nat),hi<=i->xs[i]?=some a->j<=a) ->
  (∀ (i:Nat) (a:Nat),i < SetTable.below.go xs j fuel lo hi->xs[i]?=some a->a < j)/\(∀ (i:Nat) (a:Nat),SetTable.below.go xs j fuel lo hi<=i->xs[i]?=some a->j<=a)/\SetTable.below.go xs j fuel lo hi<=xs.size
 | 0,lo,hi,hf,hl,hs,h1,h2=>by
  have e:lo=hi:=by omega
  subst e
  exact ⟨h1,h2,hs⟩
 | fuel+1,lo,hi,hf,hl,hs,h1,h2=>by
  unfold SetTable.below.go
  have up:∀ (i k:Nat) (a b:Nat),i < k->xs[i]?=some a->xs[k]?=some b->a < b:=fun i k a b hik ha hb=>by
   rw [<-getElem?_toList] at ha hb
   obtain ⟨hi',ei⟩:=List.getElem?_eq_some_iff.mp ha
   obtain ⟨hk',ek⟩:=List.getElem?_eq_some_iff.mp hb
   have:=List.pairwise_iff_getElem.mp hr i k hi' hk' hik
   rw [ei,ek] at this
   exact this
  by_cases hlt:lo < hi
  ·rw [if_pos hlt]
   have hm:(lo+hi) / 2 < xs.size:=by omega
   have hx:xs[(lo+hi) / 2]?=some xs[(lo+hi) / 2]:=Array.getElem?_eq_getElem hm
   have hg:xs.getD ((lo+hi) / 2) j=xs[(lo+hi) / 2]:=by rw [getD_eq_getD_getElem?,hx];rfl
   dsimp only
   rw [hg]
   by_cases hc:xs[(lo+hi) / 2] < j
   ·rw [if_pos hc]
    refine aJv xs j hr fuel _ _ (by omega) (by omega) hs (fun i a hi' ha=>?_) h2
    by_cases he:i=(lo+hi) / 2
    ·subst he;rw [hx] at ha;cases ha;exact hc
    ·exact Nat.lt_trans (up i _ a _ (by omega) ha hx) hc
   ·rw [if_neg hc]
    refine aJv xs j hr fuel _ _ (by omega) (by omega) (by omega) h1 fun i a hi' ha=>?_
    by_cases he:i=(lo+hi) / 2
    ·subst he;rw [hx] at ha;cases ha;omega
    ·have:=up _ i _ a (by omega) hx ha;omega
  ·rw [if_neg hlt]
   have e:lo=hi:=by omega
   subst e
   exact ⟨h1,h2,hs⟩
theorem aJw(xs:Array Nat)(j:Nat)(hr:xs.toList.Pairwise (· < ·)):(∀ (i:Nat) (a:Nat),i < SetTable.below xs j->xs[i]?=some a->a < j)/\(∀ (i:Nat) (a:Nat),SetTable.below xs j<=i->xs[i]?=some a->j<=a)/\SetTable.below xs j<=xs.size :=
 aJv xs j hr xs.size 0 xs.size (by omega) (zero_le _) (Nat.le_refl _) (fun i a h=>absurd h (not_lt_zero _)) fun i a h ha=>by
  have:=(Array.getElem?_eq_some_iff.mp ha).1
  omega
theorem aQ5(xs:Array Nat)(j:Nat)(hr:xs.toList.Pairwise (· < ·))(hn:xs[SetTable.below xs j]?≠some j):(SetTable.insertAt xs (SetTable.below xs j) j).toList.Pairwise (· < ·):=by
 obtain ⟨h1,h2,h3⟩:=aJw xs j hr
 have e:(SetTable.insertAt xs (SetTable.below xs j) j).toList=xs.toList.take (SetTable.below xs j)++j :: xs.toList.drop (SetTable.below xs j):=by
  unfold SetTable.insertAt
  simp only [Array.toList_append,toList_push,Array.toList_extract]
  simp [List.extract_eq_drop_take,List.append_assoc]
  rw [take_of_length_le (by simp)]
 rw [e,List.pairwise_append]
 have ge:∀ a∈xs.toList.drop (SetTable.below xs j),j < a:=fun a ha=>by
  obtain ⟨k,hk⟩:=List.mem_iff_getElem?.mp ha
  rw [List.getElem?_drop,getElem?_toList] at hk
  have:=h2 _ a (le_add_right _ _) hk
  rcases Nat.lt_or_eq_of_le this with h | h
  ·exact h
  ·subst h
   exfalso
   have hb:SetTable.below xs j < xs.size:=by have:=(Array.getElem?_eq_some_iff.mp hk).1;omega
   have hx:xs[SetTable.below xs j]?=some xs[SetTable.below xs j]:=Array.getElem?_eq_getElem hb
   have g1:=h2 _ _ (Nat.le_refl _) hx
   by_cases hz:k=0
   ·subst hz
    rw [Nat.add_zero] at hk
    exact hn hk
   ·have hk':=(Array.getElem?_eq_some_iff.mp hk)
    have:=List.pairwise_iff_getElem.mp hr (SetTable.below xs j) (SetTable.below xs j+k) (by simpa using hb) (by simpa using hk'.1) (by omega)
    rw [Array.getElem_toList,Array.getElem_toList,hk'.2] at this
    omega
 refine ⟨hr.sublist (List.take_sublist _ _),List.pairwise_cons.mpr ⟨ge,hr.sublist (List.drop_sublist _ _)⟩,fun a ha b hb=>?_⟩
 have la:a < j:=by
  obtain ⟨k,hk⟩:=List.mem_iff_getElem?.mp ha
  rw [List.getElem?_take] at hk
  split at hk
  ·rename_i hlt
   rw [getElem?_toList] at hk
   exact h1 k a hlt hk
  ·cases hk
 rcases List.mem_cons.mp hb with rfl | hb
 ·exact la
 ·exact Nat.lt_trans la (ge b hb)
theorem aTv(j:Nat):SetTable.has #[] j=false:=rfl
theorem aQ6(t:SetTable)(hashAt:Nat->Int)(h:Int)(hd:t.dummies = #[]):∀ (fuel:Nat) (p:SetTable.Probe) (j:Nat) (d:Option Nat),SetTable.probe.go t hashAt h fuel p=some (.empty j d)->t.slot j = .empty/\d=p.dummy
 | 0,p,j,d,e=>by cases e
 | fuel+1,p,j,d,e=>by
  unfold SetTable.probe.go at e
  cases hs:t.slot p.j with
  | empty=>rw [hs] at e;cases e;exact ⟨hs,rfl⟩
  | dummy =>
   exfalso
   unfold SetTable.slot at hs
   dsimp only at hs
   split at hs
   ·cases hs
   ·rw [hd,aTv] at hs
    cases hs
  | live i =>
   rw [hs] at e
   dsimp only at e
   have adv:(t.advance p).dummy=p.dummy:=by
    unfold SetTable.advance
    split<;>rfl
   split at e
   ·cases e
   ·obtain ⟨a,b⟩:=aQ6 t hashAt h hd fuel _ j d e
    exact ⟨a,b.trans adv⟩
theorem aVg{t:SetTable}{h:Int}  {w:Bool} (hd:t.dummies = #[]) (e:t.freeSlot h=some (j,w)):t.slot j = .empty:=by
 unfold SetTable.freeSlot at e
 split at e
 ·rename_i j' d hp
  obtain ⟨a,b⟩:=aQ6 t _ h hd _ _ _ _ hp
  have:d=none:=b
  subst this
  cases e
  exact a
 ·cases e
theorem aVh{t:SetTable}  (h:t.slot j = .empty):t.place[SetTable.below t.place j]?≠some j:=fun e=>by
 unfold SetTable.slot at h
 dsimp only at h
 rw [if_pos (by rw [e];exact beq_self_eq_true _)] at h
 cases h
theorem TI.put{b:Bool}{t:SetTable}{j:Nat}(x:TI b t)(h:t.slot j = .empty):TI b (t.put j).1:=by
 refine ⟨aQ5 t.place j x.rise (aVh h),?_,x.led⟩
 show (if SetTable.has t.dummies j then _ else t.dummies)=_
 rw [x.dum,aTv]
 rfl
theorem aRq(n:Nat):(Array.range n).toList.Pairwise (· < ·):=by
 rw [Array.toList_range]
 exact List.pairwise_lt_range
theorem TI.stand{t:SetTable}(x:TI b t)(n:Nat):TI b (t.standIn n):=⟨aRq n,rfl,x.led⟩
theorem TI.orStand{t:SetTable}(x:TI b t)(n:Nat):TI b (t.orStandIn n):=by
 unfold SetTable.orStandIn
 split
 ·exact x
 ·exact x.stand n
theorem TI.lay{t:SetTable}(x:TI b t)(es:Array (Int × Value))(h:Int)(v:Value):TI b (layNew t es h v).2.1:=by
 unfold layNew
 split
 ·rename_i j w e
  exact (x.put (aVg x.dum e)).orStand _
 ·exact x.stand _
theorem TI.relay{t:SetTable}(x:TI b t)(es:Array (Int × Value))(n:Nat):TI b (relayAll t es n).2.1:=by
 unfold relayAll
 split
 ·rename_i t' order e
  have y:TI b t':=by
   unfold SetTable.relaid SetTable.laid at e
   obtain ⟨owner,_,e2⟩:=Option.bind_eq_some_iff.mp e
   cases e2
   refine ⟨?_,rfl,x.led⟩
   show ((List.map (fun x:Nat × Nat=>x.1) (List.filterMap (fun j=>Option.map (fun x=>(j,x)) (owner.getD j Option.none)) (List.range (SetTable.sizeAbove n - 1+1)))).toArray).toList.Pairwise (· < ·)
   rw [List.toList_toArray,List.map_filterMap]
   refine (List.pairwise_lt_range (n:=_)).filterMap _ fun a a' haa c hc c' hc' => ?_
   have h1:c=a:=by
    cases ho:(owner.getD a none) with
    | none=>rw [ho] at hc;cases hc
    | some k=>rw [ho] at hc;cases hc;rfl
   have h2:c'=a':=by
    cases ho:(owner.getD a' none) with
    | none=>rw [ho] at hc';cases hc'
    | some k=>rw [ho] at hc';cases hc';rfl
   rw [h1,h2]
   exact haa
  dsimp only
  split
  ·exact y
  ·exact x.stand _
 ·exact x.stand _
theorem TI.fresh(b:Bool):TI b (.fresh 0 0 b):=⟨List.Pairwise.nil,rfl,rfl⟩
end Pu
namespace Pu
open PySem
theorem aQ7(t:SetTable)(es:Array (Int × Value))(h:Int)(v:Value):(layNew t es h v).1.toList.Perm (es.toList++[(h,v)]):=by
 have p:=layNew_perm t es h v
 rw [toList_push] at p
 exact p
def numOf:Value->Int
 | .int n _=>n
 | _=>0
def aVi(e:Int × Value):Prop:=∃ (n:Int) (t:Tok),e=(hashInt n,.int n t)
structure SetIs(b:Bool)(a:Addr)(ns:List Int)(es:Array (Int × Value))(ep:Nat)(t:SetTable)(h:Heap):Prop where
 obj:h.get? a=some { cls := .type "set", dict:=none,data := .set es ep t,slots := #[] }
 fit:t.fits es.size=true
 ti:TI b t
 perm:(es.toList.map fun e=>numOf e.2).Perm ns
 nums:∀ e∈es.toList,aVi e
theorem SetIs.keep{es:Array (Int × Value)}  {t:SetTable}  (x:SetIs b a ns es ep t h) (k:∀ o,h.get? a=some o->h'.get? a=some o):SetIs b a ns es ep t h' :=
 ⟨k _ x.obj,x.fit,x.ti,x.perm,x.nums⟩
theorem SetIs.size{b:Bool}{a:Addr}{ns:List Int}{es:Array (Int × Value)}{ep:Nat}{t:SetTable}{h:Heap}(x:SetIs b a ns es ep t h):es.size=ns.length:=by
 have:=x.perm.length_eq
 simpa using this
theorem SetIs.put{ns':List Int}{es es':Array (Int × Value)}  {t t':SetTable}  (x:SetIs b a ns es ep t h) (fit:t'.fits es'.size=true) (ti:TI b t') (perm:(es'.toList.map fun e=>numOf e.2).Perm ns') (nums:∀ e∈es'.toList,aVi e) :
  SetIs b a ns' es' (ep+1) t' (h.update a (Obj.putSet es' t')):=by
 refine ⟨?_,fit,ti,perm,nums⟩
 rw [Heap.get?_update_self (Obj.putSet es' t') x.obj rfl]
 rfl
def aNm(ns:List Int)(k:Int):List Int:=if ns.any (· == k) then ns else ns++[k]
theorem bBz(ns:List Int)(k:Int):(aNm ns k).length<=ns.length+1:=by
 unfold aNm
 split
 ·exact le_succ _
 ·simp
section
variable   {A:Around}  
theorem bC0{es:List (Int × Value)}(nums:∀ e∈es,aVi e):ElemsOf (intKind prog w) es:=fun e he=>by
 obtain ⟨n,t,rfl⟩:=nums e he
 exact ⟨⟨n,intKind_is prog w n t,rfl⟩,rfl⟩
theorem bC1{es:List (Int × Value)}  (nums:∀ e∈es,aVi e) (perm:(es.map fun e=>numOf e.2).Perm ns) (k:Int):(es.findIdx? (fun e=>(intKind prog w).is k e.2)).isSome=ns.any (· == k):=by
 rw [List.findIdx?_isSome,Bool.eq_iff_iff,List.any_eq_true,List.any_eq_true]
 constructor
 ·rintro ⟨e,he,hp⟩
  obtain ⟨n,t,rfl⟩:=nums e he
  have en:n=k:=(intKind prog w).inj _ n k (intKind_is prog w n t) hp
  exact ⟨n,perm.mem_iff.mp (List.mem_map.mpr ⟨_,he,rfl⟩),beq_iff_eq.mpr en⟩
 ·rintro ⟨n,hn,hp⟩
  obtain ⟨e,he,hv⟩:=List.mem_map.mp (perm.mem_iff.mpr hn)
  obtain ⟨n',t,rfl⟩:=nums e he
  have e1:n'=n:=hv
  have e2:n=k:=beq_iff_eq.mp hp
  refine ⟨_,he,?_⟩
  rw [<-e2,<-e1]
  exact intKind_is prog w n' t
theorem aNn{Q:Unit->Shared->Prop}(c:Bool)(q:Q () s):wpAny (model prog w) A (match c with | true=>rule "set.scan.the-table-gave-way" | false=>pure ()) Q E s:=by
 cases c with
 | true=>exact wpAny_rule q
 | false=>exact wpAny_pure q
theorem store_ok{ns':List Int}{es es':Array (Int × Value)}{ep:Nat}{t t':SetTable}{d:Bool}{R:Option Bool->Shared->Prop}{g:Bool->Sem Unit}
  (hg:∀ (c:Bool) (s₁:Shared) (Q:Unit->Shared->Prop),Q () s₁->wpAny (model prog w) A (g c) Q E s₁) (x:SetIs b a ns es ep t s.heap)
  (few:es'.size < scanBound) (fit:t'.fits es'.size=true) (ti:TI b t') (perm:(es'.toList.map fun e=>numOf e.2).Perm ns') (nums:∀ e∈es'.toList,aVi e)
  (r:∀ (h':Heap) (es:Array (Int × Value)) (ep:Nat) (t:SetTable),Heap.SameBut a s.heap h'->SetIs b a ns' es ep t h'->R (some true) { s with heap:=h' }) :
  wpAny (model prog w) A (storeSet a es' t' >>= fun _=>if (!d&&t'.tooFull)=true then g (relayAll t' es' (SetTable.grown es'.size)).2.2 >>= fun _=>storeSet a (relayAll t' es' (SetTable.grown es'.size)).1 (relayAll t' es' (SetTable.grown es'.size)).2.1 >>= fun _=>pure (some true) else pure (some true)) R E s:=by
 have y:=x.put fit ti perm nums
 have o1:=Heap.SameBut.update s.heap a (Obj.putSet es' t')
 refine wpAny_bind (wpAny_storeSet_of x.obj rfl ?_ (fits_of_scanBound few))
 by_cases hc:(!d&&t'.tooFull)=true
 ·rw [if_pos hc]
  have p:=relayAll_perm t' es' (SetTable.grown es'.size)
  have sz:(relayAll t' es' (SetTable.grown es'.size)).1.size=es'.size:=by simpa using p.length_eq
  have z:=y.put (relayAll_fits t' es' (SetTable.grown es'.size)) (ti.relay es' _) ((p.map _).trans perm) fun e he=>nums e (p.mem_iff.mp he)
  exact wpAny_bind (hg _ _ _ (wpAny_bind (wpAny_storeSet_of y.obj rfl (wpAny_pure (r _ _ _ _ (o1.trans (Heap.SameBut.update _ a _)) z)) (fits_of_scanBound (by rw [sz];exact few)))))
 ·rw [if_neg hc]
  exact wpAny_pure (r _ _ _ _ o1 y)
theorem bGj{es:Array (Int × Value)}{ep:Nat}{t:SetTable}{k:Int}{tk:Tok}{Q:Bool->Shared->Prop}(x:SetIs b a ns es ep t s.heap)(few:ns.length+1 < scanBound)
  (q:∀ (c:Bool) (h':Heap) (es:Array (Int × Value)) (ep:Nat) (t:SetTable),Heap.SameBut a s.heap h'->SetIs b a (aNm ns k) es ep t h'->Q c { s with heap:=h' }) :
  wpAny (model prog w) A (setAddHashed a (.int k tk) (hashInt k)) Q E s:=by
 have el:ElemsOf (intKind prog w) es.toList:=bC0 x.nums
 have fz:es.size < scanBound:=by rw [x.size];omega
 have fk:=bC1 (prog:=prog) (w:=w) x.nums x.perm k
 have nadd:∀ e∈(layNew t es (hashInt k) (.int k tk)).1.toList,aVi e:=fun e he=>by
  rcases List.mem_append.mp ((aQ7 t es _ _).mem_iff.mp he) with he | he
  ·exact x.nums e he
  ·exact ⟨k,tk,List.mem_singleton.mp he⟩
 have padd:((layNew t es (hashInt k) (.int k tk)).1.toList.map fun e=>numOf e.2).Perm (ns++[k]):=by
  have:=(aQ7 t es (hashInt k) (.int k tk)).map fun e=>numOf e.2
  rw [List.map_append] at this
  exact this.trans (x.perm.append_right _)
 have sadd:(layNew t es (hashInt k) (.int k tk)).1.size < scanBound:=by
  have:=padd.length_eq
  simp at this
  omega
 unfold setAddHashed setAddHashedIn
 refine wpAny_holding (wpAny_bind (wpAny_setState_of x.obj rfl x.fit ?_))
 dsimp only
 rw [if_pos (byScan_of rfl fz el)]
 unfold setAddByScan
 refine wpAny_bind (wpAny_bind (wpAny_rule (wpAny_bind (wpAny_setScan_of (knd:=intKind prog w) (intKind_is prog w k tk) x.obj rfl x.fit el ?_))))
 cases hr:es.toList.findIdx? (fun e=>(intKind prog w).is k e.2) with
 | some j =>
  rw [hr] at fk
  have:aNm ns k=ns:=if_pos fk.symm
  rw [this] at q
  exact wpAny_pure (wpAny_pure (q false s.heap es ep t (Heap.SameBut.refl a s.heap) x))
 | none =>
  rw [hr] at fk
  have:aNm ns k=ns++[k]:=by unfold aNm;rw [<-fk];rfl
  rw [this] at q
  have tl:=x.ti.lay es (hashInt k) (.int k tk)
  have fl:=layNew_fits t es (hashInt k) (.int k tk)
  generalize layNew t es (hashInt k) (.int k tk)=L at padd nadd sadd tl fl ⊢
  obtain ⟨es1,t1,d,gv⟩:=L
  dsimp only at padd nadd sadd tl fl ⊢
  refine wpAny_bind (aNn _ ?_)
  by_cases hp:t1.plain=true
  ·rw [if_pos hp]
   refine wpAny_bind ?_
   rw [hashByValue_scannable 8 rfl]
   exact wpAny_pure (store_ok (fun c s₁ Q' h'=>aNn c h') x sadd fl tl padd nadd fun h' es ep t sb y=>wpAny_pure (q true h' es ep t sb y))
  ·rw [if_neg hp]
   exact wpAny_bind (wpAny_pure (store_ok (fun c s₁ Q' h'=>aNn c h') x sadd fl tl padd nadd fun h' es ep t sb y=>wpAny_pure (q true h' es ep t sb y)))
end
end Pu
namespace Pu
open PySem PyProof.Rows
section
variable{prog:Program}{w:World}{A:Around}{E:Value->Shared->Prop}{s:Shared}
def aNo(val:Nat->Int):Nat->List Int
 | 0=>[]
 | i+1=>aNm (aNo val i) (val i)
theorem aTw(val:Nat->Int):∀ i,(aNo val i).length<=i
 | 0=>Nat.le_refl _
 | i+1=>Nat.le_trans (bBz _ _) (Nat.succ_le_succ (aTw val i))
def iM(b:Bool)(a:Addr)(ns:List Int)(h:Heap):Prop:=∃ es ep t,SetIs b a ns es ep t h
theorem iM.keep{b:Bool}{a:Addr}{ns:List Int}{h h':Heap}(x:iM b a ns h)(k:∀ o,h.get? a=some o->h'.get? a=some o):iM b a ns h' :=
 let ⟨es,ep,t,y⟩:=x
 ⟨es,ep,t,y.keep k⟩
theorem bGk{k:Int}{t:Tok}{Q:Bool->Shared->Prop}(x:iM b a ns s.heap)(few:ns.length+1 < scanBound)
  (q:∀ (c:Bool) (h':Heap),Heap.SameBut a s.heap h'->iM b a (aNm ns k) h'->Q c { s with heap:=h',toks:=s.toks+1 }) :
  wpAny (model prog w) A (setAdd a (.int k t)) Q E s:=by
 obtain ⟨es,ep,tb,y⟩:=x
 unfold setAdd
 refine wpAny_holding (wpAny_bind ((intKind prog w).pyHash (k:=k) (intKind_is prog w k t) ?_))
 exact bGj (s:={ s with toks:=s.toks+1 }) y few fun c h' es' ep' t' sb z=>q c h' sb ⟨es',ep',t',z⟩
variable{I:Addr}{fp wr:List Addr}{G:Array GenState->Array GenState->Prop}{n:Nat}{P:Nat->Value->Prop}{St:Nat->Shared->Prop}
theorem bC2(W:WalksS prog w A.in1 I fp wr G n P St){R:Result->Shared->Prop}(a:Addr)(b:Bool)(out:a ∉ fp)(val:Nat->Int)(isN:∀ i v,P i v->∃ t,v = .int (val i) t)(few:n+1 < scanBound) :
  ∀ (m i:Nat) (s:Shared),i+m=n->St i s->iM b a (aNo val i) s.heap ->
   (∀ s',Moved (a :: wr) G s s'->iM b a (aNo val n) s'.heap->R (.ok (.ret .none)) s') ->
   codeAny (model prog w) A (.builtin "set.update.loop" ⟨[.ref a,.ref I],[]⟩) R s:=by
 have nw:a ∉ wr:=fun h=>out (W.sub _ h)
 have up:∀ c∈wr,c∈a :: wr:=fun c hc=>mem_cons_of_mem _ hc
 intro m
 induction m with
 | zero =>
  intro i s e st x r
  rw [Nat.add_zero] at e
  subst e
  refine codeAny_builtin F.entry_set_update_loop ?_
  rw [Around.under_plainId F.plain_set_update_loop _]
  show wpAny _ A.in1 (pyNext (.ref I) >>= _) _ _ s
  exact wpAny_bind (W.done s _ _ st fun s' mv=>wpAny_pure (r s' (mv.mono up) (x.keep fun o ho=>mv.heap a o nw ho)))
 | succ m ih =>
  intro i s e st x r
  refine codeAny_builtin F.entry_set_update_loop ?_
  rw [Around.under_plainId F.plain_set_update_loop _]
  show wpAny _ A.in1 (pyNext (.ref I) >>= _) _ _ s
  refine wpAny_bind (W.item i s _ _ (by omega) st fun v s' pv st' mv=>?_)
  obtain ⟨t,rfl⟩:=isN i v pv
  have fw:(aNo val i).length+1 < scanBound:=by have:=aTw val i;omega
  refine wpAny_bind (wpAny_holding (bGk (x.keep fun o ho=>mv.heap a o nw ho) fw fun c h' sb y=>wpAny_pure ⟨plainId_quiet F.plain_set_update_loop _,?_⟩))
  have other:∀ c,c≠a->h'.get? c=s'.heap.get? c:=fun c hc=>sb.2 c hc
  refine ih (i+1) _ (by omega) (W.frame _ s' _ _ st' (le_succ _) fun c hc o ho=>?_) y fun s2 mv2 z=>?_
  ·rw [other c fun h=>out (h ▸ hc)]
   exact ho
  ·refine r s2 (Moved.trans W.gtrans ((mv.mono up).then_heap (le_succ _) fun c o hc ho=>?_) mv2) z
   rw [other c fun h=>hc (h ▸ mem_cons_self)]
   exact ho
end
section
variable{prog:Program}{w:World}{A:Around}{E:Value->Shared->Prop}{s:Shared}
def xP(w:World):Bool:=w.params.followText "set-order"
def uQ(w:World):Obj:={ cls := .type "set", dict:=none,data := .set #[] 0 (.fresh 0 0 (!xP w)),slots := #[] }
theorem bC3(a:Value)  (q:Q (.ref s.heap.objs.size) { s with heap:=s.heap.push (uQ w) }) :
  codeAny (model prog w) A (.call (.builtin "set.__new__") ⟨[.type "set", a],[]⟩) (wants Q E) s:=by
 refine codeAny_of_tree (?_:wpAny _ A.in1 (checkBuiltinCall "set.__new__" ⟨[.type "set", a],[]⟩ >>= fun _=>again (.builtin "set.__new__" ⟨[.type "set", a],[]⟩)) _ _ s)
 refine wpAny_bind (wpAny_of_eq (F.newCall_set_1 a) (wpAny_pure ⟨plainId_quiet F.plain_set_new _,codeAny_builtin F.entry_set_new ?_⟩))
 rw [Around.under_plainId F.plain_set_new _]
 unfold Builtin.«set.__new__» Builtin.Frozenset.newClass
 have sub:=sub_set_self
 obtain ⟨hp,g,d,tk,os⟩:=s
 dsimp only
 wp_walk
 refine wpAny_askSetting (wpAny_pure ?_)
 dsimp only
 simp only [newObj]
 exact wpAny_bind (wpAny_alloc (wpAny_pure (wpAny_pure q)))
theorem aVj(w:World)   (o:h.get? a=some (uQ w)):iM (!xP w) a [] h :=
 ⟨#[],0,_,o,rfl,TI.fresh _,List.Perm.nil,fun e he=>nomatch he⟩
theorem bC4{R:Result->Shared->Prop}(hh:A.handled=none)(o:s.heap.get? a=some (uQ w))(ne:l≠a)(hl:s.heap.IsList l items)(isN:IntsAre items.toList ns)(few:items.size+1 < scanBound)
  (r:∀ (h':Heap) (tk:Nat),iM (!xP w) a (aNo (fun i=>ns.getD i 0) items.size) h'->(∀ b o,b≠a->s.heap.get? b=some o->h'.get? b=some o)->R (.ok (.ret .none)) { s with heap:=h',toks:=tk }) :
  wpAny (model prog w) A.in1 (Builtin.«set.__init__» ⟨[.ref a,.ref l],[]⟩) (fun fin s'=>match fin with | .done f=>R (.ok f) s' | .again c'=>c'.quiet=true/\codeAny (model prog w) A c' R s') (fun e s'=>R (.error e) s') s:=by
 have hT:s.TypeIs (.ref a) "set" := ⟨_,o,rfl⟩
 obtain ⟨ol,hol,hcl,nl,hdl⟩:=id hl
 obtain ⟨cl,di,da,sl⟩:=ol
 dsimp only at hcl hdl
 subst hcl
 subst hdl
 have o':s.heap.get? a=some { cls := .type "set", dict:=none,data := .set #[] 0 (.fresh 0 0 (!xP w)),slots := #[] }:=o
 have h1:=F.sub_list_set
 have h2:=F.sub_list_frozenset
 have h3:(Value.type "list" == Value.type "dict")=false:=by decide
 unfold Builtin.«set.__init__» noKeywords Builtin.Frozenset.updateFrom
 generalize hp:pyIter=it
 wp_walk
 subst hp
 refine wpAny_pyIter_list hl (wpAny_bind (wpAny_runValue ?_))
 have ia:a≠s.heap.objs.size:=Nat.ne_of_lt (Heap.lt_size o)
 have il:l≠s.heap.objs.size:=Nat.ne_of_lt (Heap.lt_size hol)
 have out:a ∉ [s.heap.objs.size,l]:=by
  intro h
  rcases List.mem_cons.mp h with h | h
  ·exact ia h
  ·exact ne (List.mem_singleton.mp h).symm
 refine bC2 ((Walks.list (by simp [hh]) _ l il items).toS) a (!xP w) out (fun i=>ns.getD i 0) (fun i v hv=>IntsAre.int_at isN i v (by rw [getElem?_toList];exact hv)) few items.size 0 _ (Nat.zero_add _)
  ⟨⟨_,Heap.get?_push_size _ rfl,rfl,rfl⟩,hl.push _⟩ (aVj w (Heap.get?_push_of_some _ o)) fun s' mv x=>?_
 rw [Moved.eq_with mv]
 refine wpAny_pure (wpAny_pure (r s'.heap s'.toks x fun b o hb ho=>mv.heap b o (fun hm=>?_) (Heap.get?_push_of_some _ ho)))
 rcases List.mem_cons.mp hm with h | h
 ·exact hb h
 ·exact absurd (List.mem_singleton.mp h) (Nat.ne_of_lt (Heap.lt_size ho))
theorem bC5(hh:A.handled=none)(hl:s.heap.IsList l items)(isN:IntsAre items.toList ns)(few:items.size+1 < scanBound)
  (q:∀ (h':Heap) (tk:Nat),iM (!xP w) s.heap.objs.size (aNo (fun i=>ns.getD i 0) items.size) h'->(∀ b o,s.heap.get? b=some o->h'.get? b=some o)->Q (.ref s.heap.objs.size) { s with heap:=h',toks:=tk }) :
  wpAny (model prog w) A (call (.type "set") [.ref l]) Q E s:=by
 obtain ⟨c,tl,hmro⟩:=F.called_set.mro
 have g1:=F.called_set.made
 have g2:=F.called_set.sub
 have g3:=F.called_set.notType
 have g4:=F.called_set.canCreate
 have g5:=F.typeCall_set_1 (.ref l)
 refine wpAny_call (codeAny_of_tree (?_:wpAny _ _ (callAny (.type "set") _) _ _ _))
 refine wpAny_pure ⟨Code.quiet_builtin _ (by decide +kernel),codeAny_builtin F.entry_type_call ?_⟩
 rw [Around.under_plain (weight_type_call_type "set" [.ref l] []) rfl]
 repeat (any_goals (first | assumption | wp_step))
 refine codeAny_mono (bC3 (.ref l) (E:=E) (Q:=fun v s₁=>v = .ref s.heap.objs.size/\s₁={ s with heap:=s.heap.push (uQ w) }) ⟨rfl,rfl⟩) fun res s₁ hres=>?_
 match res,hres with
 | .error e,he=>exact he
 | .ok (.ret v),⟨hv,hs⟩ =>
  subst hv
  subst hs
  have ob:(s.heap.push (uQ w)).get? s.heap.objs.size=some (uQ w):=Heap.get?_push_size _ rfl
  have hT:Shared.TypeIs { s with heap:=s.heap.push (uQ w) } (.ref s.heap.objs.size) "set" := ⟨_,ob,rfl⟩
  have g6:=F.called_set.init.lookup
  have g7:=F.called_set.init.bind (.ref s.heap.objs.size)
  repeat (any_goals (first | assumption | wp_step))
  have ne:l≠s.heap.objs.size:=let ⟨_,h,_⟩:=hl;Nat.ne_of_lt (Heap.lt_size h)
  refine codeAny_mono (codeAny_call_builtin (R:=wants (fun r s₂=>r = .none/\Q (.ref s.heap.objs.size) s₂) E) F.called_set.init.plain F.entry_set_init (check_set_init_1 hT
   (bC4 (by simp [hh]) ob ne (hl.push _) isN few fun h' tk x k=>⟨rfl,q h' tk x fun b o ho=>k b o (Nat.ne_of_lt (Heap.lt_size ho)) (Heap.get?_push_of_some _ ho)⟩))) fun r₂ s₂ hr₂=>?_
  match r₂,hr₂ with
  | .error e,he=>exact he
  | .ok (.ret _),⟨h0,hq⟩ =>
   subst h0
   repeat (any_goals (first | assumption | wp_step))
end
end Pu
namespace Pu
open PySem PyProof.Rows
theorem aDy{α:Type}:∀ (xs:List α) (i:Nat) (x:α),xs[i]?=some x->(x :: xs.eraseIdx i).Perm xs
 | [],_,_,h=>nomatch h
 | y :: xs,0,x,h=>by cases h;exact List.Perm.refl _
 | y :: xs,i+1,x,h=>by
  have:=aDy xs i x (by simpa using h)
  exact (List.Perm.swap y x _).trans (this.cons y)
theorem aMa{α:Type}(next:Nat->Nat):∀ (n k:Nat) (left:List α) (out:Array α),left.length=n->(pickOrder.go next n k left out).toList.Perm (out.toList++left)
 | 0,k,left,out,h=>by
  cases left with
  | nil=>rw [append_nil];exact List.Perm.refl _
  | cons _ _=>cases h
 | n+1,k,left,out,h=>by
  unfold pickOrder.go
  have hl:next k % left.length < left.length:=mod_lt _ (by omega)
  have e:left[next k % left.length]?=some left[next k % left.length]:=List.getElem?_eq_getElem hl
  rw [e]
  dsimp only
  refine (aMa next n (k+1) _ _ (by rw [List.length_eraseIdx_of_lt hl];omega)).trans ?_
  rw [toList_push,List.append_assoc]
  exact (aDy left _ _ e).append_left _
theorem aJx(next:Nat->Nat)(xs:Array α):(pickOrder next xs).toList.Perm xs.toList:=aMa next xs.size 0 xs.toList #[] (Array.length_toList)
section
variable   {A:Around} 
theorem aVk{s:Shared}{src:Source}  {Q:Nat->Shared->Prop} (hn:n≠0) (q:∀ i d,i < n->Q i { s with drawn:=d }):wpAny (model prog w) A (choose src n) Q E s :=
 fun _ _ _=>⟨hn,q _ _ (mod_lt _ (Nat.pos_of_ne_zero hn))⟩
theorem bC6{α:Type}(n:Nat):∀ (xs:List α) (s:Shared) (Q:List α->Shared->Prop),xs.length=n->(∀ ys d,ys.Perm xs->Q ys { s with drawn:=d })->wpAny (model prog w) A (drawOrder n xs) Q E s:=by
 induction n with
 | zero =>
  intro xs s Q h q
  have e:xs=[]:=List.length_eq_zero_iff.mp h
  subst e
  exact wpAny_pure (q [] s.drawn (List.Perm.refl _))
 | succ n ih =>
  intro xs s Q h q
  have ne:xs≠[]:=fun e=>by rw [e] at h;cases h
  obtain ⟨x,l,rfl⟩:=List.exists_cons_of_ne_nil ne
  refine (?_:wpAny (model prog w) A (choose .order (x :: l).length >>= fun i=>match (x :: l)[i]? with | some y=>drawOrder n ((x :: l).eraseIdx i) >>= fun r=>pure (y :: r) | none=>unsupported "internal:drawOrder") Q E s)
  refine wpAny_bind (aVk (by simp) fun i d hi=>?_)
  have e:(x :: l)[i]?=some (x :: l)[i]:=List.getElem?_eq_getElem hi
  rw [e]
  refine wpAny_bind (ih _ _ _ (by rw [List.length_eraseIdx_of_lt hi];omega) fun ys d' hy=>wpAny_pure (q _ d' ?_))
  exact (hy.cons _).trans (aDy _ _ _ e)
end
theorem qR:Slot "set_iterator" "__next__" "set_iterator.__next__" :=
 .of (owner := "set_iterator") (n := "__next__") (by rw [typeLookup_type,builtinLookup_eq_fast];kernel_rfl) (by decide +kernel) (by decide +kernel) (by decide +kernel) (.inl (by decide +kernel)) (by rw [isSubtype_type];kernel_rfl)
theorem aFh:entryFor table "set_iterator.__next__" = some Builtin.«set_iterator.__next__» := entryFor_of_tree (by kernel_rfl)
theorem aQ8:Manifest.owners.lookup (String.ofList ['r', 'o', 't', 'a', 'r', 'e', 't', 'i', '_', 't', 'e', 's'].reverse)=some Manifest.sig_set_iterator:=by kernel_rfl
theorem aIb(a:Value):argsOk "set_iterator.__next__" ⟨[a],[]⟩:=by
 unfold argsOk
 rw [signature?_of (id := "set_iterator.__next__") (n:=['_', '_', 't', 'x', 'e', 'n', '_', '_']) (o:=['r', 'o', 't', 'a', 'r', 'e', 't', 'i', '_', 't', 'e', 's']) (by kernel_rfl) aQ8]
 kernel_rfl
theorem aQ9:Slot "set_iterator" "__iter__" "set_iterator.__iter__" :=
 .of (owner := "set_iterator") (n := "__iter__") (by rw [typeLookup_type,builtinLookup_eq_fast];kernel_rfl) (by decide +kernel) (by decide +kernel) (by decide +kernel) (.inl (by decide +kernel)) (by rw [isSubtype_type];kernel_rfl)
theorem aVl:entryFor table "set_iterator.__iter__" = some Builtin.«dict_keyiterator.__iter__» := entryFor_alias (id' := "dict_keyiterator.__iter__") (by kernel_rfl) rfl (by decide +kernel) (by kernel_rfl)
theorem aZ1(a:Value):argsOk "set_iterator.__iter__" ⟨[a],[]⟩:=by
 unfold argsOk
 rw [signature?_of (id := "set_iterator.__iter__") (n:=['_', '_', 'r', 'e', 't', 'i', '_', '_']) (o:=['r', 'o', 't', 'a', 'r', 'e', 't', 'i', '_', 't', 'e', 's']) (by kernel_rfl) aQ8]
 kernel_rfl
theorem aRr:entryFor table "set.__iter__" = some Builtin.«frozenset.__iter__» := entryFor_alias (id' := "frozenset.__iter__") (by kernel_rfl) rfl (by decide +kernel) (by kernel_rfl)
theorem bC7:typeLookup (.type "set") "__len__" = pure (some (.builtin "set.__len__")):=by rw [typeLookup_type,builtinLookup_eq_fast];kernel_rfl
end Pu
namespace Pu
open PySem PyProof.Rows
def aJy(first:Value)(i:Nat)(a:Addr)(n ep:Nat):Obj:={ cls := .type "set_iterator", dict:=none,data := .fields #[first,.int i 0,.ref a,.int n 0,.int ep 0],slots := #[] }
section
variable{prog:Program}{w:World}{A:Around}{E:Value->Shared->Prop}{s:Shared}
theorem bC8{es:Array (Int × Value)}  {t:SetTable} {c c':Nat} {v:Value} {Q:Option Value->Shared->Prop}
  (hI:s.heap.get? I=some (aJy (.int c 0) i a es.size ep)) (x:SetIs b a ns es ep t s.heap)
  (nx:∀ (A:Around) (E:Value->Shared->Prop) (Q:Option (Value × Nat)->Shared->Prop),Q (some (v,c')) s->wpAny (model prog w) A (setNext a c i ep) Q E s)
  (q:∀ h',h'.get? I=some (aJy (.int c' 0) (i+1) a es.size ep)->Heap.SameBut I s.heap h'->Q (some v) { s with heap:=h' }) :
  wpAny (model prog w) A (pyNext (.ref I)) Q E s:=by
 have hT:s.TypeIs (.ref I) "set_iterator" := ⟨_,hI,rfl⟩
 unfold pyNext
 refine wpAny_bind (wpAny_attempt (wpAny_callSpecial?_slot (name:=Str.ofString "__next__") hT qR (wpAny_call_entry qR hT aFh ?_ (aIb _))))
 unfold Builtin.«set_iterator.__next__»
 refine wpAny_bind (wpAny_pure ?_)
 refine wpAny_bind (wpAny_fieldsOf hI rfl ?_)
 dsimp only
 refine wpAny_bind (wpAny_setEntries_of x.obj rfl x.fit ?_)
 rw [if_neg (by simp)]
 refine wpAny_bind (nx _ _ _ ?_)
 dsimp only
 refine wpAny_bind (wpAny_setField hI rfl (by simp) ?_)
 have h1:(s.heap.update I (Obj.mapFields (·.setIfInBounds 0 (rawInt c')))).get? I=some (aJy (.int c' 0) i a es.size ep):=by
  rw [Heap.get?_update_self _ hI (Obj.isFreed_of_fields (Obj.data_mapFields rfl _))]
  rfl
 refine wpAny_bind (wpAny_setField h1 rfl (by simp) ?_)
 refine wpAny_pure ⟨v,rfl,wpAny_pure (q _ ?_ ((Heap.SameBut.update ..).trans (Heap.SameBut.update ..)))⟩
 rw [Heap.get?_update_self _ h1 (Obj.isFreed_of_fields (Obj.data_mapFields rfl _))]
 rfl
theorem aTx{R:Value->Shared->Prop}{Q:Fin->Shared->Prop}(hh:A.handled=none)(r:∀ (h':Heap) (e:Addr),(∀ b o,s.heap.get? b=some o->h'.get? b=some o)->(∃ o,h'.get? e=some o/\o.cls = .type "StopIteration")->R (.ref e) { s with heap:=h' }) :
  wpAny (model prog w) A (newExc (.type "StopIteration") [] >>= fun e=>raiseNew e) Q R s:=by
 refine wpAny_bind ?_
 simp only [newExc,newTuple]
 refine wpAny_bind (wpAny_newObj_type ?_ (by size_fits))
 refine wpAny_bind (m:=firstArgMember _ _) (wpAny_of_eq (a:=Value.none) (by first | rfl | (simp only [firstArgMember];rfl)) (wpAny_newObj_type ?_ (by size_fits)))
 simp only [raiseNew]
 refine wpAny_bind (wpAny_handled ?_)
 rw [hh]
 exact wpAny_bind (wpAny_pure (wpAny_throw (r _ _ (fun b o ho=>Heap.get?_push_of_some _ (Heap.get?_push_of_some _ ho)) ⟨_,Heap.get?_push_size _ rfl,rfl⟩)))
theorem bGl{b:Bool}  {es:Array (Int × Value)}  {t:SetTable} {c:Nat} {Q:Option Value->Shared->Prop} (hh:A.handled=none)
  (hI:s.heap.get? I=some (aJy (.int c 0) i a es.size ep)) (x:SetIs b a ns es ep t s.heap)
  (nx:∀ (A:Around) (E:Value->Shared->Prop) (Q:Option (Value × Nat)->Shared->Prop),Q none s->wpAny (model prog w) A (setNext a c i ep) Q E s)
  (q:∀ h',(∀ b o,b≠I->s.heap.get? b=some o->h'.get? b=some o)->Q none { s with heap:=h' }) :
  wpAny (model prog w) A (pyNext (.ref I)) Q E s:=by
 have hT:s.TypeIs (.ref I) "set_iterator" := ⟨_,hI,rfl⟩
 unfold pyNext
 refine wpAny_bind (wpAny_attempt (wpAny_callSpecial?_slot (name:=Str.ofString "__next__") hT qR (wpAny_call_entry qR hT aFh ?_ (aIb _))))
 unfold Builtin.«set_iterator.__next__»
 refine wpAny_bind (wpAny_pure ?_)
 refine wpAny_bind (wpAny_fieldsOf hI rfl ?_)
 dsimp only
 refine wpAny_bind (wpAny_setEntries_of x.obj rfl x.fit ?_)
 rw [if_neg (by simp)]
 refine wpAny_bind (nx _ _ _ ?_)
 dsimp only
 refine wpAny_bind (wpAny_setField hI rfl (by simp) ?_)
 refine aTx hh fun h' e k o=>?_
 obtain ⟨o,ho,hc⟩:=o
 refine wpAny_bind (wpAny_isInstance (T := "StopIteration") (b:=true) ⟨o,ho,hc⟩ isSubtype_stop (wpAny_pure (q _ fun b o' hb ho'=>k b o' ?_)))
 rw [Heap.get?_update_other _ _ (Ne.symm hb)]
 exact ho'
theorem aVm{es:Array (Int × Value)}  {t:SetTable} (x:SetIs b a ns es ep t s.heap) (hb:xP w=true) (c i:Nat) {Q:Option (Value × Nat)->Shared->Prop}
  (q:Q (((pickOrder (w.params.setOrder a ep) es)[i]?).map fun e=>(e.2,c)) s):wpAny (model prog w) A (setNext a c i ep) Q E s:=by
 have hb':w.params.followText "set-order" = true:=hb
 unfold setNext
 refine wpAny_bind (wpAny_setState_of x.obj rfl x.fit ?_)
 dsimp only
 unfold setsByText
 refine wpAny_bind (wpAny_bind (wpAny_askSetting (wpAny_pure ?_)))
 refine wpAny_ite_split (fun _=>?_) fun h=>absurd hb' h
 rw [if_neg (by simp)]
 refine wpAny_bind ?_
 unfold setWalk
 refine wpAny_bind (wpAny_setState_of x.obj rfl x.fit ?_)
 dsimp only
 unfold setsByText
 refine wpAny_bind (wpAny_bind (wpAny_askSetting (wpAny_pure ?_)))
 refine wpAny_ite_split (fun _=>?_) fun h=>absurd hb' h
 exact wpAny_bind (wpAny_askSetting (wpAny_pure (wpAny_pure q)))
def yZ(t:SetTable):Nat->Nat
 | 0=>0
 | i+1=>t.place.getD i 0+1
theorem below_at{t:SetTable}(ti:TI b t)(i:Nat)(hi:i<=t.place.size):SetTable.below t.place (yZ t i)=i:=by
 obtain ⟨h1,h2,h3⟩:=aJw t.place (yZ t i) ti.rise
 generalize hm:SetTable.below t.place (yZ t i)=m at h1 h2 h3
 rcases Nat.lt_trichotomy m i with h | h | h
 ·exfalso
  have lt:i - 1 < t.place.size:=by omega
  have e:t.place[i - 1]?=some t.place[i - 1]:=Array.getElem?_eq_getElem lt
  have:=h2 (i - 1) _ (by omega) e
  have se:yZ t i=t.place[i - 1]+1:=by
   cases i with
   | zero=>omega
   | succ k =>
    show t.place.getD k 0+1=_
    rw [getD_eq_getD_getElem?,Array.getElem?_eq_getElem (by omega)]
    rfl
  omega
 ·exact h
 ·exfalso
  have lt:i < t.place.size:=by omega
  have e:t.place[i]?=some t.place[i]:=Array.getElem?_eq_getElem lt
  have g:=h1 i _ h e
  cases i with
  | zero=>exact absurd g (not_lt_zero _)
  | succ k =>
   have gk:t.place[k]?=some t.place[k]:=Array.getElem?_eq_getElem (by omega)
   have se:yZ t (k+1)=t.place[k]+1:=by
    show t.place.getD k 0+1=_
    rw [getD_eq_getD_getElem?,gk]
    rfl
   have r:=List.pairwise_iff_getElem.mp ti.rise k (k+1) (by simp;omega) (by simp;omega) (by omega)
   simp at r
   omega
theorem aZ2{es:Array (Int × Value)}  {t:SetTable} (x:SetIs true a ns es ep t s.heap) (hb:xP w=false) (hd:(!t.plain&&decide (es.size > 1))=false) (i:Nat) (hi:i<=es.size) {Q:Option (Value × Nat)->Shared->Prop}
  (q:Q ((es[i]?).map fun e=>(e.2,yZ t (i+1))) s):wpAny (model prog w) A (setNext a (yZ t i) i ep) Q E s:=by
 have hb':w.params.followText "set-order" = false:=hb
 have sz:t.place.size=es.size:=by
  have:=x.fit
  simp only [SetTable.fits,and_eq_true,beq_iff_eq] at this
  exact this.1
 unfold setNext
 refine wpAny_bind (wpAny_setState_of x.obj rfl x.fit ?_)
 dsimp only
 unfold setsByText
 refine wpAny_bind (wpAny_bind (wpAny_askSetting (wpAny_pure ?_)))
 refine wpAny_ite_split (fun h=>absurd (hb'.symm.trans h) Bool.false_ne_true) fun _=>?_
 refine wpAny_ite_split (fun h=>absurd (hd.symm.trans h) Bool.false_ne_true) fun _=>?_
 refine wpAny_bind (m:=(if (!t.led && !es.isEmpty)=true then unsupported "set:maker-not-led" else pure ())) ?_
 rw [if_neg (by rw [x.ti.led];exact Bool.false_ne_true)]
 refine wpAny_pure ?_
 rw [below_at x.ti i (by rw [sz];exact hi)]
 by_cases hlt:i < es.size
 ·rw [Array.getElem?_eq_getElem hlt] at q
  rw [Array.getElem?_eq_getElem hlt,Array.getElem?_eq_getElem (by rw [sz];exact hlt)]
  refine wpAny_pure ?_
  have:yZ t (i+1)=t.place[i]+1:=by
   show t.place.getD i 0+1=_
   rw [getD_eq_getD_getElem?,Array.getElem?_eq_getElem (by rw [sz];exact hlt)]
   rfl
  rw [this] at q
  exact q
 ·have hn:es[i]?=none:=Array.getElem?_eq_none (by omega)
  rw [hn] at q ⊢
  exact wpAny_pure q
theorem bC9{es:Array (Int × Value)}  {t:SetTable}  {ys:List Nat} {e:Int × Value} {y:Nat} {Q:Option Value->Shared->Prop}
  (hI:s.heap.get? I=some (aJy (.ref T) i a es.size ep)) (x:SetIs b a ns es ep t s.heap) (hy:s.heap.get? T=some { cls := .type "tuple", data := .seq (ys.map fun (n:Nat)=>rawInt n).toArray })
  (hi:ys[i]?=some y) (he:es[y]?=some e)
  (q:∀ h',h'.get? I=some (aJy (.ref T) (i+1) a es.size ep)->Heap.SameBut I s.heap h'->Q (some e.2) { s with heap:=h' }) :
  wpAny (model prog w) A (pyNext (.ref I)) Q E s:=by
 have hT:s.TypeIs (.ref I) "set_iterator" := ⟨_,hI,rfl⟩
 unfold pyNext
 refine wpAny_bind (wpAny_attempt (wpAny_callSpecial?_slot (name:=Str.ofString "__next__") hT qR (wpAny_call_entry qR hT aFh ?_ (aIb _))))
 unfold Builtin.«set_iterator.__next__»
 refine wpAny_bind (wpAny_pure ?_)
 refine wpAny_bind (wpAny_fieldsOf hI rfl ?_)
 dsimp only
 refine wpAny_bind (wpAny_setEntries_of x.obj rfl x.fit ?_)
 rw [if_neg (by simp)]
 refine wpAny_bind (wpAny_seqItems hy rfl ?_)
 dsimp only
 have ei:((ys.map fun (n:Nat)=>rawInt n).toArray)[(i:Int).toNat]?=some (.int y 0):=by
  rw [toNat_natCast,List.getElem?_toArray,List.getElem?_map,hi]
  rfl
 rw [ei]
 dsimp only
 unfold setNextDrawn
 refine wpAny_bind (wpAny_bind (wpAny_setState_of x.obj rfl x.fit ?_))
 dsimp only
 rw [if_neg (by simp),toNat_natCast,he]
 refine wpAny_pure ?_
 refine wpAny_bind (wpAny_setField hI rfl (by simp) ?_)
 refine wpAny_pure ⟨e.2,rfl,wpAny_pure (q _ ?_ (Heap.SameBut.update ..))⟩
 rw [Heap.get?_update_self _ hI (Obj.isFreed_of_fields (Obj.data_mapFields rfl _))]
 rfl
theorem bGm{b:Bool}  {es:Array (Int × Value)}  {t:SetTable}  {ys:List Nat} {Q:Option Value->Shared->Prop} (hh:A.handled=none)
  (hI:s.heap.get? I=some (aJy (.ref T) i a es.size ep)) (x:SetIs b a ns es ep t s.heap) (hy:s.heap.get? T=some { cls := .type "tuple", data := .seq (ys.map fun (n:Nat)=>rawInt n).toArray })
  (hi:ys[i]?=none)
  (q:∀ h',(∀ b o,b≠I->s.heap.get? b=some o->h'.get? b=some o)->Q none { s with heap:=h' }) :
  wpAny (model prog w) A (pyNext (.ref I)) Q E s:=by
 have hT:s.TypeIs (.ref I) "set_iterator" := ⟨_,hI,rfl⟩
 unfold pyNext
 refine wpAny_bind (wpAny_attempt (wpAny_callSpecial?_slot (name:=Str.ofString "__next__") hT qR (wpAny_call_entry qR hT aFh ?_ (aIb _))))
 unfold Builtin.«set_iterator.__next__»
 refine wpAny_bind (wpAny_pure ?_)
 refine wpAny_bind (wpAny_fieldsOf hI rfl ?_)
 dsimp only
 refine wpAny_bind (wpAny_setEntries_of x.obj rfl x.fit ?_)
 rw [if_neg (by simp)]
 refine wpAny_bind (wpAny_seqItems hy rfl ?_)
 dsimp only
 have ei:((ys.map fun (n:Nat)=>rawInt n).toArray)[(i:Int).toNat]?=none:=by
  rw [toNat_natCast,List.getElem?_toArray,List.getElem?_map,hi]
  rfl
 rw [ei]
 dsimp only
 refine wpAny_bind (wpAny_setField hI rfl (by simp) ?_)
 have h1:(s.heap.update I (Obj.mapFields (·.setIfInBounds 0 (rawInt 0)))).get? I=some (aJy (.int 0 0) i a es.size ep):=by
  rw [Heap.get?_update_self _ hI (Obj.isFreed_of_fields (Obj.data_mapFields rfl _))]
  rfl
 refine wpAny_bind (wpAny_setField h1 rfl (by simp) ?_)
 refine aTx hh fun h' e k o=>?_
 obtain ⟨o,ho,hc⟩:=o
 refine wpAny_bind (wpAny_isInstance (T := "StopIteration") (b:=true) ⟨o,ho,hc⟩ isSubtype_stop (wpAny_pure (q _ fun b o' hb ho'=>k b o' ?_)))
 rw [Heap.get?_update_other _ _ (Ne.symm hb),Heap.get?_update_other _ _ (Ne.symm hb)]
 exact ho'
end
end Pu
namespace Pu
open PySem PyProof.Rows
section
variable{prog:Program}{w:World}{A:Around}{E:Value->Shared->Prop}{s:Shared}
theorem aTy{o:Obj}  (hI:s.heap.get? I=some o) (hc:o.cls = .type "set_iterator") (q:Q (.ref I) s):wpAny (model prog w) A (pyIter (.ref I)) Q E s:=by
 have hT:s.TypeIs (.ref I) "set_iterator" := ⟨o,hI,hc⟩
 refine wpAny_pyIter_slot hT aQ9 (wpAny_call_entry aQ9 hT aVl (?_:wpAny _ _ (ret (.ref I)) _ _ s) (aZ1 _))
 exact wpAny_pure ⟨_,rfl, "set_iterator", _,hT,qR.lookup,q⟩
theorem aQa(hh:A.handled=none)  (ne:a≠I)   {es:Array (Int × Value)}  {t:SetTable} (c:Nat->Nat) (vs:List Value)
  (nx:∀ (s:Shared) (i:Nat),i<=vs.length->SetIs b a ns es ep t s.heap->∀ (A:Around) (E:Value->Shared->Prop) (Q:Option (Value × Nat)->Shared->Prop),Q ((vs[i]?).map fun v=>(v,c (i+1))) s->wpAny (model prog w) A (setNext a (c i) i ep) Q E s) :
  Walks prog w A I [I,a] [I] vs.length (fun i v=>vs[i]?=some v) (fun i h=>h.get? I=some (aJy (.int (c i) 0) i a es.size ep)/\SetIs b a ns es ep t h) where
 sub:=fun b hb=>by rw [List.mem_singleton.mp hb];exact mem_cons_self
 frame:=fun _ _ _ st k=>⟨k I mem_cons_self _ st.1,st.2.keep fun o ho=>k a (mem_cons_of_mem _ mem_cons_self) o ho⟩
 item:=fun i s Q E hi st q=>by
  have e:vs[i]?=some vs[i]:=List.getElem?_eq_getElem hi
  refine bC8 (v:=vs[i]) (c':=c (i+1)) st.1 st.2 (fun A E Q' h=>nx s i (Nat.le_of_lt hi) st.2 A E Q' (by rw [e];exact h)) fun h' hI sb=>?_
  have k:∀ b o,b≠I->s.heap.get? b=some o->h'.get? b=some o:=fun b o hb ho=>by rw [sb.2 b hb];exact ho
  exact q _ h' s.toks e ⟨hI,st.2.keep fun o ho=>k a o ne ho⟩ fun b o hb ho=>k b o (fun h=>hb (List.mem_singleton.mpr h)) ho
 done:=fun s Q E st q =>
  bGl hh st.1 st.2 (fun A E Q' h=>nx s _ (Nat.le_refl _) st.2 A E Q' (by rw [List.getElem?_eq_none (Nat.le_refl _)];exact h)) fun h' k=>q h' s.toks fun b o hb ho=>k b o (fun h=>hb (List.mem_singleton.mpr h)) ho
 self:=fun _ _ _ _ st q=>aTy st.1 rfl q
theorem bCa(hh:A.handled=none)  (ne:a≠I) (nT:T≠I)   {es:Array (Int × Value)}  {t:SetTable} (ys:List Nat) (lt:∀ y∈ys,y < es.size) :
  Walks prog w A I [I,a,T] [I] (ys.map fun y=>(es.getD y (0,.none)).2).length (fun i v=>(ys.map fun y=>(es.getD y (0,.none)).2)[i]?=some v)
   (fun i h=>h.get? I=some (aJy (.ref T) i a es.size ep)/\SetIs b a ns es ep t h/\h.get? T=some { cls := .type "tuple", data := .seq (ys.map fun (n:Nat)=>rawInt n).toArray }) where
 sub:=fun b hb=>by rw [List.mem_singleton.mp hb];exact mem_cons_self
 frame:=fun _ _ _ st k=>⟨k I mem_cons_self _ st.1,st.2.1.keep fun o ho=>k a (mem_cons_of_mem _ mem_cons_self) o ho,k T (mem_cons_of_mem _ (mem_cons_of_mem _ mem_cons_self)) _ st.2.2⟩
 item:=fun i s Q E hi st q=>by
  rw [length_map] at hi
  have e:ys[i]?=some ys[i]:=List.getElem?_eq_getElem hi
  have l:=lt _ (List.getElem_mem hi)
  have eg:es[ys[i]]?=some es[ys[i]]:=Array.getElem?_eq_getElem l
  refine bC9 (e:=es[ys[i]]) st.1 st.2.1 st.2.2 e eg fun h' hI sb=>?_
  have k:∀ b o,b≠I->s.heap.get? b=some o->h'.get? b=some o:=fun b o hb ho=>by rw [sb.2 b hb];exact ho
  refine q _ h' s.toks ?_ ⟨hI,st.2.1.keep fun o ho=>k a o ne ho,k T _ nT st.2.2⟩ fun b o hb ho=>k b o (fun h=>hb (List.mem_singleton.mpr h)) ho
  rw [List.getElem?_map,e]
  simp [getD_eq_getD_getElem?,eg]
 done:=fun s Q E st q=>by
  rw [length_map] at st
  exact bGm hh st.1 st.2.1 st.2.2 (List.getElem?_eq_none (Nat.le_refl _)) fun h' k=>q h' s.toks fun b o hb ho=>k b o (fun h=>hb (List.mem_singleton.mpr h)) ho
 self:=fun _ _ _ _ st q=>aTy st.1 rfl q
def Nums(vs:List Value)(ns:List Int):Prop:=(vs.map numOf).Perm ns/\∀ v∈vs,∃ n t,v = .int n t
theorem SetIs.nums_of{es:Array (Int × Value)}  {t:SetTable}  (x:SetIs b a ns es ep t h) {l:List (Int × Value)} (p:l.Perm es.toList):Nums (l.map (·.2)) ns:=by
 refine ⟨?_,fun v hv=>?_⟩
 ·rw [List.map_map]
  exact (p.map fun e=>numOf e.2).trans x.perm
 ·obtain ⟨e,he,rfl⟩:=List.mem_map.mp hv
  obtain ⟨n,tk,rfl⟩:=x.nums e (p.mem_iff.mp he)
  exact ⟨n,tk,rfl⟩
theorem bCb(hh:A.handled=none)    (x:iM (!xP w) a ns s.heap) (few:ns.length < scanBound)
  (q:∀ (I:Addr) (h':Heap) (d:_) (vs:List Value) (fp:List Addr) (St:Nat->Heap->Prop),Nums vs ns->(∀ b o,s.heap.get? b=some o->h'.get? b=some o)->s.heap.objs.size<=I->(∀ f∈fp,f=a\/s.heap.objs.size<=f) ->
   Walks prog w A I fp [I] vs.length (fun i v=>vs[i]?=some v) St->St 0 h'->Q (.ref I) { s with heap:=h',drawn:=d }) :
  wpAny (model prog w) A (pyIter (.ref a)) Q E s:=by
 obtain ⟨es,ep,t,x⟩:=x
 have hT:s.TypeIs (.ref a) "set" := ⟨_,x.obj,rfl⟩
 have la:a < s.heap.objs.size:=Heap.lt_size x.obj
 refine wpAny_pyIter_slot hT F.slot_set_iter (wpAny_call_entry F.slot_set_iter hT aRr ?_ (F.args_set_iter_1 _))
 unfold Builtin.«frozenset.__iter__» Builtin.Frozenset.slot0
 refine wpAny_bind (wpAny_bind (wpAny_pure (?_:wpAny _ _ (pure a) _ _ s)))
 refine wpAny_pure ?_
 unfold Builtin.Frozenset.sizeOf
 refine wpAny_bind (wpAny_bind (wpAny_setEntries_of x.obj rfl x.fit (wpAny_pure ?_)))
 unfold setDrawn
 refine wpAny_bind (wpAny_bind (wpAny_setState_of x.obj rfl x.fit ?_))
 dsimp only
 unfold setsByText
 refine wpAny_bind (wpAny_bind (wpAny_askSetting (wpAny_pure (wpAny_pure ?_))))
 have fin:∀ (s':Shared) (first:Value),SetIs (!xP w) a ns es ep t s'.heap->Q (.ref s'.heap.objs.size) { s' with heap:=s'.heap.push (aJy first 0 a es.size ep) }->wpAny (model prog w) A.in1 (setEpoch a >>= fun e=>newFields "set_iterator" [first,rawInt 0,.ref a,rawInt es.size,rawInt e] >>= fun r=>ret r)
   (fun fin s'=>∃ r,fin = .done (.ret r)/\∃ T' r',s'.TypeIs r T'/\typeLookup (.type T') "__next__" = pure (some r')/\Q r s') E s':=fun s' first y q'=>by
  refine wpAny_bind (wpAny_setEpoch_of y.obj rfl y.fit ?_)
  unfold newFields
  refine wpAny_bind (wpAny_newObj_type (wpAny_pure ⟨_,rfl, "set_iterator", _,⟨_,Heap.get?_push_size _ rfl,rfl⟩,qR.lookup,?_⟩))
  exact q'
 by_cases hd:(!xP w&&(!t.plain&&decide (es.size > 1)))=true
 ·refine wpAny_ite_split (fun _=>?_) fun h=>absurd hd h
  refine wpAny_bind (bC6 es.size (List.range es.size) s _ length_range fun ys d py=>?_)
  have lt:∀ y∈ys,y < es.size:=fun y hy=>List.mem_range.mp (py.mem_iff.mp hy)
  have sz:ys.length<=sizeLine:=fits_of_scanBound (by rw [py.length_eq,length_range,x.size];exact few)
  simp only [newTuple]
  refine wpAny_bind (wpAny_newObj_type ?_ (by show (List.map _ ys).toArray.size<=sizeLine;rw [List.size_toArray,length_map];exact sz))
  refine fin _ _ (x.keep fun o ho=>Heap.get?_push_of_some _ ho) ?_
  refine q _ _ d (ys.map fun y=>(es.getD y (0,.none)).2) _ _ ?_ (fun b o ho=>Heap.get?_push_of_some _ (Heap.get?_push_of_some _ ho)) ?_ (fun f hf=>?_)
   (bCa hh (T:=s.heap.objs.size) ?_ ?_ ys lt) ⟨Heap.get?_push_size _ rfl,x.keep fun o ho=>Heap.get?_push_of_some _ (Heap.get?_push_of_some _ ho),Heap.get?_push_of_some _ (Heap.get?_push_size _ rfl)⟩
  ·have e:(ys.map fun y=>(es.getD y (0,.none)).2)=(ys.map fun y=>es.getD y (0,.none)).map (·.2):=by rw [List.map_map];rfl
   rw [e]
   refine x.nums_of ((py.map _).trans (List.Perm.of_eq ?_))
   refine List.ext_getElem? fun i=>?_
   by_cases hi:i < es.size
   ·simp [List.getElem?_map,List.getElem?_range hi,getD_eq_getD_getElem?,hi]
   ·simp [hi]
  ·rw [Heap.size_push];exact le_succ _
  ·rcases List.mem_cons.mp hf with h | h
   ·exact .inr (by rw [h,Heap.size_push];exact le_succ _)
   ·rcases List.mem_cons.mp h with h | h
    ·exact .inl h
    ·exact .inr (Nat.le_of_eq (List.mem_singleton.mp h).symm)
  ·rw [Heap.size_push];exact Nat.ne_of_lt (Nat.lt_succ_of_lt la)
  ·rw [Heap.size_push];exact Nat.ne_of_lt (Nat.lt_succ_self _)
 ·refine wpAny_ite_split (fun h=>absurd h hd) fun _=>wpAny_bind (wpAny_pure ?_)
  refine fin s (.int 0 0) x ?_
  by_cases hb:xP w=true
  ·refine q s.heap.objs.size _ s.drawn ((pickOrder (w.params.setOrder a ep) es).toList.map (·.2)) _ _ (x.nums_of (aJx _ es)) (fun b o ho=>Heap.get?_push_of_some _ ho) (Nat.le_refl _) (fun f hf=>?_)
    (aQa hh (Nat.ne_of_lt la) (fun _=>0) _ fun s i hi y A E Q' h=>aVm y hb 0 i ?_) ⟨Heap.get?_push_size _ rfl,x.keep fun o ho=>Heap.get?_push_of_some _ ho⟩
   ·rcases List.mem_cons.mp hf with h | h
    ·exact .inr (Nat.le_of_eq h.symm)
    ·exact .inl (List.mem_singleton.mp h)
   ·rw [List.getElem?_map,Option.map_map,getElem?_toList] at h
    exact h
  ·have hb0:xP w=false:=by revert hb;cases xP w<;>intro h<;>first | rfl | exact absurd rfl h
   have hd0:(!t.plain&&decide (es.size > 1))=false:=by
    rw [hb0] at hd
    revert hd
    cases (!t.plain&&decide (es.size > 1)) <;> intro h<;>first | rfl | exact absurd rfl h
   have x':SetIs true a ns es ep t s.heap:=by rw [hb0] at x;exact x
   refine q s.heap.objs.size _ s.drawn (es.toList.map (·.2)) _ _ (x.nums_of (List.Perm.refl _)) (fun b o ho=>Heap.get?_push_of_some _ ho) (Nat.le_refl _) (fun f hf=>?_)
    (aQa hh (b:=true) (t:=t) (ns:=ns) (Nat.ne_of_lt la) (yZ t) _ fun s i hi y A E Q' h=>aZ2 y hb0 hd0 i (by simpa using hi) ?_) ⟨Heap.get?_push_size _ rfl,x'.keep fun o ho=>Heap.get?_push_of_some _ ho⟩
   ·rcases List.mem_cons.mp hf with h | h
    ·exact .inr (Nat.le_of_eq h.symm)
    ·exact .inl (List.mem_singleton.mp h)
   ·rw [List.getElem?_map,Option.map_map,getElem?_toList] at h
    exact h
end
end Pu
namespace Pu
open PySem PyProof.Rows
section
variable   {A:Around}  
theorem aZ3{r:Addr}{Q:Bool->Shared->Prop}(hT:s.TypeIs (.ref r) "set")(q:Q false s):wpAny (model prog w) A (Builtin.List.listLengthHint (.ref r)) Q E s:=by
 unfold Builtin.List.listLengthHint
 refine wpAny_bind (wpAny_specialOf hT bC7 ?_)
 generalize hid:("set.__len__" : String)=id0
 wp_delta
 rw [show splitId id0=some ("set", "__len__") from by subst hid;decide +kernel]
 subst hid
 refine wpAny_bind (wpAny_isInstance (T := "set") (b:=true) hT sub_set_self ?_)
 refine wpAny_ite_split (fun h=>absurd h (by decide)) fun _=>wpAny_ite_split (fun _=>?_) fun h=>absurd (by decide +kernel) h
 exact wpAny_bind (wpAny_typeOf hT (wpAny_pure q))
theorem iM.typeIs(x:iM b a ns s.heap):s.TypeIs (.ref a) "set" := let ⟨_,_,_,y⟩:=x;⟨_,y.obj,rfl⟩
theorem Nums.len{vs:List Value}  (h:Nums vs ns):vs.length=ns.length:=by
 have:=h.1.length_eq
 simpa using this
theorem bGn{S:Addr}  {res:Value} {R:Result->Shared->Prop} (hh:A.handled=none) (x:iM (!xP w) a ns s.heap) (few:ns.length < scanBound) (hS:s.heap.get? S=some { cls := .type "list", data := .seq #[] 0 }) (ne:S≠a)
  (r:∀ (h':Heap) (d:_) (tk:Nat) (vs:List Value) (c:Nat),Nums vs ns->(∀ b o,b≠S->s.heap.get? b=some o->h'.get? b=some o)->h'.get? S=some { cls := .type "list", dict:=none,data := .seq vs.toArray c,slots := #[] }->R (.ok (.ret res)) { s with heap:=h',drawn:=d,toks:=tk }) :
  wpAny (model prog w) A.in1 (Builtin.List.listExtendWith (.ref S) (.ref a) res) (fun fin s'=>match fin with | .done f=>R (.ok f) s' | .again c'=>c'.quiet=true/\codeAny (model prog w) A c' R s') (fun e s'=>R (.error e) s') s:=by
 unfold Builtin.List.listExtendWith
 refine wpAny_bind (wpAny_typeOf (T := "set") x.typeIs ?_)
 rw [if_neg (by simp [Builtin.List.listSameRef,ne])]
 refine wpAny_bind (bCb (A:=A.in1) hh x few fun I h' d vs fp St nv k lI lf W st=>?_)
 refine wpAny_bind (wpAny_holding (aZ3 (iM.typeIs (s:={ s with heap:=h',drawn:=d }) (x.keep fun o ho=>k a o ho)) ?_))
 have lS:S < s.heap.objs.size:=Heap.lt_size hS
 have nS:S ∉ fp:=fun h=>by
  rcases lf S h with e | e
  ·exact ne e
  ·exact absurd lS (Nat.not_lt.mpr e)
 have go:∀ (h1:Heap) (c₁:Nat),St 0 h1->(∀ b o,b≠S->s.heap.get? b=some o->h1.get? b=some o)->h1.get? S=some { cls := .type "list", data := .seq #[] c₁ } ->
   codeAny (model prog w) A (.builtin "list.extend.loop" ⟨[.ref S,.ref I,res],[]⟩) R { s with heap:=h1,drawn:=d }:=fun h1 c₁ st1 k1 hS1=>by
  refine codeAny_extend_loopS W.toS (fits_of_scanBound (by rw [nv.len];exact few)) S nS res vs.length 0 _ #[] c₁ rfl (zero_le _) st1 hS1 (ItemsOf.nil _) fun s' acc c' mv hS' it=>?_
  have ev:acc=vs.toArray:=by
   apply ext'
   refine List.ext_getElem? fun i=>?_
   rw [getElem?_toList,List.toList_toArray]
   cases ha:acc[i]? with
   | some v=>exact (it.2 i v ha).symm
   | none=>exact (List.getElem?_eq_none (by rw [<-it.1];exact Array.getElem?_eq_none_iff.mp ha)).symm
  subst ev
  rw [Moved.eq_with mv]
  refine r s'.heap d s'.toks vs c' nv (fun b o hb ho=>mv.heap b o (fun hm=>?_) (k1 b o hb ho)) hS'
  rcases List.mem_cons.mp hm with h | h
  ·exact hb h
  ·exact absurd (Heap.lt_size ho) (by rw [List.mem_singleton.mp h];exact Nat.not_lt.mpr lI)
 refine wpAny_ite_split (fun _=>?_) fun _=>wpAny_pure ⟨plainId_quiet PySem.F.plain_extend_loop _,go h' 0 st (fun b o _ ho=>k b o ho) (k S _ hS)⟩
 refine wpAny_bind (wpAny_rule (wpAny_bind (?_:wpAny _ _ (updateSeq S (·.push .none) >>= fun _=>updateSeq S (·.pop)) _ _ _)))
 have o1:=k S _ hS
 have o2:=Heap.get?_update_self (Obj.mapSeq (·.push Value.none)) o1 rfl
 have o3:=Heap.get?_update_self (Obj.mapSeq (·.pop)) o2 rfl
 have oth:∀ b o,b≠S->h'.get? b=some o->((h'.update S (Obj.mapSeq (·.push Value.none))).update S (Obj.mapSeq (·.pop))).get? b=some o:=fun b o hb ho=>by
  rw [Heap.get?_update_other _ _ (Ne.symm hb),Heap.get?_update_other _ _ (Ne.symm hb)]
  exact ho
 refine wpAny_bind (wpAny_updateSeq o1 rfl (wpAny_updateSeq (hz:=by seq_fits) o2 rfl ?_))
 exact wpAny_pure ⟨plainId_quiet PySem.F.plain_extend_loop _,go _ _ (W.frame 0 _ _ st fun b hb o ho=>oth b o (fun e=>nS (e ▸ hb)) ho) (fun b o hb ho=>oth b o hb (k b o ho)) o3⟩
theorem bCc{R:List Value->Shared->Prop}(hh:A.handled=none)(x:iM (!xP w) a ns s.heap)(few:ns.length < scanBound)
  (r:∀ (h':Heap) (d:_) (tk:Nat) (vs:List Value),Nums vs ns->(∀ b o,s.heap.get? b=some o->h'.get? b=some o)->R vs { s with heap:=h',drawn:=d,toks:=tk }) :
  wpAny (model prog w) A (collect (.ref a)) R E s:=by
 unfold collect
 refine wpAny_bind (wpAny_runValue (codeAny_builtin entry_proto_collect' ?_))
 rw [Around.under_plainId PySem.F.plain_proto_collect _]
 refine (?_:wpAny _ A.in1 (newList [] >>= fun l=>again (.builtin "list.__iadd__" ⟨[l,.ref a],[]⟩)) _ _ s)
 refine wpAny_bind (wpAny_newObj_type (wpAny_pure ⟨plainId_quiet PySem.F.plain_list_iadd _,codeAny_builtin entry_list_iadd' ?_⟩))
 rw [Around.under_plainId PySem.F.plain_list_iadd _]
 have la:a < s.heap.objs.size:=let ⟨_,_,_,y⟩:=x;Heap.lt_size y.obj
 have hS:(s.heap.push { cls := .type "list", data := .seq ([]:List Value).toArray }).get? s.heap.objs.size=some { cls := .type "list", data := .seq #[] 0 }:=Heap.get?_push_size _ rfl
 have key:=bGn (A:=A) (s:={ s with heap:=s.heap.push { cls := .type "list", data := .seq ([]:List Value).toArray } }) (res := .ref s.heap.objs.size) (prog:=prog)
  (R:=fun (q:Result) (s':Shared)=>q = .ok (.ret (.ref s.heap.objs.size))/\∃ (h':Heap) (d:_) (tk:Nat) (vs:List Value) (c:Nat),s'={ s with heap:=h',drawn:=d,toks:=tk }/\Nums vs ns/\(∀ b o,s.heap.get? b=some o->h'.get? b=some o)/\h'.get? s.heap.objs.size=some { cls := .type "list", dict:=none,data := .seq vs.toArray c,slots := #[] })
  hh (x.keep fun o ho=>Heap.get?_push_of_some _ ho) few hS (Nat.ne_of_gt la)
  fun h' d tk vs c nv k o=>⟨rfl,h',d,tk,vs,c,rfl,nv,fun b o' ho=>k b o' (Nat.ne_of_lt (Heap.lt_size ho)) (Heap.get?_push_of_some _ ho),o⟩
 have last:∀ (h':Heap) (d:_) (tk:Nat) (vs:List Value) (c:Nat),Nums vs ns->(∀ b o,s.heap.get? b=some o->h'.get? b=some o)->h'.get? s.heap.objs.size=some { cls := .type "list", dict:=none,data := .seq vs.toArray c,slots := #[] } ->
   wpAny (model prog w) A (load s.heap.objs.size >>= fun o=>match o.data with | .seq xs _=>pure xs.toList | _=>unsupported "internal:collect") R E { s with heap:=h',drawn:=d,toks:=tk }:=fun h' d tk vs c nv k o=>by
  refine wpAny_bind (wpAny_load o ?_)
  exact wpAny_pure (r h' d tk vs nv k)
 refine wpAny_mono key (fun fin s' y=>?_) fun e s' y=>nomatch y.1
 cases fin with
 | done f =>
  obtain ⟨e,h',d,tk,vs,c,rfl,nv,k,o⟩:=y
  cases e
  exact last h' d tk vs c nv k o
 | again c₁ =>
  refine ⟨y.1,codeAny_mono y.2 fun q s₂ z=>?_⟩
  obtain ⟨rfl,h',d,tk,vs,c,rfl,nv,k,o⟩:=z
  exact last h' d tk vs c nv k o
theorem ints_of:∀ {vs:List Value},(∀ v∈vs,∃ n t,v=Value.int n t)->IntsAre vs (vs.map Pu.numOf)
 | [],_=>IntsAre.nil
 | v :: vs,h=>by
  obtain ⟨n,t,rfl⟩:=h v mem_cons_self
  exact IntsAre.cons _ _ (ints_of fun v hv=>h v (mem_cons_of_mem _ hv))
theorem aVn(hh:A.handled=none)(x:iM (!xP w) a ns s.heap)(few:ns.length < 64)
  (q:∀ (D:Addr) (h':Heap) (d:_) (tk:Nat) (out:Array Value) (ns':List Int) (c:Nat),IntsAre out.toList ns'->ns'.Perm ns->ns'.Pairwise (· <= ·)->(∀ b o,s.heap.get? b=some o->h'.get? b=some o)->(∀ b o,s.heap.get? b=some o->b < D)->h'.get? D=some (seqObj "list" out c)->Q (.ref D) { s with heap:=h',drawn:=d,toks:=tk }) :
  wpAny (model prog w) A (call (.builtin "sorted") [.ref a]) Q E s:=by
 refine Calls.call_function_entry kind_sorted plain_sorted entry_sorted (args_sorted1 _) ?_
 unfold Builtin.«sorted»
 have fb:ns.length < scanBound:=by unfold scanBound;omega
 refine wpAny_bind (m:=checkCount "sorted" 1 1 _) (wpAny_pure (wpAny_bind (bCc (A:=A.in1) hh x fb fun h' d tk vs nv k=>?_)))
 have l64:vs.length < 64:=by rw [nv.len];exact few
 refine wpAny_bind (wpAny_newList ?_ (by rw [sizeLine_eq];omega))
 have o:(h'.push (seqObj "list" vs.toArray 0)).get? h'.objs.size=some (seqObj "list" vs.toArray 0):=Heap.get?_push_size _ rfl
 refine wpAny_bind (wpAny_holding (wpAny_call_entry slot_list_sort ⟨_,o,rfl⟩ entry_list_sort (list_sort_tree o (ints_of nv.2) l64 fun out ns' e1 e2 e3=>⟨_,rfl,?_⟩) (args_list_sort _)))
 obtain ⟨c,oc⟩:=sortedHeap_at (out:=out) o
 refine wpAny_pure ⟨_,rfl,q _ _ d tk out ns' c e1 (e2.trans nv.1) e3 (fun b ob hb=>?_) (fun b ob hb=>Heap.lt_size (k b ob hb)) oc⟩
 have l:=Heap.lt_size (k b ob hb)
 rw [sortedHeap_old (Nat.ne_of_lt l) (by rw [Heap.size_push];exact Nat.lt_succ_of_lt l)]
 exact Heap.get?_push_of_some _ (k b ob hb)
end
end Pu
namespace Pu
open PySem PySem.Spec PyProof.Rows L2
theorem aMb(ns:List Int):∀ k,k<=ns.length->aNo (fun i=>ns.getD i 0) k=aGv (ns.take k)
 | 0,_=>rfl
 | k+1,h=>by
  have e:ns.take (k+1)=ns.take k++[ns.getD k 0]:=by
   rw [List.take_add_one,getD_eq_getElem?_getD,List.getElem?_eq_getElem (show k < ns.length by omega)]
   rfl
  rw [e]
  show aNm (aNo _ k) _=_
  rw [aMb ns k (by omega)]
  unfold aGv
  rw [List.foldl_append]
  rfl
theorem bGo{l m:List Int}(h:m.Perm l)(hw:m.Pairwise (· <= ·)):m=aMv l:=List.Perm.eq_of_pairwise (le:=(· <= ·)) (fun a b _ _ h1 h2=>Int.le_antisymm h1 h2) hw (aOn l) (h.trans (aIt l).symm)
theorem aQb:∀ {us:List Value} {ns:List Int},IntsAre us ns->Vals (ns.map V.int) us
 | _,_,.nil => .nil
 | _,_,.cons n t h => .cons ⟨t,rfl⟩ (aQb h)
theorem aZ4(x:iI P w H h a o):∃ u,h.get? a=some u:=by
 cases o with
 | lst xs=>obtain ⟨_,_,_,_,e⟩:=x;exact ⟨_,e⟩
 | tup xs=>obtain ⟨_,_,_,o,e,_⟩:=x;exact ⟨_,e⟩
 | dK kvs=>obtain ⟨_,_,_,_,o,_,_,e,_⟩:=x;exact ⟨_,e⟩
 | dT kvs=>obtain ⟨_,_,_,_,o,_,_,e,_⟩:=x;exact ⟨_,e⟩
 | set S n=>obtain ⟨o,_,_,_,e,_⟩:=x;exact ⟨_,e⟩
 | ins C dx fs=>obtain ⟨_,_,_,e,_⟩:=x;exact ⟨_,e⟩
 | own y=>obtain ⟨_,e⟩:=x;exact ⟨_,e⟩
 | xd fs=>obtain ⟨_,⟨_,_,_,e,_⟩,_⟩:=x;exact ⟨_,e⟩
 | rng lo hi=>obtain ⟨_,_,_,e⟩:=x;exact ⟨_,e⟩
 | frz ob u=>obtain ⟨e,_⟩:=x;exact ⟨_,e⟩
 | tbl ps=>exact ⟨_,(show h.get? a=some _ from x)⟩
 | met f y=>exact ⟨_,(show h.get? a=some _ from x)⟩
 | ext φ=>obtain ⟨_,⟨_,e⟩,_⟩:=x;exact ⟨_,e⟩
section
variable   {a:Expr}  
theorem aVo(hc:X.calm=true):mC X (.type "set") (fun xs H Q=>∃ p ns,xs=[.ref p]/\SqL X.K H p (ns.map V.int)/\ns.length<=4000/\∀ l,H l=none->Q (.ref l) (upd H l (.ext (iM (!xP X.w) l (aGv ns))))):=by
 intro pins s σ H xs us Q I r h
 obtain ⟨p,ns,rfl,hq,hl,q⟩:=h
 obtain ⟨u,rfl,rx⟩:=vals1 r
 cases rx
 obtain ⟨its,r',pl,hz⟩:=I.list hq
 have hlen:=r'.length
 rw [length_map] at hlen
 refine bC5 (ns:=ns) (I.ok.hd hc) pl.isList (by simpa using aPz r') (by rw [List.size_toArray,<-hlen];show ns.length+1 < 4096;omega) fun h' tk hS hk=>?_
 rw [show its.toArray.size=ns.length by rw [List.size_toArray,hlen],aMb ns _ (Nat.le_refl _),List.take_length] at hS
 obtain ⟨es,ep,t,hIs⟩:=id hS
 exact ⟨.ref s.heap.objs.size,_,I.laid (t':=tk) (o := .ext (iM (!xP X.w) s.heap.objs.size (aGv ns))) hk (Nat.le_refl _) ⟨hS,⟨_,hIs.obj⟩,fun h1 h2 x k=>x.keep k⟩,rfl,q _ (I.hok.fresh (Nat.le_refl _))⟩
theorem aVp(hc:X.calm=true):mC X (.builtin "sorted") (fun xs H Q=>∃ p ns,xs=[.ref p]/\H p=some (.ext (iM (!xP X.w) p ns))/\ns.length < 64/\∀ l,H l=none->Q (.ref l) (upd H l (.lst ((aMv ns).map V.int)))):=by
 intro pins s σ H xs us Q I r h
 obtain ⟨p,ns,rfl,hq,hn,q⟩:=h
 obtain ⟨u,rfl,rx⟩:=vals1 r
 cases rx
 obtain ⟨hS,_,_⟩:=I.hok _ _ hq
 refine aVn (I.ok.hd hc) hS hn fun D h' d tk out ns' c ho hp hw hk hD hd=>?_
 obtain rfl:=bGo hp hw
 have hDn:H D=none:=by
  cases hH:H D with
  | none=>rfl
  | some o =>
   obtain ⟨u,e⟩:=aZ4 (I.hok D o hH)
   exact absurd (hD D u e) (Nat.lt_irrefl _)
 have sm:bA H (upd H D (.lst ((aMv ns).map V.int))):=cG hDn
 have hl:(aMv ns).length=ns.length:=(aIt ns).length_eq
 refine ⟨.ref D,upd H D (.lst ((aMv ns).map V.int)),I.step (g':=s.gens) (d':=d) (t':=tk) (ch:=[]) (fun _ z=>nomatch z) (fun b o _ _ _ e _=>hk b o e) (fun b o _ _ _ e _=>⟨o.slots,hk b o e⟩) (fun b o _ e n=>by rw [bM (Nat.ne_of_lt (hD b o e))];exact n) (fun b o _ e=>⟨o,hk b o e⟩) (fun b xs e=>sm _ _ e) (fun b o u e=>sm _ _ e) (fun b ps e=>⟨#[],by rw [sm _ _ e];simp⟩) (fun m ⟨o,es,ep,ho,r⟩=>⟨o,es,ep,hk _ o ho,r⟩) (fun b o e=>?_) I.bare,rfl,q _ hDn⟩
 by_cases hb:b=D
 ·subst hb
  rw [bT] at e
  cases e
  exact ⟨by rw [length_map,hl,sizeLine_eq];omega,out.toList,c,aQb ho,by simpa using hd⟩
 ·rw [bM hb] at e
  exact (I.hok b _ e).stay (fun b v _ q=>hk b v q) (fun b q=>sm _ _ q) fun b xs q=>sm _ _ q
theorem aQc{K:Frag}{H:Hp}:∀ (l:List Int),bD K H (l.map D.int) (l.map V.int)
 | [] => .nil
 | _ :: l => .cons (aQ.mpr rfl) (aQc l)
theorem aZ5(hm:X.mg "sorted" = none)(hm2:X.mg "set" = none)(hc:X.calm=true)(ha:PE X a (tP X.K B f))(hg:Gl X "sorted" := by rfl)(hg2:Gl X "set" := by rfl)(hs:starEach [.Call (.Name "set" p1) [a] [] p2] X.env=(false,eval (.Call (.Name "set" p1) [a] [] p2) X.env) :: starEach [] X.env:=by rfl)
  (hs2:starEach [a] X.env=(false,eval a X.env) :: starEach [] X.env:=by rfl):PE X (.Call (.Name "sorted" p0) [.Call (.Name "set" p1) [a] [] p2] [] pos) (tI X.K B (e1 aHw f)):=by
 refine cM (rA (aVp hc) hg hm PyProof.Rows.boot_sorted (dH (wR (aVo hc) hg2 hm2 PyProof.Rows.boot_set (dH ha iJ hs2) (he:=hs2)) iJ hs) (he:=hs)) ?_
 rintro σ H Q ⟨A,st,d,rs,hd,q⟩
 obtain ⟨x,hx,h2⟩:=R.ok_of hd
 cases x<;>first | (cases h2;done) | skip
 rename_i xs
 obtain ⟨l,hl,h3⟩:=R.ok_of h2
 obtain ⟨c,h4⟩:=aK h3
 cases h4
 refine ⟨A,st,_,rs,hx,fun v H1 s1 r1=>?_⟩
 obtain ⟨p,vs,e,h6,r6⟩:=r1.lst
 rw [wV hl] at r6
 rw [aM6 r6] at h6
 exact ⟨p,l,by rw [e],h6,c.1,fun n hn=>⟨n,_,rfl,bT,c.2,fun m hm'=>q _ _ (s1.trans ((cG hn).trans (cG hm'))) (gZ (rs.own.mono (s1.trans (cG hn))) hm' (aQc _))⟩⟩
end
section
variable    {iter c:Expr}  {t:Tg}  {u:Ex}
theorem aZ6(is:List Nat)(hsub:aJn is t)(S:CScope X scope is)(hi:L2.PI X tg iter (tIt X.K B it))(hg:∀ (B:List Addr) (C:Addr) (s₀:Shared) (H₀:Hp) (fp:List Addr),PG (cW X scope C s₀ H₀ fp) tg (tG X.K B t))
  (ht:∀ (B:List Addr) (C:Addr) (s₀:Shared) (H₀:Hp) (fp:List Addr),PT (cW X scope C s₀ H₀ fp) c (tT X.K B u))
  (he:∀ (B:List Addr) (C:Addr) (s₀:Shared) (H₀:Hp) (fp:List Addr),PE (cW X scope C s₀ H₀ fp) elt (tI X.K B f)) (hc:X.calm=true) (hs:∀ x,foldedSetIterable iter X.env x=pure x:=by intro _;rfl) :
  PE X (.ListComp elt [⟨tg,iter,[c],0⟩] scope pos) (tF X.K B (dX is t it u f)):=by
 intro pins s σ H Q I h
 obtain ⟨A,st,d,rs,hd,q⟩:=h
 obtain ⟨xs,hx,h2⟩:=R.ok_of hd
 obtain ⟨hl,h3⟩:=aK h2
 obtain ⟨ys,hy,h4⟩:=R.ok_of h3
 cases h4
 rw [eval_ListComp]
 refine xM (use:=none) (Qf:=EP X pins σ Q) (Q:=Q) (tt:=tTx X.K u) (te:=tIx X.K f) (rest:=fun env it p=>isTrue c env (eval c env) >>= fun ok=>if ok=true then (eval elt env >>= fun x=>call (.builtin "list.append") [p,x] >>= fun _=>again (.compLoop (.ListComp elt [⟨tg,iter,[c],0⟩] scope pos) 0 it p env)) else again (.compLoop (.ListComp elt [⟨tg,iter,[c],0⟩] scope pos) 0 it p env)) S hc hi (fun C s₀ H₀ fp=>aY6 fun B=>hg B C s₀ H₀ fp) (fun _ _ _=>uP)
  (fun C s₀ H₀ fp it p s Q h=>bG6 (Y:=cW X scope C s₀ H₀ fp) h) (fun C s₀ H₀ fp it p τ H s pins vs N Q I h q=>aY7 (Y:=cW X scope C s₀ H₀ fp) rfl (aY5 fun B=>he B C s₀ H₀ fp) (bG7 fun B=>ht B C s₀ H₀ fp) τ H s pins vs N Q I h (fun _ Q Q' m h=>aBk Q Q' m h) q) hs I
  (aPp hsub (fun τ H Q h=>h) rs hx hl hy fun p vs H1 H' s1 hp s2 hv r=>?_) fun C p H5 s5 m5 s3 H3 fp τ hC I3 hfp I5 hn5 q5=>⟨m5,hn5,fun h' hs'=>⟨.ref p,H5,aI9 I3 hfp hC I5 hs',rfl,q5⟩⟩
 obtain ⟨G,g1,g2,g3,g4⟩:=bMh s1 hp s2 hv r
 have:=q p vs G g1 g2 g4
 rw [g3] at this
 exact this
end
end Pu
namespace Pu
open PySem PySem.Spec PyProof.Rows L2
section
variable   {o x:Expr} {h:Ex} 
theorem bGp{K:Frag}   {t:Bool}   (rx:jV K A H (.dct t ks ds) v):∃ a,v = .ref a/\IsD H a:=by
 rcases rx with h | ⟨a,kk,o,ds',vs,e,e2,h,ko,r⟩
 ·obtain ⟨a,vs,e,q,r⟩:=vH.mp h
  rcases q with ⟨_,kvs,q1,_,_⟩ | ⟨_,kvs,q1,_,_⟩
  ·exact ⟨a,e,.inl ⟨kvs,.inl (bG _ _ _ _ q1)⟩⟩
  ·exact ⟨a,e,.inr ⟨kvs,.inl (bG _ _ _ _ q1)⟩⟩
 ·cases kk<;>cases e
  rcases ko with ⟨_,kvs,q1,_⟩ | ⟨_,kvs,q1,_⟩
  ·subst q1;exact ⟨a,e2,.inl ⟨kvs,.inl h⟩⟩
  ·subst q1;exact ⟨a,e2,.inr ⟨kvs,.inl h⟩⟩
theorem bCd{K:Frag}   {k z r:D} {u y:V}  (hv:v = .ref a) (rx:jV K A H d v) (ry:Rep K (hide A H) k u) (rz:Rep K (hide A H) z y) (hd:aGw d k z = .ok r):∃ ov,aCr H a u ov/\Rep K (hide A H) r (ov.getD y):=by
 unfold aGw at hd
 split at hd
 ·obtain ⟨hk,h2⟩:=aK hd
  obtain ⟨a',ov,e3,g,hs,g2⟩:=aI8 rx (ry.mono (bG _ _)) hk
  rw [hv] at e3
  cases e3
  refine ⟨ov,g,?_⟩
  split at h2
  ·obtain ⟨w,rfl,rw'⟩:=g2 r (aBi h2)
   exact rw'
  ·rename_i hn
   cases h2
   have:ov=none:=by
    cases ov with
    | none=>rfl
    | some w=>exact absurd (hs.symm.trans rfl) hn
   rw [this]
   exact rz
 ·cases hd
theorem aZ7{k z r:D}(hd:aGw d k z = .ok r):∃ t ks vs,d = .dct t ks vs:=by
 unfold aGw at hd
 split at hd
 ·exact ⟨_,_,_,rfl⟩
 ·cases hd
theorem bGq(hu:X.A.units+64 < cLine)(ho:PE X o (tP X.K B f))(he:PE X e (tI X.K B g))(m1:attributeBase o "get" X.env (eval o X.env)=eval o X.env:=by rfl)
  (m2:((backTo cpos (starEach [e] X.env)).all (fun x => !x.1)&&(backToKw cpos (keywordEach [] X.env)).all (fun x=>x.1.isSome)
   && decide (([e]:List Expr).length+([]:List Keyword).length+(if ([]:List Keyword).isEmpty then 0 else 1) < 30))=true:=by rfl)
  (m3:(apos.endLine==cpos.line)=true:=by rfl) (m4:backTo cpos (starEach [e] X.env)=[(false,eval e X.env)]:=by rfl):PE X (.Call (.Attribute o "get" apos) [e] [] cpos) (tI X.K B (bEx f g (eC .non))):=by
 refine cM (aWh (by omega) ho he ⟨m1,m2,m3,m4⟩) ?_
 rintro σ H Q ⟨A,st,r,rs,hr,q⟩
 obtain ⟨d,hd,h2⟩:=R.ok_of hr
 obtain ⟨k,hk,h3⟩:=R.ok_of h2
 have h4:aGw d k .non = .ok r:=h3
 refine ⟨A,st,d,rs,hd,fun v H1 s1 rx=>?_⟩
 obtain ⟨t,ks,vs,rfl⟩:=aZ7 h4
 obtain ⟨a,rfl,hD⟩:=bGp rx
 refine ⟨a,rfl,hD,A,st,k,rs.mono s1,hk,fun u H2 s2 ry=>?_⟩
 obtain ⟨ov,g1,g2⟩:=bCd rfl (rx.mono s2) ry (cJ.mpr rfl) h4
 exact ⟨ov,g1,q _ H2 (s1.trans s2) g2⟩
end
end Pu
namespace Pu
open PySem PySem.Spec PyProof.Rows L2
section
variable{X:Cx}{B:List Addr}{a b e:Expr}{es:List Expr}{f g:Ex}{r:Exs}{pos p0:Pos}{x:Str}
theorem bDk{A:Addr}(hn:nsIn X.K mainGlobals (Str.ofString F)=some (some (.ref A)))(hm:X.mg x=some (.ref A))(hg:Gl X x:=by rfl)(hd:(x==("__debug__" : Str))=false:=by decide):PE X (.Name x pos) (tI X.K B (eC (.fn F))) :=
 i_c (aE8 (v := .ref A) hg hm rfl hd) fun _=>aRe.mpr ⟨A,rfl,hn⟩
def aZ8(X:Cx)(i:Nat)(t:TA):TE:=fun σ H Q=>∃ (f:Addr) (k:Nat) (fd:FuncData) (ps:List Str) (sp:Sp),σ[i]?=some (some (.ref f))/\FnOk X.prog X.w X.K X.mg X.base CX0 k f fd ps sp/\Room k X.A/\keepIn X.K (.ref f)=true/\Binds X.K fd ps []/\t σ H fun vs H1=>sp (vs++[]) H1 Q E0
theorem aZ9{t:TA}(hN:X.N[i]?=some x)(hv:Vis X.env.scope x)(ha:PA X (e :: es) t)(hd:(x==("__debug__" : Str))=false)(hcd:(x==("__classdict__" : Str))=false)
  (he:starEach (e :: es) X.env=(false,eval e X.env) :: starEach es X.env) (hpl:(backTo pos (starEach es X.env)).any (·.1)=false):PE X (.Call (.Name x p0) (e :: es) [] pos) (aZ8 X i t):=by
 intro pins s σ H Q I h
 obtain ⟨f,k,fd,ps,sp,hσ,F,hr,hkp,hb,h⟩:=h
 obtain ⟨m,hn,hl⟩:=I.loc
 obtain ⟨u,ru,l⟩:=hl i x _ hN hσ hv
 obtain rfl:u=Value.ref f:=ru
 have fin:=PySem.W.callWith_K (h₀:=X.base) (pos:=pos) (first:=[]) I.ok.mod.kin hkp (thn (ha pos pins s σ H _ I h) fun us s1 ⟨vs,H1,I1,r,q⟩=>⟨I1.kIn,aIj F hr hb .nil aEa I1 r q⟩) he hpl
 refine wpAny_Call_Name_kw ?_
 rcases l with ⟨hk,hm⟩ | ⟨hk,c,hc,hcell⟩
 ·exact wpAny_Name (wpAny_loadName_local I.ok.kind hk hn hm fin) hd
 ·rcases hk with hk | hk
  ·exact wpAny_Name (wpAny_loadName_cell I.ok.kind hk hc hcell fin) hd
  ·exact wpAny_Name (wpAny_loadName_free I.ok.kind hk hc hcell fin hcd) hd
theorem aMc{k:Nat}      {Q:VK}  {a:Addr}  {st:PSt}  (h:DefOk X.prog X.w X.K X.mg X.base (Str.ofString F) k np p) (hr:Room j X.A) (hk:k<=j) (I:Inv X pins σ H s)
  (hn:nsIn X.K mainGlobals (Str.ofString F)=some (some (.ref a))) (e1:σ[i]?=some (some (.ref a))) (rs:RS X.K B A H st σ) (h2:(r st).bind p = .ok d) (q:∀ v H',bA H H'->Rep X.K (hide (A++B) H') d v->Q v H'):aZ8 X i (tA X.K B r) σ H Q:=by
 obtain ⟨fa,fd,ps,FF,m,kp,bd⟩:=h.ex
 have:=(mg_of I.ok.mod.kin I.ok.mod.glob hn).symm.trans m
 cases this
 obtain ⟨xs,hx,h3⟩:=R.ok_of h2
 refine ⟨_,k,fd,ps,_,e1,FF,hr.mono hk,kp,bd,A,st,xs,rs,hx,fun vs H1 s1 r1=>?_⟩
 show spI X.K np p (vs++[]) H1 Q E0
 rw [append_nil]
 exact ⟨A++B,xs,d,rs.own.mono s1,r1,h.len _ _ h3,h3,fun w H' s' r'=>q w H' (s1.trans s') r'⟩
theorem aZa(i:Nat){f1 f2:String}{k1 k2 n1 n2:Nat}{p1 p2:List D->R D}(h1:DefOk X.prog X.w X.K X.mg X.base (Str.ofString f1) k1 n1 p1)(h2:DefOk X.prog X.w X.K X.mg X.base (Str.ofString f2) k2 n2 p2)(hr:Room j X.A)(hk1:k1<=j)(hk2:k2<=j)(ha:PA X (e :: es) (tA X.K B r))
  (hN:X.N[i]?=some x:=by rfl) (hv:Vis X.env.scope x:=by first | exact Or.inl rfl | exact Or.inr (Or.inl rfl) | exact Or.inr (Or.inr rfl)) (hd:(x==("__debug__" : Str))=false:=by decide) (hcd:(x==("__classdict__" : Str))=false:=by decide)
  (he:starEach (e :: es) X.env=(false,eval e X.env) :: starEach es X.env:=by rfl) (hpl:(backTo pos (starEach es X.env)).any (·.1)=false:=by rfl):PE X (.Call (.Name x p0) (e :: es) [] pos) (tI X.K B (aRa [(f1,p1),(f2,p2)] i r)):=by
 intro pins s σ H Q I h
 refine aZ9 hN hv ha hd hcd he hpl pins s σ H Q I ?_
 obtain ⟨A,st,d,rs,hd,q⟩:=h
 unfold aRa at hd
 split at hd
 ·rename_i F e0
  obtain ⟨v,e1,rf⟩:=rs.val i _ e0
  obtain ⟨a,rfl,hn⟩:=aRe.mp rf
  obtain ⟨p,hp,h3⟩:=R.ok_of hd
  by_cases c1:F=f1
  ·subst c1
   have:p=p1:=by
    rw [List.lookup_cons_self] at hp
    cases hp;rfl
   subst this
   exact aMc h1 hr hk1 I hn e1 rs h3 q
  ·have b1:(F==f1)=false:=by simpa using c1
   rw [lookup_cons,b1] at hp
   by_cases c2:F=f2
   ·subst c2
    have:p=p2:=by
     rw [List.lookup_cons_self] at hp
     cases hp;rfl
    subst this
    exact aMc h2 hr hk2 I hn e1 rs h3 q
   ·have b2:(F==f2)=false:=by simpa using c2
    rw [lookup_cons,b2] at hp
    cases hp
 ·cases hd
def bCe(K:Frag)(T:Addr)(ns:List Int):Prop:=∃ (o:Obj) (its:Array Value) (n:Nat),K.lookup T=some o/\o.cls = .type "tuple" /\ o.data = .seq its n/\its.size<=sizeLine/\Vals (ns.map V.int) its.toList
theorem aMd{K:Frag}{H:Hp}:∀ (ns:List Int),bD K H (ns.map D.int) (ns.map V.int)
 | [] => .nil
 | _ :: ns => .cons (aQ.mpr rfl) (aMd ns)
theorem aCk:∀ (ns:List Int),iC (ns.map D.int)=0/\fK (ns.map D.int)=true
 | []=>⟨by unfold iC;rfl,by unfold fK;rfl⟩
 | _ :: ns=>⟨by rw [map_cons,aL7,(aCk ns).1];unfold dep;rfl,by rw [map_cons,nJ,(aCk ns).2];unfold plain;rfl⟩
theorem bCf(gt:bCe X.K T ns)   {Q:VK} (h:tI X.K B (e1 (aEk ns) f) σ H Q):tOp (aYi X.K true) (tP X.K B f) (L2.tC (V.ref T)) σ H Q:=by
 obtain ⟨A,st,d,rs,hd,q⟩:=h
 obtain ⟨y,hy,h2⟩:=R.ok_of hd
 obtain ⟨c,h3⟩:=aK h2
 cases h3
 refine ⟨A,st,y,rs,hy,fun v H1 s1 r1=>?_⟩
 exact .inr (.inl ⟨y,ns.map D.int,ns.map V.int,T,rfl,.inr (.inr gt),r1.rep,aMd ns,by rw [(aCk ns).1];exact zero_le _,c,(aCk ns).2,q _ H1 s1 (bF.mpr rfl)⟩)
theorem aZb(gt:bCe X.K T ns)(hm:X.mg x=some (.ref T))(hu:X.A.units+64 < cLine)(ha:PE X a (tP X.K B f))(hg:Gl X x:=by rfl)(hd:(x==("__debug__" : Str))=false:=by decide):PT X (.Compare a [.NotIn] [.Name x p0] pos) (tT X.K B (e1 (aEk ns) f)) :=
 aN9 (aS1 (nQ hu) ha (aE8 (v := .ref T) hg hm rfl hd) rfl) fun _ _ _ h=>bCf gt (bFu h)
theorem aZc(ha:PA X es (tA X.K B r))(hb:PE X b (tP X.K B g)):PE X (.BinOp (.List es p1) .Mult b pos) (tI X.K B (aIu r g)):=by
 refine cM (bCk bEi (aQz ha) hb) ?_
 rintro σ H Q ⟨A,st,d,rs,hd,q⟩
 obtain ⟨xs,hx,h2⟩:=R.ok_of hd
 obtain ⟨y,hy,h3⟩:=R.ok_of h2
 obtain ⟨j,rfl,h4⟩:=aR7 h3
 obtain ⟨⟨c0,c1,c2,c3⟩,h5⟩:=aK h4
 cases h5
 refine ⟨A,st,xs,rs,hx,fun vs H1 s1 r1=>⟨by rw [r1.length];exact lim c0,fun p hp=>?_⟩⟩
 have s2:=s1.trans (cG (o := .lst vs) hp)
 refine ⟨A,st,_,rs.mono s2,hy,fun v H2 s3 r2=>?_⟩
 refine ⟨p,j,vs,rfl,r2.int,s3 _ _ bT,by omega,by omega,by rw [r1.length];exact lim c1,fun n hn=>?_⟩
 refine q _ _ (s2.trans (s3.trans (cG hn))) (gZ (rs.own.mono (s2.trans s3)) hn ?_)
 exact ((r1.mono (bA.hide (cG hp))).mono (bA.hide s3)).rep j.toNat
theorem aQd{G:Hp}{a:Addr}(hG:∀ b,b≠a->G b=H b)(hn:H a=none):hide (a :: A) G=hide A H:=by
 funext b
 by_cases hb:b=a
 ·subst hb
  rw [eY mem_cons_self]
  by_cases h2:b∈A
  ·rw [eY h2]
  ·rw [bY h2,hn]
 ·by_cases h2:b∈A
  ·rw [eY h2,eY (mem_cons_of_mem _ h2)]
  ·rw [bY h2,bY (fun z=>(List.mem_cons.mp z).elim hb h2),hG b hb]
theorem RS.more{K:Frag}   {st:PSt}  {a:Addr}  (rs:RS K B A H st σ) (hn:H a=none):RS K B (a :: A) (upd H a o) st σ:=by
 have e:hide ((a :: A)++B) (upd H a o)=hide (A++B) H:=aQd (fun b hb=>bM hb) hn
 refine ⟨rs.len,fun b hb=>?_,fun b hb=>?_,fun i d z=>?_,fun i k xs z=>?_⟩
 ·rcases List.mem_cons.mp hb with rfl | hb
  ·rw [bT];rfl
  ·exact rs.own.mono (cG hn) b hb
 ·rcases List.mem_cons.mp hb with rfl | hb
  ·exact fun h2=>rs.own.free hn (List.mem_append_right _ h2)
  ·exact rs.dis b hb
 ·rw [e];exact rs.val i d z
 ·rw [e]
  obtain ⟨l,o',vs,e1,m,h,ko,q,u⟩:=rs.lst i k xs z
  exact ⟨l,o',vs,e1,mem_cons_of_mem _ m,cG hn _ _ h,ko,q,u⟩
theorem bCg(i:Nat)  (hk:PE X a (tI X.K B g)) (hv:PE X b (tI X.K B f)) (hN:X.N.Nodup) (hi:X.N[i]?=some x:=by rfl) (hx:Loc X.env.scope x:=by first | exact Or.inl rfl | exact Or.inr rfl) (hs:swapsWith (.Dict [some a] [b] dp) (some (.Name x pos')) pos.line X.env=pure false:=by rfl)
  (hf:X.fn x=true\/X.env.scope.names.lookup x=some .local:=by first | exact .inl rfl | exact .inr rfl | assumption):PS X (.Assign [.Name x pos'] (.Dict [some a] [b] dp) pos) (tS X.K B (aMw i g f)):=lX (aFy hN hi hx (aS7 (aOi hk hv aS6) rfl rfl (by simp) (show 1<=15 by omega)) hs hf) (by
 rintro Dn σ H ⟨A,st,r,rs,hr,p⟩
 obtain ⟨k,hk,h2⟩:=R.ok_of hr
 obtain ⟨d,hd,h3⟩:=R.ok_of h2
 obtain ⟨c1,h4⟩:=aK h3
 cases h4
 intro a ha
 have rs':=rs.more (o := .dK []) ha
 refine ⟨a :: A,st,k,rs',hk,fun u H1 s1 r1=>⟨a :: A,st,d,rs'.mono s1,hd,fun v H2 s2 r2=>?_⟩⟩
 have e2:H2 a=some (.dK []):=s2 _ _ (s1 _ _ bT)
 obtain ⟨kk,ek,ev⟩:∃ kk:Key,mK kk=k/\u=kV kk:=by
  cases k<;>first | (cases c1;done) | skip
  ·exact ⟨.inl _,rfl,aQ.mp r1⟩
  ·refine ⟨.inr ⟨_⟩,?_,aZ.mp r1⟩
   simp [mK]
 refine ⟨e2,[(kk,v)],by rw [ev];rfl,(show 1<=15 by omega),?_⟩
 let G:Hp:=fun b=>if b=a then none else H2 b
 have hG:∀ b,b≠a->G b=H2 b:=fun b hb=>if_neg hb
 have sG:bA H G:=fun b o z=>by
  have hb:b≠a:=aX z ha
  rw [hG b hb]
  exact s2 _ _ (s1 _ _ (by rw [bM hb];exact z))
 have gN:G a=none:=if_pos rfl
 have eG:upd H2 a (.dK (aDj [] [(kk,v)]))=upd G a (.dK [(kk,v)]):=by
  funext b
  by_cases hb:b=a
  ·subst hb;rw [bT,bT];rfl
  ·rw [bM hb,bM hb,hG b hb]
 rw [eG]
 have r3:Rep X.K (hide (A++B) G) d v:=by
  have e:hide ((a :: A)++B) H2=hide (A++B) G:=aQd (fun b hb=>(hG b hb).symm) gN
  rw [<-e];exact r2
 exact p (a :: A) _ _ ((Le.of sG).trans (aJe gN)) ((rs.mono sG).setO (kk := .d false [k]) i gN (.inl ⟨rfl,[(kk,v)],rfl,by rw [<-ek];rfl,rfl⟩) (.cons r3 .nil)))
end
end Pu
namespace Pu
open PySem PySem.Spec PyProof.Rows L2
structure Mk0(K:Frag)(C:Addr):Prop where
 makes:makesIn K C=true
 init:findIn K (.ref C) "__init__" = some (some (.builtin "object.__init__"))
 kp:keepIn K (.ref C)=true
structure IsC(K:Frag)(C:Addr):Prop where
 one:kitOne K (.ref C) (.ref C)=some true
 at_:findIn K (.ref C) "__class__" = some (some (.builtin "object.__class__"))
 get:specialIn K (.builtin "object.__class__") "__get__" = some (some (.builtin "getset_descriptor.__get__"))
 tak:takesIn K (.builtin "object.__class__")=some true
 top:mroIn K C (.type "object")=some true
section
variable   {a b:Expr}  
theorem aH9(hf:PE X e (tI X.K B f))(hg:PE X e (tI X.K B g)):PE X e (tI X.K B (aIv f g)):=by
 intro pins s σ H Q I h
 obtain ⟨A,st,d,rs,hd,q⟩:=h
 rcases bEy hd with h | h
 ·exact hf pins s σ H Q I ⟨A,st,d,rs,h,q⟩
 ·exact hg pins s σ H Q I ⟨A,st,d,rs,h,q⟩
theorem aJz(n:Mk0 X.K C)(hc:ClsAt X.K c C)(hm:X.mg (Str.ofString c)=some (.ref C))(hg:Gl X (Str.ofString c):=by rfl)(hdb:(Str.ofString c==("__debug__" : Str))=false:=by decide) :
  PE X (.Call (.Name (Str.ofString c) p0) [] [] pos) (tI X.K B (aLb c)):=by
 intro pins s σ H Q I h
 obtain ⟨A,st,d,rs,hd,q⟩:=h
 cases hd
 refine wpAny_Call_Name_kw (aE7 I hg hm ?_ hdb)
 refine PySem.W.callWith_K0 I.kIn n.kp ?_
 have Y:=PySem.W.makes_of (M:=model X.prog X.w) I.kIn n.makes
 refine wpAny_call (aUd I.kIn n.makes n.init (fun self=>PySem.W.Looks.of_pure (PySem.W.oi_bind self)) ?_)
 have hx:((s.heap.push emptyDict).push (instObj C s.heap.objs.size)).get? (s.heap.objs.size+1)=some (instObj C s.heap.objs.size):=by
  have:=Heap.get?_push_size (s.heap.push emptyDict) (o:=instObj C s.heap.objs.size) rfl
  rwa [Heap.size_push] at this
 have t1:Looks (model X.prog X.w) ((s.heap.push emptyDict).push (instObj C s.heap.objs.size)) (typeOf (.ref (s.heap.objs.size+1))) (.ref C):=(PySem.W.Looks.ld hx).andThen .now
 have t2:Looks (model X.prog X.w) ((s.heap.push emptyDict).push (instObj C s.heap.objs.size)) (isInstance (.ref (s.heap.objs.size+1)) (.type "object")) true:=t1.andThen (Y.top.keeps fun b o z=>Heap.get?_push_of_some _ (Heap.get?_push_of_some _ z))
 refine codeAny_call_builtin PySem.W.oi_plain PySem.W.entry_oi (@PySem.W.check_slot (model X.prog X.w) _ _ _ "object.__init__" "object" "__init__" (.ref (s.heap.objs.size+1)) [] [] _ PySem.W.oi_kind PySem.W.oi_split t2 (PySem.W.oi_args (.ref (s.heap.objs.size+1))) ?_)
 rw [PySem.W.oi_run]
 refine wpAny_pure (And.intro rfl ?_)
 have hx0:H (s.heap.objs.size+1)=none:=I.hok.fresh (le_succ _)
 have hdx:H s.heap.objs.size=none:=I.hok.fresh (Nat.le_refl _)
 refine ⟨V.ref (s.heap.objs.size+1),_,Inv.made (C:=C) I,rfl,q _ _ (fun b u z=>?_) ?_⟩
 ·rw [bM (aX z hx0),bM (aX z hdx)];exact z
 ·refine aI7.mpr ⟨_,C,s.heap.objs.size,[],[],rfl,?_,hc.ns,rfl,rfl,.nil⟩
  rw [bY (rs.own.free hx0)]
  exact bT
theorem aZd:mC X (.builtin "isinstance") (fun xs H Q=>∃ l C dx fs,xs=[.ref l,.ref C]/\H l=some (.ins C dx fs)/\Cls X.K C/\IsC X.K C/\Q (.bl true) H):=by
 intro pins s σ H xs us Q I r q
 obtain ⟨l,C,dx,fs,rfl,hl,hc,hi,q⟩:=q
 obtain ⟨u1,u2,rfl,r1,r2⟩:=r.two
 have e2:u2=Value.ref C:=r2
 subst e2
 exact aUf I r1 (.ins hl hc hi.at_ hi.get hi.tak hi.top) hi.one fun tk=>⟨.bl true,H,I.tok tk,rfl,q⟩
theorem bK6(hm:X.mg "isinstance" = none)(hc:ClsAt X.K c C)(hD:X.mg (Str.ofString c)=some (.ref C))(hi:IsC X.K C)(ha:PE X a (tP X.K B f))(hg:Gl X "isinstance" := by rfl)(hg2:Gl X (Str.ofString c):=by rfl)(hdb:(Str.ofString c==("__debug__" : Str))=false:=by decide)
  (hs:starEach [a,.Name (Str.ofString c) p1] X.env=(false,eval a X.env) :: starEach [.Name (Str.ofString c) p1] X.env:=by rfl) (hs2:starEach [.Name (Str.ofString c) p1] X.env=(false,eval (.Name (Str.ofString c) p1) X.env) :: starEach [] X.env:=by rfl) :
  PE X (.Call (.Name "isinstance" p0) [a,.Name (Str.ofString c) p1] [] pos) (tI X.K B (e1 (bAi c) f)):=by
 refine cM (rA aZd hg hm boot_isinstance (dH ha (dH (aE8 (v := .ref C) hg2 hD rfl hdb) iJ hs2) hs) (he:=hs)) ?_
 rintro σ H Q ⟨A,st,d,rs,hd,q⟩
 obtain ⟨x,hx,h2⟩:=R.ok_of hd
 refine ⟨A,st,x,rs,hx,fun v H1 s1 r1=>?_⟩
 cases x<;>first | (cases h2;done) | skip
 obtain ⟨e1,h3⟩:=aK h2
 subst e1
 cases h3
 obtain ⟨p,C',dx,fs,e2,h4,h5,h6,h7⟩:=r1.ins
 subst e2
 have:C'=C:=by have z:=h5.symm.trans hc.ns;injection z with z;injection z with z;injection z
 subst this
 exact ⟨p,C',dx,fs,rfl,h4,hc.cl,hi,q _ H1 s1 (bF.mpr rfl)⟩
theorem aZe{k:Nat}   (h:DefOk X.prog X.w X.K X.mg X.base x k 0 p) (hr:Room j X.A) (hk:k<=j) (hg:Gl X x:=by rfl) (hdb:(x==("__debug__" : Str))=false:=by decide):PE X (.Call (.Name x p0) [] [] pos) (tI X.K B (aP p aN)):=by
 obtain ⟨fa,fd,ps,F,m,kp,bd⟩:=h.ex
 refine cM (aWa F (hr.mono hk) hg m kp bd .nil aEa hdb) ?_
 rintro σ H Q ⟨A,st,d,rs,hd,q⟩
 exact ⟨A++B,[],d,rs.own,.nil,rfl,hd,fun w H' s' r'=>q w H' s' r'⟩
theorem bGr(i j:Nat){y fx:Str}{k jj:Nat}  {cp:Pos} (h:DefOk X.prog X.w X.K X.mg X.base fx k 2 p) (hr:Room jj X.A) (hk:k<=jj) (he:PE X e (tI X.K B f)) (hN:X.N.Nodup) (hi:X.N[i]?=some x:=by rfl) (hj:X.N[j]?=some y:=by rfl)
  (hx:Loc X.env.scope x:=by first | exact Or.inl rfl | exact Or.inr rfl) (hv:Vis X.env.scope y:=by first | exact Or.inl rfl | exact Or.inr (Or.inl rfl) | exact Or.inr (Or.inr rfl)) (hd:(y==("__debug__" : Str))=false:=by decide) (hcd:(y==("__classdict__" : Str))=false:=by decide)
  (hg:Gl X fx:=by rfl) (hdb:(fx==("__debug__" : Str))=false:=by decide) (hbase:attributeBase (.Name y p1) "pop" X.env (eval (.Name y p1) X.env)=eval (.Name y p1) X.env:=by rfl) (hline:(apos.endLine==cpos.line)=true:=by rfl)
  (hs2:starEach [.Call (.Attribute (.Name y p1) "pop" apos) [] [] cpos] X.env=(false,eval (.Call (.Attribute (.Name y p1) "pop" apos) [] [] cpos) X.env) :: starEach [] X.env:=by rfl)
  (hs1:starEach [e,.Call (.Attribute (.Name y p1) "pop" apos) [] [] cpos] X.env=(false,eval e X.env) :: starEach [.Call (.Attribute (.Name y p1) "pop" apos) [] [] cpos] X.env:=by rfl)
  (hpl:(backTo cp (starEach [.Call (.Attribute (.Name y p1) "pop" apos) [] [] cpos] X.env)).any (·.1)=false:=by rfl)
  (hs:swapsWith (.Call (.Name fx p0) [e,.Call (.Attribute (.Name y p1) "pop" apos) [] [] cpos] [] cp) (some (.Name x pos')) pos.line X.env=pure false:=by rfl)
  (hf:X.fn x=true\/X.env.scope.names.lookup x=some .local:=by first | exact .inl rfl | exact .inr rfl | assumption) :
  PS X (.Assign [.Name x pos'] (.Call (.Name fx p0) [e,.Call (.Attribute (.Name y p1) "pop" apos) [] [] cpos] [] cp) pos) (tS X.K B (aWv i j p f)):=by
 obtain ⟨fa,fd,ps,F,m,kp,bd⟩:=h.ex
 refine lX (aFy hN hi hx (aMm F (hr.mono hk) hg m kp bd .nil aEa (dH he (dH (aR0 PySem.F.plainAttrs_list PySem.F.slot_list_pop PySem.F.type_list_pop bEh (yD hj hv hd hcd) hbase hline) iJ hs2) hs1) hdb hs1 hpl) hs hf) ?_
 rintro Dn σ H ⟨A,st,r,rs,hr,pc⟩
 obtain ⟨x',hx',h3⟩:=R.ok_of hr
 split at h3
 ·rename_i ys e1
  split at h3
  ·rename_i d ed
   obtain ⟨c,h4⟩:=aK h3
   obtain ⟨y',hy,h5⟩:=R.ok_of h4
   cases h5
   obtain ⟨l,o,vs,e2,ml,h1,ko,q,u⟩:=rs.lst j _ ys e1
   have eo:o = .lst vs:=ko
   subst eo
   refine ⟨A,st,x',rs,hx',fun v H' s rv=>?_⟩
   have ql:=q.length
   have q':=q.mono (bA.hide s)
   rw [List.getLast?_eq_getElem?] at ed
   obtain ⟨w,hw,rw'⟩:=q'.get ed
   obtain ⟨w1,w2⟩:=(rs.mono s).write e1 e2 (k1 := .l) (ds:=ys.dropLast) (vs':=vs.dropLast) rfl (by
    rw [List.dropLast_eq_take,List.dropLast_eq_take,ql]
    exact q'.take _)
   refine ⟨.ref l,e2,.inl ⟨rfl,vs,SqL.of (s _ _ h1)⟩,l,vs,w,rfl,rfl,s _ _ h1,by rw [ql];exact hw,?_⟩
   have hh:hide (A++B) (upd H' l (.lst vs.dropLast))=hide (A++B) H':=aBe (List.mem_append_left _ ml)
   refine ⟨A++B,[x',d],y',w1.own,?_,rfl,hy,fun z H3 s3 r3=>pc A _ H3 ((Le.of s).trans (w2.trans (Le.of s3))) ((w1.mono s3).set i r3)⟩
   rw [hh]
   exact .cons rv (.cons rw' .nil)
  ·cases h3
 ·cases h3
end
end Pu
set_option maxHeartbeats 4000000
namespace Pu
open PySem PySem.Spec PyProof.Rows L2
def top(i:Nat):Stmt:=PySem.Challenge.pw_looprank_k83_whole_up_to_and_from_on.main.body.getD i (.Pass ⟨0,0,0,0⟩)
def inCls(s:Stmt)(j:Nat):Stmt:=match s with
 | .ClassDef _ _ _ b _ _ _ _ _ _ _=>b.getD j (.Pass ⟨0,0,0,0⟩)
 | _ => .Pass ⟨0,0,0,0⟩
abbrev aBm:Stmt:=top 72
abbrev aBn:Stmt:=top 73
abbrev wK:Stmt:=top 74
abbrev aDz:Stmt:=top 15
abbrev zA:Stmt:=top 29
abbrev aE0:Stmt:=top 16
abbrev qF:Stmt:=top 30
abbrev iQ:Stmt:=top 34
abbrev lK:Stmt:=top 33
abbrev aBo:Stmt:=top 23
abbrev qG:Stmt:=top 17
abbrev aK0:Stmt:=top 18
abbrev aBp:Stmt:=top 19
abbrev aBq:Stmt:=top 20
abbrev eU:Stmt:=inCls (top 21) 0
abbrev zB:Stmt:=top 35
abbrev aNp:Stmt:=top 36
abbrev aGf:Stmt:=top 37
abbrev zE:Stmt:=top 76
abbrev aBr:Stmt:=top 69
abbrev iR:Stmt:=inCls (top 64) 0
abbrev gP:Stmt:=inCls (top 65) 0
abbrev iT:Stmt:=inCls (top 66) 0
abbrev lM:Stmt:=inCls (top 67) 0
abbrev iU:Stmt:=inCls (top 68) 0
abbrev aE1:Stmt:=top 40
abbrev aE2:Stmt:=top 41
abbrev aGg:Stmt:=top 39
abbrev zF:Stmt:=top 43
abbrev aBs:Stmt:=top 42
abbrev aBt:Stmt:=top 44
abbrev sV:Stmt:=top 53
abbrev zG:Stmt:=top 45
abbrev wL:Stmt:=top 46
abbrev zH:Stmt:=top 47
abbrev aE3:Stmt:=top 49
abbrev uR:Stmt:=top 54
abbrev sW:Stmt:=top 55
abbrev sX:Stmt:=top 24
abbrev aGh:Stmt:=top 48
abbrev aK1:Stmt:=top 51
abbrev dJ:Stmt:=inCls (top 21) 3
abbrev aE4:Stmt:=top 52
abbrev aGi:Stmt:=top 59
abbrev dU:Stmt:=inCls (top 21) 1
abbrev aGj:Stmt:=top 10
abbrev dW:Stmt:=inCls (top 21) 2
abbrev gQ:Stmt:=inCls (top 21) 5
abbrev zJ:Stmt:=top 61
abbrev jP:Stmt:=inCls (top 64) 1
abbrev iV:Stmt:=inCls (top 65) 1
abbrev wM:Stmt:=top 57
abbrev aGk:Stmt:=top 50
abbrev wN:Stmt:=top 58
abbrev zK:Stmt:=top 62
abbrev jQ:Stmt:=inCls (top 66) 1
abbrev nR:Stmt:=inCls (top 67) 1
abbrev jR:Stmt:=inCls (top 68) 1
abbrev aE5:Stmt:=top 70
abbrev sY:Stmt:=top 82
abbrev zL:Stmt:=top 31
abbrev wO:Stmt:=top 32
abbrev aBu:Stmt:=top 75
abbrev zM:Stmt:=top 80
abbrev zN:Stmt:=top 78
abbrev wQ:Stmt:=top 77
abbrev zO:Stmt:=top 79
abbrev zP:Stmt:=top 11
abbrev iW:Stmt:=inCls (top 21) 6
abbrev iY:Stmt:=inCls (top 21) 7
abbrev sZ:Stmt:=top 81
abbrev aFi:Stmt:=top 83
theorem aFj:FnScope ["_law_script", "_law_k", "_law_rest"] ["_law_script", "_law_k"] (aF aBm):=⟨rfl,rfl,rfl,by decide +kernel,rfl,by decide +kernel,by decide +kernel⟩
theorem aFk:FnScope ["_law_cell_here", "_law_k", "_law_many", "_law_number_here"] ["_law_cell_here", "_law_k", "_law_many"] (aF aBn):=⟨rfl,rfl,rfl,by decide +kernel,rfl,by decide +kernel,by decide +kernel⟩
theorem aBv:FnScope ["_law_cell_here", "_law_sizes", "_law_found", "_law_size"] ["_law_cell_here", "_law_sizes"] (aF wK):=⟨rfl,rfl,rfl,by decide +kernel,rfl,by decide +kernel,by decide +kernel⟩
theorem aHa:FnScope ["thing"] ["thing"] (aF aDz):=⟨rfl,rfl,rfl,by decide +kernel,rfl,by decide +kernel,by decide +kernel⟩
theorem aD4:FnScope ["thing"] ["thing"] (aF zA):=⟨rfl,rfl,rfl,by decide +kernel,rfl,by decide +kernel,by decide +kernel⟩
theorem aHb:FnScope ["thing", "limit"] ["thing", "limit"] (aF aE0):=⟨rfl,rfl,rfl,by decide +kernel,rfl,by decide +kernel,by decide +kernel⟩
theorem vI:FnScope ["top", "bottom", "base"] ["top", "bottom", "base"] (aF qF):=⟨rfl,rfl,rfl,by decide +kernel,rfl,by decide +kernel,by decide +kernel⟩
theorem aAb:FnScope ["rest", "bottom"] ["rest", "bottom"] (aF iQ):=⟨rfl,rfl,rfl,by decide +kernel,rfl,by decide +kernel,by decide +kernel⟩
theorem aD5:FnScope ["rest", "bottom"] ["rest", "bottom"] (aF lK):=⟨rfl,rfl,rfl,by decide +kernel,rfl,by decide +kernel,by decide +kernel⟩
theorem aFl:FnScope ["steps", "start", "allowed", "ways", "met", "place", "here", "letter", "room"] ["steps", "start", "allowed"] (aF aBo):=⟨rfl,rfl,rfl,by decide +kernel,rfl,by decide +kernel,by decide +kernel⟩
theorem vJ:FnScope ["thing", "most"] ["thing", "most"] (aF qG):=⟨rfl,rfl,rfl,by decide +kernel,rfl,by decide +kernel,by decide +kernel⟩
theorem aMe:FnScope ["thing", "letters", "rooms", "room"] ["thing", "letters", "rooms"] (aF aK0):=⟨rfl,rfl,rfl,by decide +kernel,rfl,by decide +kernel,by decide +kernel⟩
theorem aFm:FnScope ["thing", "row"] ["thing"] (aF aBp):=⟨rfl,rfl,rfl,by decide +kernel,rfl,by decide +kernel,by decide +kernel⟩
theorem aFn:FnScope ["thing", "rooms", "rank"] ["thing", "rooms"] (aF aBq):=⟨rfl,rfl,rfl,by decide +kernel,rfl,by decide +kernel,by decide +kernel⟩
theorem tD:FnScope ["self", "steps", "ranks", "row"] ["self", "steps", "ranks"] (aF eU):=⟨rfl,rfl,rfl,by decide +kernel,rfl,by decide +kernel,by decide +kernel⟩
theorem aD6:FnScope ["top", "bottom", "base", "room_for", "steps", "here", "rooms", "ranks", "digit", "goal"] ["top", "bottom", "base", "room_for"] (aF zB):=⟨rfl,rfl,rfl,by decide +kernel,rfl,by decide +kernel,by decide +kernel⟩
theorem aQe:FnScope ["top", "bottom", "base"] ["top", "bottom", "base"] (aF aNp):=⟨rfl,rfl,rfl,by decide +kernel,rfl,by decide +kernel,by decide +kernel⟩
theorem aK2:FnScope ["top", "bottom", "base"] ["top", "bottom", "base"] (aF aGf):=⟨rfl,rfl,rfl,by decide +kernel,rfl,by decide +kernel,by decide +kernel⟩
theorem aD7:FnScope ["_law_one", "_law_other", "_law_rest"] ["_law_one", "_law_other"] (aF zE):=⟨rfl,rfl,rfl,by decide +kernel,rfl,by decide +kernel,by decide +kernel⟩
theorem aFo:FnScope [] [] (aF aBr):=⟨rfl,rfl,rfl,by decide +kernel,rfl,by decide +kernel,by decide +kernel⟩
theorem aAc:FnScope ["self"] ["self"] (aF iR):=⟨rfl,rfl,rfl,by decide +kernel,rfl,by decide +kernel,by decide +kernel⟩
theorem xQ:FnScope ["self"] ["self"] (aF gP):=⟨rfl,rfl,rfl,by decide +kernel,rfl,by decide +kernel,by decide +kernel⟩
theorem aAd:FnScope ["self"] ["self"] (aF iT):=⟨rfl,rfl,rfl,by decide +kernel,rfl,by decide +kernel,by decide +kernel⟩
theorem aD8:FnScope ["self"] ["self"] (aF lM):=⟨rfl,rfl,rfl,by decide +kernel,rfl,by decide +kernel,by decide +kernel⟩
theorem aAe:FnScope ["self"] ["self"] (aF iU):=⟨rfl,rfl,rfl,by decide +kernel,rfl,by decide +kernel,by decide +kernel⟩
theorem aHc:FnScope ["bits", "room"] ["bits", "room"] (aF aE1):=⟨rfl,rfl,rfl,by decide +kernel,rfl,by decide +kernel,by decide +kernel⟩
theorem aHd:FnScope ["bits", "room"] ["bits"] (aF aE2):=⟨rfl,rfl,rfl,by decide +kernel,rfl,by decide +kernel,by decide +kernel⟩
theorem aK3:FnScope ["rooms", "bits", "room"] ["rooms"] (aF aGg):=⟨rfl,rfl,rfl,by decide +kernel,rfl,by decide +kernel,by decide +kernel⟩
theorem aD9:FnScope ["steps", "allowed", "rooms", "seen", "room", "middle"] ["steps", "allowed"] (aF zF):=⟨rfl,rfl,rfl,by decide +kernel,rfl,by decide +kernel,by decide +kernel⟩
theorem aFp:FnScope ["machine"] ["machine"] (aF aBs):=⟨rfl,rfl,rfl,by decide +kernel,rfl,by decide +kernel,by decide +kernel⟩
theorem aFq:FnScope ["machine", "room"] ["machine", "room"] (aF aBt):=⟨rfl,rfl,rfl,by decide +kernel,rfl,by decide +kernel,by decide +kernel⟩
theorem xR:FnScope ["machine", "allowed", "wanted", "ranks", "rank", "room"] ["machine", "allowed", "wanted"] (aF sV):=⟨rfl,rfl,rfl,by decide +kernel,rfl,by decide +kernel,by decide +kernel⟩
theorem aDa:FnScope ["steps", "part", "rooms"] ["steps", "part"] (aF zG):=⟨rfl,rfl,rfl,by decide +kernel,rfl,by decide +kernel,by decide +kernel⟩
theorem aBw:FnScope ["steps", "allowed", "seen", "parts", "room", "part", "other"] ["steps", "allowed"] (aF wL):=⟨rfl,rfl,rfl,by decide +kernel,rfl,by decide +kernel,by decide +kernel⟩
theorem aDb:FnScope ["machine", "allowed"] ["machine", "allowed"] (aF zH):=⟨rfl,rfl,rfl,by decide +kernel,rfl,by decide +kernel,by decide +kernel⟩
theorem aHe:FnScope ["machine", "bits", "room"] ["machine", "bits"] (aF aE3):=⟨rfl,rfl,rfl,by decide +kernel,rfl,by decide +kernel,by decide +kernel⟩
theorem aAf:FnScope ["machine", "allowed", "rank", "low", "part", "room"] ["machine", "allowed", "rank"] (aF uR):=⟨rfl,rfl,rfl,by decide +kernel,rfl,by decide +kernel,by decide +kernel⟩
theorem xT:FnScope ["machine", "allowed", "wanted", "found", "rank"] ["machine", "allowed", "wanted"] (aF sW):=⟨rfl,rfl,rfl,by decide +kernel,rfl,by decide +kernel,by decide +kernel⟩
theorem xU:FnScope ["machine", "ways"] ["machine"] (aF sX):=⟨rfl,rfl,rfl,by decide +kernel,rfl,by decide +kernel,by decide +kernel⟩
theorem aK4:FnScope ["machine", "bits"] ["machine", "bits"] (aF aGh):=⟨rfl,rfl,rfl,by decide +kernel,rfl,by decide +kernel,by decide +kernel⟩
theorem aMf:FnScope ["machine", "allowed", "room", "goal"] ["machine", "allowed", "room", "goal"] (aF aK1):=⟨rfl,rfl,rfl,by decide +kernel,rfl,by decide +kernel,by decide +kernel⟩
theorem oZ:FnScope ["self", "room", "text", "rooms", "letter"] ["self", "room", "text"] (aF dJ):=⟨rfl,rfl,rfl,by decide +kernel,rfl,by decide +kernel,by decide +kernel⟩
theorem aHf:FnScope ["machine", "bits", "room", "text", "here", "goal"] ["machine", "bits", "room"] (aF aE4):=⟨rfl,rfl,rfl,by decide +kernel,rfl,by decide +kernel,by decide +kernel⟩
theorem aK5:FnScope ["machine", "row", "entries", "room", "front", "entry", "loop"] ["machine", "row"] (aF aGi):=⟨rfl,rfl,rfl,by decide +kernel,rfl,by decide +kernel,by decide +kernel⟩
theorem pJ:FnScope ["self", "thing"] ["self", "thing"] (aF dU):=⟨rfl,rfl,rfl,by decide +kernel,rfl,by decide +kernel,by decide +kernel⟩
theorem aK6:FnScope ["thing", "many"] ["thing", "many"] (aF aGj):=⟨rfl,rfl,rfl,by decide +kernel,rfl,by decide +kernel,by decide +kernel⟩
theorem pK:FnScope ["self", "thing"] ["self", "thing"] (aF dW):=⟨rfl,rfl,rfl,by decide +kernel,rfl,by decide +kernel,by decide +kernel⟩
theorem xV:FnScope ["self", "room", "text"] ["self", "room", "text"] (aF gQ):=⟨rfl,rfl,rfl,by decide +kernel,rfl,by decide +kernel,by decide +kernel⟩
theorem aDc:FnScope ["machine", "good", "reached", "goals", "loop", "nest", "start", "goal", "end", "way"] ["machine", "good"] (aF zJ):=⟨rfl,rfl,rfl,by decide +kernel,rfl,by decide +kernel,by decide +kernel⟩
theorem aBx:FnScope ["self", "machine"] ["self", "machine"] (aF jP):=⟨rfl,rfl,rfl,by decide +kernel,rfl,by decide +kernel,by decide +kernel⟩
theorem aAg:FnScope ["self", "machine"] ["self", "machine"] (aF iV):=⟨rfl,rfl,rfl,by decide +kernel,rfl,by decide +kernel,by decide +kernel⟩
theorem aBy:FnScope ["machine", "loop", "rank", "room"] ["machine", "loop"] (aF wM):=⟨rfl,rfl,rfl,by decide +kernel,rfl,by decide +kernel,by decide +kernel⟩
theorem aK7:FnScope ["machine", "bits"] ["machine", "bits"] (aF aGk):=⟨rfl,rfl,rfl,by decide +kernel,rfl,by decide +kernel,by decide +kernel⟩
theorem aBz:FnScope ["machine", "loop", "found", "left", "rest", "part"] ["machine", "loop"] (aF wN):=⟨rfl,rfl,rfl,by decide +kernel,rfl,by decide +kernel,by decide +kernel⟩
theorem aDd:FnScope ["machine", "good", "loop", "inner", "nest"] ["machine", "good"] (aF zK):=⟨rfl,rfl,rfl,by decide +kernel,rfl,by decide +kernel,by decide +kernel⟩
theorem aC0:FnScope ["self", "machine", "bar"] ["self", "machine"] (aF jQ):=⟨rfl,rfl,rfl,by decide +kernel,rfl,by decide +kernel,by decide +kernel⟩
theorem aFr:FnScope ["self", "machine"] ["self", "machine"] (aF nR):=⟨rfl,rfl,rfl,by decide +kernel,rfl,by decide +kernel,by decide +kernel⟩
theorem aC1:FnScope ["self", "machine"] ["self", "machine"] (aF jR):=⟨rfl,rfl,rfl,by decide +kernel,rfl,by decide +kernel,by decide +kernel⟩
theorem aHg:FnScope ["machine", "kind"] ["machine"] (aF aE5):=⟨rfl,rfl,rfl,by decide +kernel,rfl,by decide +kernel,by decide +kernel⟩
theorem xW:FnScope ["_law_low", "_law_high", "_law_top", "_law_bottom", "_law_base", "_law_share_here", "_law_machine"] ["_law_low", "_law_high", "_law_top", "_law_bottom", "_law_base"] (aF sY):=⟨rfl,rfl,rfl,by decide +kernel,rfl,by decide +kernel,by decide +kernel⟩
theorem aDe:FnScope ["top", "bottom", "base", "least", "text", "places", "digit"] ["top", "bottom", "base", "least"] (aF zL):=⟨rfl,rfl,rfl,by decide +kernel,rfl,by decide +kernel,by decide +kernel⟩
theorem aC2:FnScope ["top", "bottom", "base", "found", "lesser"] ["top", "bottom", "base"] (aF wO):=⟨rfl,rfl,rfl,by decide +kernel,rfl,by decide +kernel,by decide +kernel⟩
theorem aFs:FnScope ["_law_cell_here", "_law_k", "_law_many", "_law_base", "_law_j"] ["_law_cell_here", "_law_k", "_law_many", "_law_base"] (aF aBu):=⟨rfl,rfl,rfl,by decide +kernel,rfl,by decide +kernel,by decide +kernel⟩
theorem aDf:FnScope ["_law_script", "_law_start", "_law_writings", "_law_base", "_law_words_here", "_law_k", "_law_cell_here", "_law_word", "_law_one", "_law_sizes", "_law_text_here", "_law_long", "_law_digit"] ["_law_script", "_law_start", "_law_writings", "_law_base"] (aF zM):=⟨rfl,rfl,rfl,by decide +kernel,rfl,by decide +kernel,by decide +kernel⟩
theorem aDg:FnScope ["_law_base", "_law_many", "_law_power_here", "_law_k"] ["_law_base", "_law_many"] (aF zN):=⟨rfl,rfl,rfl,by decide +kernel,rfl,by decide +kernel,by decide +kernel⟩
theorem aC3:FnScope ["_law_text_here", "_law_base", "_law_number_here", "_law_letter"] ["_law_text_here", "_law_base"] (aF wQ):=⟨rfl,rfl,rfl,by decide +kernel,rfl,by decide +kernel,by decide +kernel⟩
theorem aDh:FnScope ["_law_word", "_law_base", "_law_turn", "_law_top"] ["_law_word", "_law_base"] (aF zO):=⟨rfl,rfl,rfl,by decide +kernel,rfl,by decide +kernel,by decide +kernel⟩
theorem aDi:FnScope ["thing", "many"] ["thing", "many"] (aF zP):=⟨rfl,rfl,rfl,by decide +kernel,rfl,by decide +kernel,by decide +kernel⟩
theorem aAh:FnScope ["self", "word", "room", "rooms", "begun", "ahead"] ["self", "word", "room"] (aF iW):=⟨rfl,rfl,rfl,by decide +kernel,rfl,by decide +kernel,by decide +kernel⟩
theorem aAi:FnScope ["self", "word", "room", "ring", "place"] ["self", "word", "room"] (aF iY):=⟨rfl,rfl,rfl,by decide +kernel,rfl,by decide +kernel,by decide +kernel⟩
theorem xX:FnScope ["_law_low", "_law_high", "_law_top", "_law_bottom", "_law_base", "_law_words_here", "_law_word", "_law_worth_here"] ["_law_low", "_law_high", "_law_top", "_law_bottom", "_law_base", "_law_words_here"] (aF sZ):=⟨rfl,rfl,rfl,by decide +kernel,rfl,by decide +kernel,by decide +kernel⟩
theorem aZf:FnScope ["_law_script", "_law_k", "_law_cell_here", "_law_numbers", "_law_bottom", "_law_top", "_law_base", "_law_low", "_law_high", "_law_writings", "_law_words_here", "_law_one"] ["_law_script"] (aF aFi):=⟨rfl,rfl,rfl,by decide +kernel,rfl,by decide +kernel,by decide +kernel⟩
section
variable{P:Program}{w:World}{K:Frag}{mg:Str->Option Value}{base:Heap}{fa:Addr}{fd:FuncData}{dV:Value}
variable(dB:mg "len" = none)
include dB in
theorem aQf(F:FunD K "_law_cell" "_law_cell" aBm dV fa fd):FnOk P w K mg base CX0 1 fa fd ["_law_script", "_law_k"] (spI K 2 rE):=by
 refine bW (k:=0) F aFj 2 3 aGx rfl rfl fun cdv A outer s H E B hr=>?_
 have nd:=aFj.nd
 refine aH ?_ ?_
 ·exact jA (cV aO9 aFg (toP (aA 1)) (toP (nP dB (toP (aA 0)))) (cC _)) (aM (bI (rN (toP (cN hr.units (toP (aA 0)) (toP (aA 1)))) (toP (bJu (toP (aL)) (toP (aL))))))) (dZ)
 refine aH ?_ ?_
 ·exact bR 2 (aL) nd
 refine aH ?_ ?_
 ·exact jA (cV aKw aGc (toP (nP dB (toP (aA 0)))) (toP (aL)) (cC _)) (aM (bR 2 (rN (toP (cN hr.units (toP (aA 0)) (toP (rN (toP (aA 1)) (toP (nP dB (toP (aA 0)))))))) (toP (aL))) nd)) (dZ)
 exact aM (bI (rN (toP (gH (toP (iB (toP (iB (toP (gH (toP (aA 2)) (toP (aL)))) (toP (gH (toP (aL)) (toP (aA 1)))))) (toP (aL)))) (toP (iB (toP (aA 1)) (toP (aL)))))) (toP (aL))))
theorem aQg(F:FunD K "_law_pick" "_law_pick" aBn dV fa fd):FnOk P w K mg base CX0 1 fa fd ["_law_cell_here", "_law_k", "_law_many"] (spI K 3 cZ):=by
 refine bW (k:=0) F aFk 3 4 aGy rfl rfl fun cdv A outer s H E B hr=>?_
 have nd:=aFk.nd
 refine aH ?_ ?_
 ·exact bR 3 (rN (toP (iB (toP (aA 0)) (toP (gH (toP (aL)) (toP (aA 1)))))) (toP (aL))) nd
 refine aH ?_ ?_
 ·exact bR 3 (rN (toP (gH (toP (rN (toP (gH (toP (aA 3)) (toP (aA 3)))) (toP (aL)))) (toP (aL)))) (toP (aL))) nd
 exact aM (bI (rN (toP (aBh (toP (rN (toP (gH (toP (aA 3)) (toP (aA 3)))) (toP (aL)))) (toP (aL)))) (toP (aA 2))))
theorem aKm(F:FunD K "_law_digits" "_law_digits" wK dV fa fd):FnOk P w K mg base CX0 1 fa fd ["_law_cell_here", "_law_sizes"] (spI K 2 dM):=by
 refine bW (k:=0) F aBv 2 4 aCw rfl rfl fun cdv A outer s H E B hr=>?_
 have nd:=aBv.nd
 refine aH ?_ ?_
 ·exact wI 2 (aFc (aJ)) nd
 refine aH ?_ ?_
 ·exact lA (jM (aA 1)) (cD 3 nd) (aH (by exact aBl 2 (rN (toP (aA 0)) (toP (aA 3)))) (by exact aM (bR 0 (aBh (toP (aA 0)) (toP (aA 3))) nd))) PassesOwn.never rfl
 exact aM (aNe [2] (bI (aA 2)))
variable(bV:mg "isinstance" = none)
variable(aTz:mg "int" = none)
variable(aNq:mg "bool" = none)
include bV aTz aNq in
theorem aRs(F:FunD K "is_whole" "is_whole" aDz dV fa fd):FnOk P w K mg base CX0 1 fa fd ["thing"] (spI K 1 fV):=by
 refine bW (k:=0) F aHa 1 1 nF rfl rfl fun cdv A outer s H E B hr=>?_
 have nd:=aHa.nd
 exact aM (bI (aD2 (xO ty_int bV aTz (toP (aA 0))) (aDu (bDb (xO ty_bool bV aNq (toP (aA 0)))))))
variable(iD:DefOk P w K mg base "is_whole" 1 1 fV)
variable{T_BASES:Addr}(gt_BASES:bCe K T_BASES [2,3])
variable(aFt:mg (Str.ofString "BASES")=some (.ref T_BASES))
include iD gt_BASES aFt in
theorem aNr(F:FunD K "check_base" "check_base" zA dV fa fd):FnOk P w K mg base CX0 2 fa fd ["thing"] (spI K 1 lG):=by
 refine bW (k:=1) F aD4 1 1 nY rfl rfl fun cdv A outer s H E B hr=>?_
 have nd:=aD4.nd
 exact aM (jA (PW.pt (aRg (nO (fL (aG iD hr (by decide) (aB (aA 0) (aJ))))) (aLw (aZb gt_BASES aFt hr.units (toP (aA 0)))))) (aM (oY)) (dZ))
include iD in
theorem aRt(F:FunD K "is_below" "is_below" aE0 dV fa fd):FnOk P w K mg base CX0 2 fa fd ["thing", "limit"] (spI K 2 eO):=by
 refine bW (k:=1) F aHb 2 2 nG rfl rfl fun cdv A outer s H E B hr=>?_
 have nd:=aHb.nd
 exact aM (bI (aD2 (aG iD hr (by decide) (aB (aA 0) (aJ))) (aD2 (kZ aS0 aNb (toP (aA 0)) (toP (aL)) (cC _)) (aDu (kZ aO9 aFg (toP (aA 0)) (toP (aA 1)) (cC _))))))
variable(tQ:DefOk P w K mg base "check_base" 2 1 lG)
variable(gD:DefOk P w K mg base "is_below" 2 2 eO)
variable{t_MOST_BOTTOM:Tok}(g_MOST_BOTTOM:mg "MOST_BOTTOM" = some (.int 6 t_MOST_BOTTOM))
include tQ gD g_MOST_BOTTOM in
theorem aGl(F:FunD K "check_fraction" "check_fraction" qF dV fa fd):FnOk P w K mg base CX0 3 fa fd ["top", "bottom", "base"] (spI K 3 dR):=by
 refine bW (k:=2) F vI 3 3 iK rfl rfl fun cdv A outer s H E B hr=>?_
 have nd:=vI.nd
 refine aH ?_ ?_
 ·exact aLx (aG tQ hr (by decide) (aB (aA 2) (aJ)))
 refine aH ?_ ?_
 ·exact jA (PW.pt (aRg (nO (fL (aG gD hr (by decide) (aB (aA 1) (aB (iB (toP (aBf g_MOST_BOTTOM)) (toP (aL))) (aJ)))))) (aLw (cV (lY hr.units) lZ (toP (aA 1)) (toP (aL)) (cC _))))) (aM (oY)) (dZ)
 exact aM (jA (nO (fL (aG gD hr (by decide) (aB (aA 0) (aB (iB (toP (aA 1)) (toP (aL))) (aJ)))))) (aM (oY)) (dZ))
variable(xY:mg "max" = none)
variable{t_OUT:Tok}(g_OUT:mg "OUT" = some (.int 7 t_OUT))
include xY g_OUT in
theorem aK8(F:FunD K "room_from_on" "room_from_on" iQ dV fa fd):FnOk P w K mg base CX0 1 fa fd ["rest", "bottom"] (spI K 2 jX):=by
 refine bW (k:=0) F aAb 2 2 nZ rfl rfl fun cdv A outer s H E B hr=>?_
 have nd:=aAb.nd
 refine aH ?_ ?_
 ·exact jA (cV aKw aGc (toP (aA 0)) (toP (aA 1)) (cC _)) (aM (bI (aBf g_OUT))) (dZ)
 exact aM (bI (aYg xY rfl (toP (aA 0)) (toP (aL))))
variable(aK9:mg "min" = none)
include g_OUT aK9 in
theorem aNs(F:FunD K "room_up_to" "room_up_to" lK dV fa fd):FnOk P w K mg base CX0 1 fa fd ["rest", "bottom"] (spI K 2 oA):=by
 refine bW (k:=0) F aD5 2 2 tE rfl rfl fun cdv A outer s H E B hr=>?_
 have nd:=aD5.nd
 refine aH ?_ ?_
 ·exact jA (cV aO9 aFg (toP (aA 0)) (toP (aL)) (cC _)) (aM (bI (aBf g_OUT))) (dZ)
 exact aM (bI (aYh aK9 rfl (toP (aA 0)) (toP (aA 1))))
variable(aU0:mg "zip" = none)
variable{t_LETTERS:Tok}(g_LETTERS:mg "LETTERS" = some (.str "abc" t_LETTERS))
include dB aU0 g_LETTERS in
theorem aQh(F:FunD K "ways_from" "ways_from" aBo dV fa fd):FnOk P w K mg base CX0 1 fa fd ["steps", "start", "allowed"] (spI K 3 gY):=by
 refine bW (k:=0) F aFl 3 9 rF rfl rfl fun cdv A outer s H E B hr=>?_
 have nd:=aFl.nd
 refine aH ?_ ?_
 ·exact bBu 3 (aA 1) (rM []) nd
 refine aH ?_ ?_
 ·exact wI 4 (aFc (aB (aA 1) (aJ))) nd
 refine aH ?_ ?_
 ·exact bR 5 (aL) nd
 refine aH ?_ ?_
 ·exact aFe 100000 (cV aO9 aFg (toP (aA 5)) (toP (nP dB (gC 4))) (cC _)) (aH (by exact bR 6 (cN hr.units (gC 4) (toP (aA 5))) nd) (by exact aH (by exact lA (bGg aU0 (aJb [97,98,99] g_LETTERS) (cN hr.units (toP (aA 0)) (toP (aA 6)))) (bJy rfl (aTi 7 (aTi 8 (bFx) nd) nd)) (aM (jA (PW.pt (bDc (cV (aYj hr.units) aYk (toP (aA 8)) (toP (aA 2)) rfl) (aY0 (cV (nQ hr.units) qD (toP (aA 8)) (gC 3) rfl)))) (aH (by exact aGe hr.units 3 (aA 8) (iB (toP (cN hr.units (gC 3) (toP (aA 6)))) (toP (aA 7)))) (by exact aM (aBl 4 (aA 8)))) (dZ))) PassesOwn.never rfl) (by exact aM (bR 5 (iB (toP (aA 5)) (toP (aL))) nd)))) PassesOwn.never
 exact aM (aNe [3] (bI (aA 3)))
variable(gK:mg "list" = none)
include dB bV gK in
theorem aGm(F:FunD K "is_filled_list" "is_filled_list" qG dV fa fd):FnOk P w K mg base CX0 1 fa fd ["thing", "most"] (spI K 2 eQ):=by
 refine bW (k:=0) F vJ 2 2 pO rfl rfl fun cdv A outer s H E B hr=>?_
 have nd:=vJ.nd
 exact aM (bI (aD2 (xO ty_list bV gK (toP (aA 0))) (aD2 (kZ aS0 aNb (toP (nP dB (toP (aA 0)))) (toP (aL)) (cC _)) (aDu (kZ aW7 aRf (toP (nP dB (toP (aA 0)))) (toP (aA 1)) (cC _))))))
variable(aC4:mg "all" = none)
include dB gD aC4 in
theorem aZg(F:FunD K "is_row" "is_row" aK0 dV fa fd):FnOk P w K mg base CX0 3 fa fd ["thing", "letters", "rooms"] (spI K 3 aEm):=by
 refine bW (k:=2) F aMe 3 4 aIw rfl rfl fun cdv A outer s H E B hr=>?_
 have nd:=aMe.nd
 exact aM (bI (aD2 (kZ (lY hr.units) lZ (toP (nP dB (toP (aA 0)))) (toP (aA 1)) (cC _)) (aDu (aTo aC4 rfl (toP (oW [3] lB (.of rfl) (jM (aA 0)) (fun _ _ _ _ _=>cD 3 nd) (fun _ _ _ _ _=>aG gD hr (by decide) (aB (aA 3) (aB (aA 2) (aJ)))) rfl))))))
variable(iZ:DefOk P w K mg base "is_filled_list" 1 2 eQ)
variable(aFu:DefOk P w K mg base "is_row" 3 3 aEm)
variable{t_MOST_ROOMS:Tok}(g_MOST_ROOMS:mg "MOST_ROOMS" = some (.int 8 t_MOST_ROOMS))
variable{t_MOST_LETTERS:Tok}(g_MOST_LETTERS:mg "MOST_LETTERS" = some (.int 3 t_MOST_LETTERS))
include dB aC4 iZ aFu g_MOST_ROOMS g_MOST_LETTERS in
theorem aQi(F:FunD K "are_steps" "are_steps" aBp dV fa fd):FnOk P w K mg base CX0 4 fa fd ["thing"] (spI K 1 uU):=by
 refine bW (k:=3) F aFm 1 2 aAr rfl rfl fun cdv A outer s H E B hr=>?_
 have nd:=aFm.nd
 refine aH ?_ ?_
 ·exact jA (nO (fL (aG iZ hr (by decide) (aB (aA 0) (aB (aBf g_MOST_ROOMS) (aJ)))))) (aM (bI (xJ))) (dZ)
 refine aH ?_ ?_
 ·exact jA (nO (fL (aTo aC4 rfl (toP (oW [1] lB (.of rfl) (jM (aA 0)) (fun _ _ _ _ _=>cD 1 nd) (fun _ _ _ _ _=>aG iZ hr (by decide) (aB (aA 1) (aB (aBf g_MOST_LETTERS) (aJ)))) rfl))))) (aM (bI (xJ))) (dZ)
 exact aM (bI (aTo aC4 rfl (toP (oW [1] lB (.of rfl) (jM (aA 0)) (fun _ _ _ _ _=>cD 1 nd) (fun _ _ _ _ _=>aG aFu hr (by decide) (aB (aA 1) (aB (nP dB (toP (cN hr.units (toP (aA 0)) (toP (aL))))) (aB (nP dB (toP (aA 0))) (aJ))))) rfl))))
include dB bV iD gK aC4 in
theorem aQj(F:FunD K "are_ranks" "are_ranks" aBq dV fa fd):FnOk P w K mg base CX0 2 fa fd ["thing", "rooms"] (spI K 2 uV):=by
 refine bW (k:=1) F aFn 2 3 aAs rfl rfl fun cdv A outer s H E B hr=>?_
 have nd:=aFn.nd
 refine aH ?_ ?_
 ·exact jA (PW.pt (aRg (nO (fL (xO ty_list bV gK (toP (aA 0))))) (aLw (cV (yV hr.units) yW (toP (nP dB (toP (aA 0)))) (toP (aA 1)) (cC _))))) (aM (bI (xJ))) (dZ)
 exact aM (bI (aTo aC4 rfl (toP (oW [2] lB (.of rfl) (jM (aA 0)) (fun _ _ _ _ _=>cD 2 nd) (fun _ _ _ _ _=>aD2 (aG iD hr (by decide) (aB (aA 2) (aJ))) (aDu (kZ aS0 aNb (toP (aA 2)) (toP (aL)) (cC _)))) rfl))))
variable(vK:DefOk P w K mg base "are_steps" 4 1 uU)
variable(vL:DefOk P w K mg base "are_ranks" 2 2 uV)
variable{A_Machine:Addr}(c_Machine:ClsAt K "Machine" A_Machine)
variable(aV:lV K A_Machine (Str.ofString "steps"))
variable(aY:lV K A_Machine (Str.ofString "ranks"))
variable(bO:lV K A_Machine (Str.ofString "many"))
variable(bN:lV K A_Machine (Str.ofString "letters"))
include dB gK vK vL c_Machine aV aY bO bN in
theorem aE6(F:Fun K "__init__" "Machine.__init__" eU fa fd):FnOk P w K mg base CX0 5 fa fd ["self", "steps", "ranks"] (spM K "Machine" 2 fX):=by
 refine bBo (k:=4) F tD "Machine" 2 4 fW rfl rfl fun cdv A outer s H E B hr=>?_
 have nd:=tD.nd
 refine aH ?_ ?_
 ·exact jA (nO (fL (aG vK hr (by decide) (aB (aA 1) (aJ))))) (aM (oY)) (dZ)
 refine aH ?_ ?_
 ·exact jA (nO (fL (aG vL hr (by decide) (aB (aA 2) (aB (nP dB (toP (aA 1))) (aJ)))))) (aM (oY)) (dZ)
 refine aH ?_ ?_
 ·exact aNk 0 c_Machine aV (oW [3] lB (.of rfl) (jM (aA 1)) (fun _ _ _ _ _=>cD 3 nd) (fun _ _ _ _ _=>aYn gK (toP (aA 3))) rfl)
 refine aH ?_ ?_
 ·exact aNk 0 c_Machine aY (aYn gK (toP (aA 2)))
 refine aH ?_ ?_
 ·exact aNk 0 c_Machine bO (nP dB (toP (aA 1)))
 exact aM (aNk 0 c_Machine bN (nP dB (toP (cN hr.units (toP (aA 1)) (toP (aL))))))
variable(eV:DefOk P w K mg base "check_fraction" 3 3 dR)
variable(pA:DefOk P w K mg base "room_from_on" 1 2 jX)
variable(tR:DefOk P w K mg base "room_up_to" 1 2 oA)
variable(fQ:DefOk P w K mg base "ways_from" 1 3 gY)
variable(aCl:MakeOk P w K mg base "Machine" 5 2 fX)
variable(dI:mg "range" = none)
include g_OUT gK eV pA tR fQ aCl dI in
theorem aNt(F:FunD K "machine_of" "machine_of" zB dV fa fd):FnOk P w K mg base CX0 7 fa fd ["top", "bottom", "base", "room_for"] (spI K 4 oH):=by
 refine bW (k:=6) F aD6 4 10 yF rfl rfl fun cdv A outer s H E B hr=>?_
 have nd:=aD6.nd
 refine aH ?_ ?_
 ·exact aLx (aG eV hr (by decide) (aB (aA 0) (aB (aA 1) (aB (aA 2) (aJ)))))
 refine aH ?_ ?_
 ·exact bCg 4 (aBf g_OUT) (aZc (aB (aBf g_OUT) (aJ)) (toP (aA 2))) nd
 refine aH ?_ ?_
 ·exact lA (aJh dI (toP (iB (toP (aA 1)) (toP (aL))))) (cD 5 nd) (aM (aGe hr.units 4 (aA 5) (oW [8] lB (.of rfl) (aJh dI (toP (aA 2))) (fun _ _ _ _ _=>cD 8 nd) (fun _ _ _ _ _=>aZa 3 pA tR hr (by decide) (by decide) (aB (aPh (toP (gH (toP (aA 2)) (toP (aA 5)))) (toP (gH (toP (aA 8)) (toP (aA 1))))) (aB (aA 1) (aJ)))) rfl))) PassesOwn.never rfl
 refine aH ?_ ?_
 ·exact aNe [4] (bR 6 (aTt gK rfl (aG fQ hr (by decide) (aB (aA 4) (aB (aA 0) (aB (aTt gK rfl (aA 4)) (aJ)))))) nd)
 refine aH ?_ ?_
 ·exact bGc 7 [5] lB (.of rfl) (jM (aA 6)) (fun _ _ _ _ _=>cD 5 nd) (fun _ _ _ _ _=>bDd (cV (lY hr.units) lZ (toP (aA 5)) (toP (aBf g_OUT)) (cC _)) (aL) (aL)) rfl nd
 exact aM (bI (bGb aCl hr (by decide) (aB (oW [5] lB (.of rfl) (jM (aA 6)) (fun _ _ _ _ _=>cD 5 nd) (fun _ _ _ _ _=>oW [9] lB (.of rfl) (jM (cN hr.units (gC 4) (toP (aA 5)))) (fun _ _ _ _ _=>cD 9 nd) (fun _ _ _ _ _=>aQ3 (toP (aA 6)) (aB (aA 9) (aJ))) rfl) rfl) (aB (aA 7) (aJ)))))
variable(jG:DefOk P w K mg base "machine_of" 7 4 oH)
variable{V_room_up_to:Addr}(fv_room_up_to:nsIn K mainGlobals (Str.ofString "room_up_to")=some (some (.ref V_room_up_to)))
variable(qT:mg (Str.ofString "room_up_to")=some (.ref V_room_up_to))
include jG fv_room_up_to qT in
theorem bCh(F:FunD K "up_to" "up_to" aNp dV fa fd):FnOk P w K mg base CX0 8 fa fd ["top", "bottom", "base"] (spI K 3 aHx):=by
 refine bW (k:=7) F aQe 3 3 aSe rfl rfl fun cdv A outer s H E B hr=>?_
 have nd:=aQe.nd
 exact aM (bI (aG jG hr (by decide) (aB (aA 0) (aB (aA 1) (aB (aA 2) (aB (bDk fv_room_up_to qT) (aJ)))))))
variable{V_room_from_on:Addr}(fv_room_from_on:nsIn K mainGlobals (Str.ofString "room_from_on")=some (some (.ref V_room_from_on)))
variable(mU:mg (Str.ofString "room_from_on")=some (.ref V_room_from_on))
include jG fv_room_from_on mU in
theorem aVq(F:FunD K "from_on" "from_on" aGf dV fa fd):FnOk P w K mg base CX0 8 fa fd ["top", "bottom", "base"] (spI K 3 aC7):=by
 refine bW (k:=7) F aK2 3 3 aLc rfl rfl fun cdv A outer s H E B hr=>?_
 have nd:=aK2.nd
 exact aM (bI (aG jG hr (by decide) (aB (aA 0) (aB (aA 1) (aB (aA 2) (aB (bDk fv_room_from_on mU) (aJ)))))))
theorem aNu(F:FunD K "_law_share" "_law_share" zE dV fa fd):FnOk P w K mg base CX0 1 fa fd ["_law_one", "_law_other"] (spI K 2 tH):=by
 refine bW (k:=0) F aD7 2 3 yG rfl rfl fun cdv A outer s H E B hr=>?_
 have nd:=aD7.nd
 refine aH ?_ ?_
 ·exact aFe 100000 (cV aKw aGc (toP (aA 1)) (toP (aL)) (cC _)) (aH (by exact bR 2 (rN (toP (aA 0)) (toP (aA 1))) nd) (by exact aH (by exact bR 0 (aA 1) nd) (by exact aM (bR 1 (aA 2) nd)))) PassesOwn.never
 exact aM (bI (aA 0))
variable{A_Again:Addr}(c_Again:ClsAt K "Again" A_Again)
variable{A_EarlyNo:Addr}(c_EarlyNo:ClsAt K "EarlyNo" A_EarlyNo)
variable{A_EarlyYes:Addr}(c_EarlyYes:ClsAt K "EarlyYes" A_EarlyYes)
variable{A_Lasting:Addr}(c_Lasting:ClsAt K "Lasting" A_Lasting)
variable{A_Settled:Addr}(c_Settled:ClsAt K "Settled" A_Settled)
variable(aFv:mg (Str.ofString "Again")=some (.ref A_Again))
variable(zQ:mg (Str.ofString "EarlyNo")=some (.ref A_EarlyNo))
variable(vM:mg (Str.ofString "EarlyYes")=some (.ref A_EarlyYes))
variable(zR:mg (Str.ofString "Lasting")=some (.ref A_Lasting))
variable(zT:mg (Str.ofString "Settled")=some (.ref A_Settled))
variable(aCm:Mk0 K A_Lasting)
variable(aIc:Mk0 K A_Again)
variable(aCn:Mk0 K A_Settled)
variable(zU:Mk0 K A_EarlyYes)
variable(aCo:Mk0 K A_EarlyNo)
include c_Again c_EarlyNo c_EarlyYes c_Lasting c_Settled aFv zQ vM zR zT aCm aIc aCn zU aCo in
theorem aQk(F:FunD K "all_kinds" "all_kinds" aBr dV fa fd):FnOk P w K mg base CX0 1 fa fd [] (spI K 0 uW):=by
 refine bW (k:=0) F aFo 0 0 aAv rfl rfl fun cdv A outer s H E B hr=>?_
 have nd:=aFo.nd
 exact aM (bI (aAa (aB (aJz aCo c_EarlyNo zQ) (aB (aJz zU c_EarlyYes vM) (aB (aJz aCn c_Settled zT) (aB (aJz aIc c_Again aFv) (aB (aJz aCm c_Lasting zR) (aJ))))))))
theorem aKa(F:FunD K "word" "EarlyNo.word" iR dV fa fd):FnOk P w K mg base CX0 1 fa fd ["self"] (spI K 1 jZ):=by
 refine bW (k:=0) F aAc 1 1 uD rfl rfl fun cdv A outer s H E B hr=>?_
 have nd:=aAc.nd
 exact aM (bI (rM [101,97,114,108,121,32,110,111]))
theorem aHn(F:FunD K "word" "EarlyYes.word" gP dV fa fd):FnOk P w K mg base CX0 1 fa fd ["self"] (spI K 1 jK):=by
 refine bW (k:=0) F xQ 1 1 rZ rfl rfl fun cdv A outer s H E B hr=>?_
 have nd:=xQ.nd
 exact aM (bI (rM [101,97,114,108,121,32,121,101,115]))
theorem aKb(F:FunD K "word" "Settled.word" iT dV fa fd):FnOk P w K mg base CX0 1 fa fd ["self"] (spI K 1 kE):=by
 refine bW (k:=0) F aAd 1 1 uE rfl rfl fun cdv A outer s H E B hr=>?_
 have nd:=aAd.nd
 exact aM (bI (rM [115,101,116,116,108,101,100]))
theorem aNv(F:FunD K "word" "Again.word" lM dV fa fd):FnOk P w K mg base CX0 1 fa fd ["self"] (spI K 1 oJ):=by
 refine bW (k:=0) F aD8 1 1 yH rfl rfl fun cdv A outer s H E B hr=>?_
 have nd:=aD8.nd
 exact aM (bI (rM [97,103,97,105,110]))
theorem aKc(F:FunD K "word" "Lasting.word" iU dV fa fd):FnOk P w K mg base CX0 1 fa fd ["self"] (spI K 1 kI):=by
 refine bW (k:=0) F aAe 1 1 uF rfl rfl fun cdv A outer s H E B hr=>?_
 have nd:=aAe.nd
 exact aM (bI (rM [108,97,115,116,105,110,103]))
theorem aRu(F:FunD K "has_room" "has_room" aE1 dV fa fd):FnOk P w K mg base CX0 1 fa fd ["bits", "room"] (spI K 2 jB):=by
 refine bW (k:=0) F aHc 2 2 aDp rfl rfl fun cdv A outer s H E B hr=>?_
 have nd:=aHc.nd
 exact aM (bI (kZ (lY hr.units) lZ (toP (aYt (toP (bK4 (toP (aA 0)) (toP (aA 1)))) (toP (aL)))) (toP (aL)) (cC _)))
variable(cQ:DefOk P w K mg base "has_room" 1 2 jB)
include dI cQ in
theorem aRv(F:FunD K "rooms_of" "rooms_of" aE2 dV fa fd):FnOk P w K mg base CX0 2 fa fd ["bits"] (spI K 1 dO):=by
 refine bW (k:=1) F aHd 1 2 aDq rfl rfl fun cdv A outer s H E B hr=>?_
 have nd:=aHd.nd
 exact aM (bI (xN [1] lB (.of rfl) (aJh dI (toP (bGi (toP (aA 0))))) (fun _ _ _ _ _=>cD 1 nd) (fun _ _ _ _ _=>fL (aG cQ hr (by decide) (aB (aA 0) (aB (aA 1) (aJ))))) (fun _ _ _ _ _=>aA 1) rfl))
theorem aVr(F:FunD K "bits_of" "bits_of" aGg dV fa fd):FnOk P w K mg base CX0 1 fa fd ["rooms"] (spI K 1 nM):=by
 refine bW (k:=0) F aK3 1 3 aG5 rfl rfl fun cdv A outer s H E B hr=>?_
 have nd:=aK3.nd
 refine aH ?_ ?_
 ·exact bR 1 (aL) nd
 refine aH ?_ ?_
 ·exact lA (jM (aA 0)) (cD 2 nd) (aM (bR 1 (aYu (toP (aA 1)) (toP (bDj (toP (aL)) (toP (aA 2))))) nd)) PassesOwn.never rfl
 exact aM (bI (aA 1))
variable(bB:DefOk P w K mg base "rooms_of" 2 1 dO)
variable(eF:DefOk P w K mg base "bits_of" 1 1 nM)
include cQ bB eF in
theorem aNw(F:FunD K "seen_among" "seen_among" zF dV fa fd):FnOk P w K mg base CX0 3 fa fd ["steps", "allowed"] (spI K 2 oK):=by
 refine bW (k:=2) F aD9 2 6 yI rfl rfl fun cdv A outer s H E B hr=>?_
 have nd:=aD9.nd
 refine aH ?_ ?_
 ·exact bR 2 (aG bB hr (by decide) (aB (aA 1) (aJ))) nd
 refine aH ?_ ?_
 ·exact aNj 3 nd
 refine aH ?_ ?_
 ·exact lA (jM (aA 2)) (cD 4 nd) (aM (aGe hr.units 3 (aA 4) (aYt (toP (aYu (toP (aG eF hr (by decide) (aB (cN hr.units (toP (aA 0)) (toP (aA 4))) (aJ)))) (toP (bDj (toP (aL)) (toP (aA 4)))))) (toP (aA 1))))) PassesOwn.never rfl
 refine aH ?_ ?_
 ·exact lA (jM (aA 2)) (cD 5 nd) (aM (lA (jM (aA 2)) (cD 4 nd) (aM (jA (fL (aG cQ hr (by decide) (aB (cN hr.units (gC 3) (toP (aA 4))) (aB (aA 5) (aJ))))) (aM (aGe hr.units 3 (aA 4) (aYu (toP (cN hr.units (gC 3) (toP (aA 4)))) (toP (cN hr.units (gC 3) (toP (aA 5))))))) (dZ))) PassesOwn.never rfl)) PassesOwn.never rfl
 exact aM (aNe [3] (bI (aA 3)))
include gK c_Machine bO dI eF in
theorem aQl(F:FunD K "all_rooms" "all_rooms" aBs dV fa fd):FnOk P w K mg base CX0 2 fa fd ["machine"] (spI K 1 uX):=by
 refine bW (k:=1) F aFp 1 1 aAz rfl rfl fun cdv A outer s H E B hr=>?_
 have nd:=aFp.nd
 exact aM (bI (aG eF hr (by decide) (aB (aQ2 gK dI rfl (toP (pI c_Machine bO (toP (aA 0))))) (aJ))))
variable(jH:DefOk P w K mg base "seen_among" 3 2 oK)
variable(vN:DefOk P w K mg base "all_rooms" 2 1 uX)
include c_Machine aV jH vN in
theorem aQm(F:FunD K "seen_from" "seen_from" aBt dV fa fd):FnOk P w K mg base CX0 4 fa fd ["machine", "room"] (spI K 2 rG):=by
 refine bW (k:=3) F aFq 2 2 aB0 rfl rfl fun cdv A outer s H E B hr=>?_
 have nd:=aFq.nd
 exact aM (bI (cN hr.units (toP (aG jH hr (by decide) (aB (pI c_Machine aV (toP (aA 0))) (aB (aG vN hr (by decide) (aB (aA 0) (aJ))) (aJ))))) (toP (aA 1))))
variable(aFw:mg "sorted" = none)
variable(aU1:mg "set" = none)
include c_Machine aY bB aFw aU1 in
theorem aHo(F:FunD K "ranks_of_sort" "ranks_of_sort" sV dV fa fd):FnOk P w K mg base CX0 3 fa fd ["machine", "allowed", "wanted"] (spI K 3 mO):=by
 refine bW (k:=2) F xR 3 6 sE rfl rfl fun cdv A outer s H E B hr=>?_
 have nd:=xR.nd
 refine aH ?_ ?_
 ·exact bR 3 (aZ5 aFw aU1 rfl (toP (oW [5] lB (.of rfl) (jM (aG bB hr (by decide) (aB (aA 1) (aJ)))) (fun _ _ _ _ _=>cD 5 nd) (fun _ _ _ _ _=>cN hr.units (toP (pI c_Machine aY (toP (aA 0)))) (toP (aA 5))) rfl))) nd
 exact aM (bI (xN [4] lB (.of rfl) (jM (aA 3)) (fun _ _ _ _ _=>cD 4 nd) (fun _ _ _ _ _=>cV (lY hr.units) lZ (toP (kZ (lY hr.units) lZ (toP (rN (toP (aA 4)) (toP (aL)))) (toP (aL)) (cC _))) (toP (aA 2)) (cC _)) (fun _ _ _ _ _=>aA 4) rfl))
include dB bB in
theorem aNx(F:FunD K "goes_round" "goes_round" zG dV fa fd):FnOk P w K mg base CX0 3 fa fd ["steps", "part"] (spI K 2 tK):=by
 refine bW (k:=2) F aDa 2 3 yJ rfl rfl fun cdv A outer s H E B hr=>?_
 have nd:=aDa.nd
 refine aH ?_ ?_
 ·exact bR 2 (aG bB hr (by decide) (aB (aA 1) (aJ))) nd
 exact aM (bI (bMb (kZ aKw aGc (toP (nP dB (toP (aA 2)))) (toP (aL)) (cC _)) (bJw (kZ (aYj hr.units) aYk (toP (cN hr.units (toP (aA 2)) (toP (aL)))) (toP (cN hr.units (toP (aA 0)) (toP (cN hr.units (toP (aA 2)) (toP (aL)))))) rfl))))
variable(tU:DefOk P w K mg base "goes_round" 3 2 tK)
include cQ bB eF jH tU in
theorem aKn(F:FunD K "parts_among" "parts_among" wL dV fa fd):FnOk P w K mg base CX0 4 fa fd ["steps", "allowed"] (spI K 2 qL):=by
 refine bW (k:=3) F aBw 2 7 vX rfl rfl fun cdv A outer s H E B hr=>?_
 have nd:=aBw.nd
 refine aH ?_ ?_
 ·exact bR 2 (aG jH hr (by decide) (aB (aA 0) (aB (aA 1) (aJ)))) nd
 refine aH ?_ ?_
 ·exact wI 3 (aFc (aJ)) nd
 refine aH ?_ ?_
 ·exact lA (jM (aG bB hr (by decide) (aB (aA 1) (aJ)))) (cD 4 nd) (aH (by exact bR 5 (aG eF hr (by decide) (aB (xN [6] lB (.of rfl) (jM (aG bB hr (by decide) (aB (cN hr.units (toP (aA 2)) (toP (aA 4))) (aJ)))) (fun _ _ _ _ _=>cD 6 nd) (fun _ _ _ _ _=>fL (aG cQ hr (by decide) (aB (cN hr.units (toP (aA 2)) (toP (aA 6))) (aB (aA 4) (aJ))))) (fun _ _ _ _ _=>aA 6) rfl) (aJ))) nd) (by exact aM (jA (PW.pt (bDc (cV (nQ hr.units) qD (toP (aA 5)) (gC 3) rfl) (aY0 (fL (aG tU hr (by decide) (aB (aA 0) (aB (aA 5) (aJ)))))))) (aM (aBl 3 (aA 5))) (dZ)))) PassesOwn.never rfl
 exact aM (aNe [3] (bI (aA 3)))
variable(qU:DefOk P w K mg base "parts_among" 4 2 qL)
include c_Machine aV qU in
theorem aNy(F:FunD K "loop_parts" "loop_parts" zH dV fa fd):FnOk P w K mg base CX0 5 fa fd ["machine", "allowed"] (spI K 2 jC):=by
 refine bW (k:=4) F aDb 2 2 yK rfl rfl fun cdv A outer s H E B hr=>?_
 have nd:=aDb.nd
 exact aM (bI (aG qU hr (by decide) (aB (pI c_Machine aV (toP (aA 0))) (aB (aA 1) (aJ)))))
include xY c_Machine aY bB in
theorem aRw(F:FunD K "top_rank" "top_rank" aE3 dV fa fd):FnOk P w K mg base CX0 3 fa fd ["machine", "bits"] (spI K 2 pP):=by
 refine bW (k:=2) F aHe 2 3 aDr rfl rfl fun cdv A outer s H E B hr=>?_
 have nd:=aHe.nd
 refine aH ?_ ?_
 ·exact jA (cV (lY hr.units) lZ (toP (aA 1)) (toP (aL)) (cC _)) (aM (oY)) (dZ)
 exact aM (bI (bDi xY rfl (toP (oW [2] lB (.of rfl) (jM (aG bB hr (by decide) (aB (aA 1) (aJ)))) (fun _ _ _ _ _=>cD 2 nd) (fun _ _ _ _ _=>cN hr.units (toP (pI c_Machine aY (toP (aA 0)))) (toP (aA 2))) rfl))))
variable(eZ:DefOk P w K mg base "loop_parts" 5 2 jC)
variable(iG:DefOk P w K mg base "top_rank" 3 2 pP)
include c_Machine aY bB eF eZ iG in
theorem aKd(F:FunD K "parts_topped" "parts_topped" uR dV fa fd):FnOk P w K mg base CX0 6 fa fd ["machine", "allowed", "rank"] (spF K 3 oM):=by
 refine bK5 (k:=5) F aAf 3 6 sH (dX [4] (tgN 4) (itE (aP jC (aD (aC 0) (aD (aC 3) (aN))))) (pR) (pQ)) rfl rfl fun cdv A outer s H E B hr=>?_
 have nd:=aAf.nd
 exact aTu (by exact bR 3 (aG eF hr (by decide) (aB (xN [5] lB (.of rfl) (jM (aG bB hr (by decide) (aB (aA 1) (aJ)))) (fun _ _ _ _ _=>cD 5 nd) (fun _ _ _ _ _=>cV aW7 aRf (toP (cN hr.units (toP (pI c_Machine aY (toP (aA 0)))) (toP (aA 5)))) (toP (aA 2)) (cC _)) (fun _ _ _ _ _=>aA 5) rfl) (aJ))) nd) (by exact aZ0 (aZ6 [4] lB (.of rfl) (jM (aG eZ hr (by decide) (aB (aA 0) (aB (aA 3) (aJ))))) (fun _ _ _ _ _=>cD 4 nd) (fun _ _ _ _ _=>cV (lY hr.units) lZ (toP (aG iG hr (by decide) (aB (aA 0) (aB (aA 4) (aJ))))) (toP (aA 2)) (cC _)) (fun _ _ _ _ _=>aA 4) rfl))
variable(mV:DefOk P w K mg base "ranks_of_sort" 3 3 mO)
variable(pB:DefOkF P w K mg base "parts_topped" 6 3 oM)
include mV pB in
theorem aHp(F:FunD K "loops_of_sort" "loops_of_sort" sW dV fa fd):FnOk P w K mg base CX0 7 fa fd ["machine", "allowed", "wanted"] (spI K 3 gM):=by
 refine bW (k:=6) F xT 3 5 sI rfl rfl fun cdv A outer s H E B hr=>?_
 have nd:=xT.nd
 refine aH ?_ ?_
 ·exact wI 3 (aFc (aJ)) nd
 refine aH ?_ ?_
 ·exact lA (jM (aG mV hr (by decide) (aB (aA 0) (aB (aA 1) (aB (aA 2) (aJ)))))) (cD 4 nd) (aM (bDh 3 (bBy pB hr (by decide) (aB (aA 0) (aB (aA 1) (aB (aA 4) (aJ))))))) PassesOwn.never rfl
 exact aM (aNe [3] (bI (aA 3)))
include gK c_Machine aV bO fQ dI in
theorem aHq(F:FunD K "rooms_reached" "rooms_reached" sX dV fa fd):FnOk P w K mg base CX0 2 fa fd ["machine"] (spF K 1 mQ):=by
 refine bK5 (k:=1) F xU 1 2 pU (e1 aG4 (aC 1)) rfl rfl fun cdv A outer s H E B hr=>?_
 have nd:=xU.nd
 exact aTu (by exact bR 1 (aG fQ hr (by decide) (aB (pI c_Machine aV (toP (aA 0))) (aB (aL) (aB (aQ2 gK dI rfl (toP (pI c_Machine bO (toP (aA 0))))) (aJ))))) nd) (by exact aZ0 (bBx gK rfl (aA 1)))
include eZ in
theorem aVs(F:FunD K "is_loop" "is_loop" aGh dV fa fd):FnOk P w K mg base CX0 6 fa fd ["machine", "bits"] (spI K 2 aC8):=by
 refine bW (k:=5) F aK4 2 2 aG6 rfl rfl fun cdv A outer s H E B hr=>?_
 have nd:=aK4.nd
 exact aM (bI (kZ (lY hr.units) lZ (toP (aG eZ hr (by decide) (aB (aA 0) (aB (aA 1) (aJ))))) (toP (aAa (aB (aA 1) (aJ)))) (cC _)))
include c_Machine aV fQ cQ bB in
theorem aZh(F:FunD K "way_in" "way_in" aK1 dV fa fd):FnOk P w K mg base CX0 3 fa fd ["machine", "allowed", "room", "goal"] (spI K 4 wY):=by
 refine bW (k:=2) F aMf 4 4 aIx rfl rfl fun cdv A outer s H E B hr=>?_
 have nd:=aMf.nd
 refine aH ?_ ?_
 ·exact jA (nO (fL (aG cQ hr (by decide) (aB (aA 1) (aB (aA 2) (aJ)))))) (aM (bI (aLv))) (dZ)
 exact aM (bI (bGq hr.units (toP (aG fQ hr (by decide) (aB (pI c_Machine aV (toP (aA 0))) (aB (aA 2) (aB (aG bB hr (by decide) (aB (aA 1) (aJ))) (aJ)))))) (aA 3)))
include g_LETTERS c_Machine aV in
theorem aAk(F:FunD K "rooms_along" "Machine.rooms_along" dJ dV fa fd):FnOk P w K mg base CX0 1 fa fd ["self", "room", "text"] (spF K 3 bC):=by
 refine bMg (k:=0) F oZ 3 5 3 dD rfl rfl fun cdv A outer s H E B hr=>?_
 have nd:=oZ.nd
 exact aTs (by exact wI 3 (aFc (aB (aA 1) (aJ))) nd) (by exact aTs (by exact lA (jM (aA 2)) (cD 4 nd) (aH (by exact bR 1 (cN hr.units (toP (cN hr.units (toP (pI c_Machine aV (toP (aA 0)))) (toP (aA 1)))) (toP (bG8 (toP (aJb [97,98,99] g_LETTERS)) (aB (aA 4) (aJ))))) nd) (by exact aM (aBl 3 (aA 1)))) PassesOwn.never rfl) (by exact bGd))
variable(aCp:DefOk P w K mg base "is_loop" 6 2 aC8)
variable(rP:DefOk P w K mg base "way_in" 3 4 wY)
variable(bH:MethOkF P w K mg base "Machine" "rooms_along" 1 3 [] bC)
include g_LETTERS c_Machine aV cQ bB aCp rP bH in
theorem aRx(F:FunD K "round_in" "round_in" aE4 dV fa fd):FnOk P w K mg base CX0 7 fa fd ["machine", "bits", "room"] (spI K 3 uG):=by
 refine bW (k:=6) F aHf 3 6 aDs rfl rfl fun cdv A outer s H E B hr=>?_
 have nd:=aHf.nd
 refine aH ?_ ?_
 ·exact jA (nO (fL (aG aCp hr (by decide) (aB (aA 0) (aB (aA 1) (aJ)))))) (aM (oY)) (dZ)
 refine aH ?_ ?_
 ·exact jA (nO (fL (aG cQ hr (by decide) (aB (aA 1) (aB (aA 2) (aJ)))))) (aM (oY)) (dZ)
 refine aH ?_ ?_
 ·exact jA (cV (lY hr.units) lZ (toP (aG bB hr (by decide) (aB (aA 1) (aJ)))) (toP (aAa (aB (aA 2) (aJ)))) (cC _)) (aM (bI (cN hr.units (toP (aJb [97,98,99] g_LETTERS)) (toP (aQ3 (toP (cN hr.units (toP (pI c_Machine aV (toP (aA 0)))) (toP (aA 2)))) (aB (aA 2) (aJ))))))) (dZ)
 refine aH ?_ ?_
 ·exact bR 3 (rM []) nd
 refine aH ?_ ?_
 ·exact bR 4 (aA 2) nd
 refine aH ?_ ?_
 ·exact lA (jM (aG bB hr (by decide) (aB (aA 1) (aJ)))) (cD 5 nd) (aM (jA (cV (nQ hr.units) qD (toP (aA 5)) (toP (lC (pl:=_) (MethOkF.plain bH) hr (by decide) (aA 0) (aB (aA 2) (aB (aA 3) (aJ))))) rfl) (aH (by exact bR 3 (iB (toP (aA 3)) (toP (aG rP hr (by decide) (aB (aA 0) (aB (aA 1) (aB (aA 4) (aB (aA 5) (aJ)))))))) nd) (by exact aM (bR 4 (aA 5) nd))) (dZ))) PassesOwn.never rfl
 exact aM (bI (iB (toP (aA 3)) (toP (aG rP hr (by decide) (aB (aA 0) (aB (aA 1) (aB (aA 4) (aB (aA 2) (aJ)))))))))
variable(mW:DefOkF P w K mg base "rooms_reached" 2 1 mQ)
variable(nH:DefOk P w K mg base "round_in" 7 3 uG)
include cQ mW nH in
theorem aVt(F:FunD K "nest_of" "nest_of" aGi dV fa fd):FnOk P w K mg base CX0 8 fa fd ["machine", "row"] (spI K 2 wZ):=by
 refine bW (k:=7) F aK5 2 7 aG7 rfl rfl fun cdv A outer s H E B hr=>?_
 have nd:=aK5.nd
 refine aH ?_ ?_
 ·exact aYm 2  [5] lB (.of rfl) (jM (aG (DefOkF.plain mW) hr (by decide) (aB (aA 0) (aJ)))) (fun _ _ _ _ _=>cD 5 nd) (fun _ _ _ _ _=>fL (aG cQ hr (by decide) (aB (cN hr.units (toP (aA 1)) (toP (aL))) (aB (cN hr.units (toP (aA 5)) (toP (aL))) (aJ))))) (fun _ _ _ _ _=>aA 5) rfl nd
 refine aH ?_ ?_
 ·exact bR 3 (cN hr.units (toP (cN hr.units (toP (aA 2)) (toP (aL)))) (toP (aL))) nd
 refine aH ?_ ?_
 ·exact bR 4 (cN hr.units (toP (cN hr.units (toP (aA 2)) (toP (aL)))) (toP (aL))) nd
 exact aM (bI (aBj (aB (aA 4) (aB (oW [6] lB (.of rfl) (jM (aA 1)) (fun _ _ _ _ _=>cD 6 nd) (fun _ _ _ _ _=>aG nH hr (by decide) (aB (aA 0) (aB (aA 6) (aB (aA 3) (aJ))))) rfl) (aJ)))))
include gD c_Machine bO in
theorem aC5(F:FunD K "check_room" "Machine.check_room" dU dV fa fd):FnOk P w K mg base CX0 3 fa fd ["self", "thing"] (spI K 2 cI):=by
 refine bW (k:=2) F pJ 2 2 kJ rfl rfl fun cdv A outer s H E B hr=>?_
 have nd:=pJ.nd
 exact aM (jA (nO (fL (aG gD hr (by decide) (aB (aA 1) (aB (pI c_Machine bO (toP (aA 0))) (aJ)))))) (aM (oY)) (dZ))
variable(aU2:mg "str" = none)
include bV g_LETTERS aU2 in
theorem aVu(F:FunD K "is_word" "is_word" aGj dV fa fd):FnOk P w K mg base CX0 1 fa fd ["thing", "many"] (spI K 2 jN):=by
 refine bW (k:=0) F aK6 2 2 aC9 rfl rfl fun cdv A outer s H E B hr=>?_
 have nd:=aK6.nd
 exact aM (bI (aD2 (xO ty_str bV aU2 (toP (aA 0))) (aDu (kZ (lY hr.units) lZ (toP (bBm (toP (aA 0)) (aB (aJj (toP (aJb [97,98,99] g_LETTERS)) (uO) (pZ (toP (aA 1)))) (aJ)))) (toP (rM [])) (cC _)))))
variable(nU:DefOk P w K mg base "is_word" 1 2 jN)
include c_Machine bN nU in
theorem aC6(F:FunD K "check_word" "Machine.check_word" dW dV fa fd):FnOk P w K mg base CX0 2 fa fd ["self", "thing"] (spI K 2 fB):=by
 refine bW (k:=1) F pK 2 2 kO rfl rfl fun cdv A outer s H E B hr=>?_
 have nd:=pK.nd
 exact aM (jA (nO (fL (aG nU hr (by decide) (aB (aA 1) (aB (pI c_Machine bN (toP (aA 0))) (aJ)))))) (aM (oY)) (dZ))
variable(cR:MethOk P w K mg base "Machine" "check_room" 3 2 [] cI)
variable(fO:MethOk P w K mg base "Machine" "check_word" 2 2 [] fB)
include bH cR fO in
theorem aHr(F:FunD K "after" "Machine.after" gQ dV fa fd):FnOk P w K mg base CX0 4 fa fd ["self", "room", "text"] (spI K 3 jL):=by
 refine bW (k:=3) F xV 3 3 sJ rfl rfl fun cdv A outer s H E B hr=>?_
 have nd:=xV.nd
 refine aH ?_ ?_
 ·exact aLx (lC (pl:=_) cR hr (by decide) (aA 0) (aB (aA 1) (aJ)))
 refine aH ?_ ?_
 ·exact aLx (lC (pl:=_) fO hr (by decide) (aA 0) (aB (aA 2) (aJ)))
 exact aM (bI (cN hr.units (toP (lC (pl:=_) (MethOkF.plain bH) hr (by decide) (aA 0) (aB (aA 1) (aB (aA 2) (aJ))))) (toP (aM1 (toP (aL))))))
variable(lD:DefOk P w K mg base "seen_from" 4 2 rG)
variable(eN:DefOk P w K mg base "loops_of_sort" 7 3 gM)
variable(qH:DefOk P w K mg base "nest_of" 8 2 wZ)
variable(jT:MethOk P w K mg base "Machine" "after" 4 3 [] jL)
include bB rP nH lD eN qH jT in
theorem aNz(F:FunD K "bar_behind" "bar_behind" zJ dV fa fd):FnOk P w K mg base CX0 9 fa fd ["machine", "good"] (spI K 2 oN):=by
 refine bW (k:=8) F aDc 2 10 yL rfl rfl fun cdv A outer s H E B hr=>?_
 have nd:=aDc.nd
 refine aH ?_ ?_
 ·exact bR 2 (aG lD hr (by decide) (aB (aA 0) (aB (aL) (aJ)))) nd
 refine aH ?_ ?_
 ·exact bR 3 (aG eN hr (by decide) (aB (aA 0) (aB (aA 2) (aB (aA 1) (aJ))))) nd
 refine aH ?_ ?_
 ·exact lA (jM (aG eN hr (by decide) (aB (aA 0) (aB (aA 2) (aB (bDb (aA 1)) (aJ)))))) (cD 4 nd) (aH (by exact bR 5 (aG qH hr (by decide) (aB (aA 0) (aB (aAa (aB (aA 4) (aJ))) (aJ)))) nd) (by exact aH (by exact bR 6 (lC (pl:=_) jT hr (by decide) (aA 0) (aB (aL) (aB (cN hr.units (toP (aA 5)) (toP (aL))) (aJ)))) nd) (by exact aM (lA (jM (aA 3)) (cD 7 nd) (aH (by exact bR 8 (cN hr.units (toP (aG bB hr (by decide) (aB (aA 7) (aJ)))) (toP (aL))) nd) (by exact aH (by exact bR 9 (aG rP hr (by decide) (aB (aA 0) (aB (aA 2) (aB (aA 6) (aB (aA 8) (aJ)))))) nd) (by exact aM (jA (cV aM2 aM3 (toP (aA 9)) (toP (aLv)) (cC _)) (aM (bI (aBj (aB (cN hr.units (toP (aA 5)) (toP (aL))) (aB (cN hr.units (toP (cN hr.units (toP (aA 5)) (toP (aL)))) (toP (aL))) (aB (aA 9) (aB (aG nH hr (by decide) (aB (aA 0) (aB (aA 7) (aB (aA 8) (aJ))))) (aJ)))))))) (dZ))))) PassesOwn.never rfl)))) PassesOwn.never rfl
 exact aM (bI (aLv))
variable(jJ:DefOk P w K mg base "bar_behind" 9 2 oN)
include jJ in
theorem aKo(F:FunD K "bar" "EarlyNo.bar" jP dV fa fd):FnOk P w K mg base CX0 10 fa fd ["self", "machine"] (spI K 2 mF):=by
 refine bW (k:=9) F aBx 2 2 vY rfl rfl fun cdv A outer s H E B hr=>?_
 have nd:=aBx.nd
 exact aM (bI (aG jJ hr (by decide) (aB (aA 1) (aB (xJ) (aJ)))))
include jJ in
theorem aKe(F:FunD K "bar" "EarlyYes.bar" iV dV fa fd):FnOk P w K mg base CX0 10 fa fd ["self", "machine"] (spI K 2 kW):=by
 refine bW (k:=9) F aAg 2 2 uH rfl rfl fun cdv A outer s H E B hr=>?_
 have nd:=aAg.nd
 exact aM (bI (aG jJ hr (by decide) (aB (aA 1) (aB (xJ) (aJ)))))
include c_Machine aY bB eF iG in
theorem aKp(F:FunD K "without_top" "without_top" wM dV fa fd):FnOk P w K mg base CX0 4 fa fd ["machine", "loop"] (spI K 2 qM):=by
 refine bW (k:=3) F aBy 2 4 vZ rfl rfl fun cdv A outer s H E B hr=>?_
 have nd:=aBy.nd
 refine aH ?_ ?_
 ·exact bR 2 (aG iG hr (by decide) (aB (aA 0) (aB (aA 1) (aJ)))) nd
 exact aM (bI (aG eF hr (by decide) (aB (xN [3] lB (.of rfl) (jM (aG bB hr (by decide) (aB (aA 1) (aJ)))) (fun _ _ _ _ _=>cD 3 nd) (fun _ _ _ _ _=>cV (yV hr.units) yW (toP (cN hr.units (toP (pI c_Machine aY (toP (aA 0)))) (toP (aA 3)))) (toP (aA 2)) (cC _)) (fun _ _ _ _ _=>aA 3) rfl) (aJ))))
include iG in
theorem aVv(F:FunD K "is_good" "is_good" aGk dV fa fd):FnOk P w K mg base CX0 4 fa fd ["machine", "bits"] (spI K 2 xF):=by
 refine bW (k:=3) F aK7 2 2 aG8 rfl rfl fun cdv A outer s H E B hr=>?_
 have nd:=aK7.nd
 exact aM (bI (kZ (lY hr.units) lZ (toP (rN (toP (aG iG hr (by decide) (aB (aA 0) (aB (aA 1) (aJ))))) (toP (aL)))) (toP (aL)) (cC _)))
variable(qW:DefOk P w K mg base "without_top" 4 2 qM)
variable(xZ:DefOk P w K mg base "is_good" 4 2 xF)
include eZ qW xZ in
theorem aKq(F:FunD K "inner_loops" "inner_loops" wN dV fa fd):FnOk P w K mg base CX0 6 fa fd ["machine", "loop"] (spI K 2 qN):=by
 refine bW (k:=5) F aBz 2 6 wA rfl rfl fun cdv A outer s H E B hr=>?_
 have nd:=aBz.nd
 refine aH ?_ ?_
 ·exact wI 2 (aFc (aJ)) nd
 refine aH ?_ ?_
 ·exact wI 3 (aFc (aB (aA 1) (aJ))) nd
 refine aH ?_ ?_
 ·exact aFe 100000 (cV (yV hr.units) yW (gC 3) (toP (aAa (aJ))) (cC _)) (aH (by exact bGr 4 3 qW hr (by decide) (aA 0) nd) (by exact aM (lA (jM (aG eZ hr (by decide) (aB (aA 0) (aB (aA 4) (aJ))))) (cD 5 nd) (aM (jA (cV (lY hr.units) lZ (toP (aG xZ hr (by decide) (aB (aA 0) (aB (aA 5) (aJ))))) (toP (aG xZ hr (by decide) (aB (aA 0) (aB (aA 1) (aJ))))) (cC _)) (aM (aBl 3 (aA 5))) (aM (aBl 2 (aA 5))))) PassesOwn.never rfl))) PassesOwn.never
 exact aM (aNe [2] (bI (aA 2)))
variable(qX:DefOk P w K mg base "inner_loops" 6 2 qN)
include lD eN qH qX in
theorem aO0(F:FunD K "bar_within" "bar_within" zK dV fa fd):FnOk P w K mg base CX0 9 fa fd ["machine", "good"] (spI K 2 jD):=by
 refine bW (k:=8) F aDd 2 5 yM rfl rfl fun cdv A outer s H E B hr=>?_
 have nd:=aDd.nd
 refine aH ?_ ?_
 ·exact lA (jM (aG eN hr (by decide) (aB (aA 0) (aB (aG lD hr (by decide) (aB (aA 0) (aB (aL) (aJ)))) (aB (aA 1) (aJ)))))) (cD 2 nd) (aH (by exact bR 3 (aG qX hr (by decide) (aB (aA 0) (aB (aA 2) (aJ)))) nd) (by exact aM (jA (cV (yV hr.units) yW (toP (aA 3)) (toP (aAa (aJ))) (cC _)) (aH (by exact bR 4 (aG qH hr (by decide) (aB (aA 0) (aB (aAa (aB (cN hr.units (toP (aA 3)) (toP (aL))) (aB (aA 2) (aJ)))) (aJ)))) nd) (by exact aM (bI (aBj (aB (cN hr.units (toP (aA 4)) (toP (aL))) (aB (cN hr.units (toP (cN hr.units (toP (aA 4)) (toP (aL)))) (toP (aL))) (aB (rM []) (aB (cN hr.units (toP (cN hr.units (toP (aA 4)) (toP (aL)))) (toP (aL))) (aJ))))))))) (dZ)))) PassesOwn.never rfl
 exact aM (bI (aLv))
variable(eE:DefOk P w K mg base "bar_within" 9 2 jD)
include eE in
theorem aKr(F:FunD K "bar" "Settled.bar" jQ dV fa fd):FnOk P w K mg base CX0 10 fa fd ["self", "machine"] (spI K 2 mG):=by
 refine bW (k:=9) F aC0 2 3 wB rfl rfl fun cdv A outer s H E B hr=>?_
 have nd:=aC0.nd
 refine aH ?_ ?_
 ·exact bR 2 (aG eE hr (by decide) (aB (aA 1) (aB (xJ) (aJ)))) nd
 exact aM (bI (bDd (cV aM2 aM3 (toP (aA 2)) (toP (aLv)) (cC _)) (aA 2) (aG eE hr (by decide) (aB (aA 1) (aB (xJ) (aJ))))))
include eE in
theorem aQn(F:FunD K "bar" "Again.bar" nR dV fa fd):FnOk P w K mg base CX0 10 fa fd ["self", "machine"] (spI K 2 rH):=by
 refine bW (k:=9) F aFr 2 2 aB5 rfl rfl fun cdv A outer s H E B hr=>?_
 have nd:=aFr.nd
 exact aM (bI (aG eE hr (by decide) (aB (aA 1) (aB (xJ) (aJ)))))
include eE in
theorem aKs(F:FunD K "bar" "Lasting.bar" jR dV fa fd):FnOk P w K mg base CX0 10 fa fd ["self", "machine"] (spI K 2 mH):=by
 refine bW (k:=9) F aC1 2 2 wC rfl rfl fun cdv A outer s H E B hr=>?_
 have nd:=aC1.nd
 exact aM (bI (aG eE hr (by decide) (aB (aA 1) (aB (xJ) (aJ)))))
variable(vO:DefOk P w K mg base "all_kinds" 1 0 uW)
variable(lN:MethOk P w K mg base "EarlyNo" "word" 1 1 [] jZ)
variable(jU:MethOk P w K mg base "EarlyYes" "word" 1 1 [] jK)
variable(lO:MethOk P w K mg base "Settled" "word" 1 1 [] kE)
variable(pC:MethOk P w K mg base "Again" "word" 1 1 [] oJ)
variable(lQ:MethOk P w K mg base "Lasting" "word" 1 1 [] kI)
variable(mX:MethOk P w K mg base "EarlyNo" "bar" 10 2 [] mF)
variable(lR:MethOk P w K mg base "EarlyYes" "bar" 10 2 [] kW)
variable(mY:MethOk P w K mg base "Settled" "bar" 10 2 [] mG)
variable(qY:MethOk P w K mg base "Again" "bar" 10 2 [] rH)
variable(mZ:MethOk P w K mg base "Lasting" "bar" 10 2 [] mH)
include vO lN jU lO pC lQ mX lR mY qY mZ in
theorem aRy(F:FunD K "kinds_of" "kinds_of" aE5 dV fa fd):FnOk P w K mg base CX0 11 fa fd ["machine"] (spI K 1 yN):=by
 refine bW (k:=10) F aHg 1 2 aDt rfl rfl fun cdv A outer s H E B hr=>?_
 have nd:=aHg.nd
 exact aM (bI (xN [1] lB (.of rfl) (jM (aZe vO hr (by decide))) (fun _ _ _ _ _=>cD 1 nd) (fun _ _ _ _ _=>cV bG9 bGa (toP (aH9 (lC (pl:=_) mX hr (by decide) (aA 1) (aB (aA 0) (aJ))) (aH9 (lC (pl:=_) lR hr (by decide) (aA 1) (aB (aA 0) (aJ))) (aH9 (lC (pl:=_) mY hr (by decide) (aA 1) (aB (aA 0) (aJ))) (aH9 (lC (pl:=_) qY hr (by decide) (aA 1) (aB (aA 0) (aJ))) (lC (pl:=_) mZ hr (by decide) (aA 1) (aB (aA 0) (aJ)))))))) (toP (aLv)) (cC _)) (fun _ _ _ _ _=>aH9 (aFf (pl:=_) lN hr (by decide) (aA 1)) (aH9 (aFf (pl:=_) jU hr (by decide) (aA 1)) (aH9 (aFf (pl:=_) lO hr (by decide) (aA 1)) (aH9 (aFf (pl:=_) pC hr (by decide) (aA 1)) (aFf (pl:=_) lQ hr (by decide) (aA 1)))))) rfl))
variable(tV:DefOk P w K mg base "_law_share" 1 2 tH)
variable(zV:DefOk P w K mg base "kinds_of" 11 1 yN)
variable(zW:mg (Str.ofString "Machine")=some (.ref A_Machine))
variable(zX:IsC K A_Machine)
include bV c_Machine bO bN tV zV zW zX in
theorem aHs(F:FunD K "_law_machines" "_law_machines" sY dV fa fd):FnOk P w K mg base CX0 12 fa fd ["_law_low", "_law_high", "_law_top", "_law_bottom", "_law_base"] (spI K 5 gO):=by
 refine bW (k:=11) F xW 5 7 sO rfl rfl fun cdv A outer s H E B hr=>?_
 have nd:=xW.nd
 refine aH ?_ ?_
 ·exact bR 5 (aG tV hr (by decide) (aB (aA 2) (aB (aA 3) (aJ)))) nd
 refine aH ?_ ?_
 ·exact lA (jM (aAa (aB (aA 0) (aB (aA 1) (aJ))))) (cD 6 nd) (aH (by exact jA (PW.pt (aRg (nO (fL (bK6 bV c_Machine zW zX (toP (aA 6))))) (aRg (cV (yV hr.units) yW (toP (pI c_Machine bN (toP (aA 6)))) (toP (aA 4)) (cC _)) (aLw (cV aKw aGc (toP (pI c_Machine bO (toP (aA 6)))) (toP (iB (toP (aBh (toP (aA 3)) (toP (aA 5)))) (toP (aL)))) (cC _)))))) (aM (bI (xJ))) (dZ)) (by exact aM (jA (cV (nQ hr.units) qD (toP (rM [101,97,114,108,121,32,110,111])) (toP (aG zV hr (by decide) (aB (aA 6) (aJ)))) rfl) (aM (bI (xJ))) (dZ)))) PassesOwn.never rfl
 exact aM (bI (xJ))
include dB g_LETTERS in
theorem aO1(F:FunD K "writing_of" "writing_of" zL dV fa fd):FnOk P w K mg base CX0 1 fa fd ["top", "bottom", "base", "least"] (spI K 4 oO):=by
 refine bW (k:=0) F aDe 4 7 yO rfl rfl fun cdv A outer s H E B hr=>?_
 have nd:=aDe.nd
 refine aH ?_ ?_
 ·exact bR 4 (rM []) nd
 refine aH ?_ ?_
 ·exact aNj 5 nd
 refine aH ?_ ?_
 ·exact aFe 100000 (cV (nQ hr.units) qD (toP (aA 0)) (gC 5) rfl) (aH (by exact aGe hr.units 5 (aA 0) (nP dB (toP (aA 4)))) (by exact aH (by exact bR 6 (aBh (toP (aPh (toP (gH (toP (aA 2)) (toP (aA 0)))) (toP (aA 3)))) (toP (aA 1))) nd) (by exact aH (by exact bR 4 (iB (toP (aA 4)) (toP (cN hr.units (toP (aJb [97,98,99] g_LETTERS)) (toP (aA 6))))) nd) (by exact aM (bR 0 (aPh (toP (gH (toP (aA 2)) (toP (aA 0)))) (toP (gH (toP (aA 6)) (toP (aA 1))))) nd))))) PassesOwn.never
 exact aM (bI (aBj (aB (aJj (toP (aA 4)) (uO) (pZ (toP (cN hr.units (gC 5) (toP (aA 0)))))) (aB (aJj (toP (aA 4)) (pZ (toP (cN hr.units (gC 5) (toP (aA 0))))) (uO)) (aJ)))))
variable(pD:DefOk P w K mg base "writing_of" 1 4 oO)
include eV pD in
theorem aKt(F:FunD K "writings_of" "writings_of" wO dV fa fd):FnOk P w K mg base CX0 4 fa fd ["top", "bottom", "base"] (spI K 3 jO):=by
 refine bW (k:=3) F aC2 3 5 wF rfl rfl fun cdv A outer s H E B hr=>?_
 have nd:=aC2.nd
 refine aH ?_ ?_
 ·exact aLx (aG eV hr (by decide) (aB (aA 0) (aB (aA 1) (aB (aA 2) (aJ)))))
 refine aH ?_ ?_
 ·exact wI 3 (aFc (aJ)) nd
 refine aH ?_ ?_
 ·exact jA (cV aO9 aFg (toP (aA 0)) (toP (aA 1)) (cC _)) (aM (aBl 3 (aG pD hr (by decide) (aB (aA 0) (aB (aA 1) (aB (aA 2) (aB (aL) (aJ)))))))) (dZ)
 refine aH ?_ ?_
 ·exact jA (cV aKw aGc (toP (aA 0)) (toP (aL)) (cC _)) (aH (by exact bR 4 (aG pD hr (by decide) (aB (aA 0) (aB (aA 1) (aB (aA 2) (aB (aL) (aJ)))))) nd) (by exact aM (jA (cV (nQ hr.units) qD (toP (aA 4)) (gC 3) rfl) (aM (aBl 3 (aA 4))) (dZ)))) (dZ)
 exact aM (aNe [3] (bI (aA 3)))
variable(dC:DefOk P w K mg base "_law_pick" 1 3 cZ)
include dI dC in
theorem aQo(F:FunD K "_law_text" "_law_text" aBu dV fa fd):FnOk P w K mg base CX0 2 fa fd ["_law_cell_here", "_law_k", "_law_many", "_law_base"] (spI K 4 rJ):=by
 refine bW (k:=1) F aFs 4 5 aH3 rfl rfl fun cdv A outer s H E B hr=>?_
 have nd:=aFs.nd
 exact aM (bI (aYo (toP (rM [])) (aB (oW [4] lB (.of rfl) (aJh dI (toP (aA 2))) (fun _ _ _ _ _=>cD 4 nd) (fun _ _ _ _ _=>cN hr.units (toP (rM [97,98,99])) (toP (aG dC hr (by decide) (aB (aA 0) (aB (iB (toP (aA 1)) (toP (aA 4))) (aB (aA 3) (aJ))))))) rfl) (aJ))))
variable(lE:DefOk P w K mg base "_law_cell" 1 2 rE)
variable(rQ:DefOk P w K mg base "_law_text" 2 4 rJ)
variable(fU:DefOk P w K mg base "_law_digits" 1 2 dM)
include dI dC lE rQ fU in
theorem aO2(F:FunD K "_law_words" "_law_words" zM dV fa fd):FnOk P w K mg base CX0 3 fa fd ["_law_script", "_law_start", "_law_writings", "_law_base"] (spI K 4 tL):=by
 refine bW (k:=2) F aDf 4 13 aEt rfl rfl fun cdv A outer s H E B hr=>?_
 have nd:=aDf.nd
 refine aH ?_ ?_
 ·exact wI 4 (aFc (aJ)) nd
 refine aH ?_ ?_
 ·exact lA (aJh dI (toP (aL))) (cD 5 nd) (aH (by exact bR 6 (aG lE hr (by decide) (aB (aA 0) (aB (iB (toP (aA 1)) (toP (aA 5))) (aJ)))) nd) (by exact aH (by exact bR 7 (aBj (aB (aG rQ hr (by decide) (aB (aA 6) (aB (aL) (aB (aG dC hr (by decide) (aB (aA 6) (aB (aL) (aB (aL) (aJ))))) (aB (aA 3) (aJ)))))) (aB (aG rQ hr (by decide) (aB (aA 6) (aB (aL) (aB (iB (toP (aL)) (toP (aG dC hr (by decide) (aB (aA 6) (aB (aL) (aB (aL) (aJ))))))) (aB (aA 3) (aJ)))))) (aJ)))) nd) (by exact aH (by exact jA (cV (lY hr.units) lZ (toP (rN (toP (aA 6)) (toP (aL)))) (toP (aL)) (cC _)) (aH (by exact bR 9 (aG fU hr (by decide) (aB (aBh (toP (aA 6)) (toP (aL))) (aB (aAa (aB (aL) (aB (aL) (aJ)))) (aJ)))) nd) (by exact aH (by exact bR 10 (aYo (toP (rM [])) (aB (oW [12] lB (.of rfl) (jM (aG fU hr (by decide) (aB (aBh (toP (aA 6)) (toP (aL))) (aB (aZc (aB (aA 3) (aJ)) (toP (iB (toP (iB (toP (cN hr.units (toP (aA 9)) (toP (aL)))) (toP (aL)))) (toP (cN hr.units (toP (aA 9)) (toP (aL))))))) (aJ))))) (fun _ _ _ _ _=>cD 12 nd) (fun _ _ _ _ _=>cN hr.units (toP (rM [97,98,99])) (toP (aA 12))) rfl) (aJ))) nd) (by exact aM (bR 7 (aBj (aB (aJj (toP (aA 10)) (uO) (pZ (toP (cN hr.units (toP (aA 9)) (toP (aL)))))) (aB (aJj (toP (aA 10)) (pZ (toP (cN hr.units (toP (aA 9)) (toP (aL))))) (uO)) (aJ)))) nd)))) (dZ)) (by exact aH (by exact aBl 4 (aA 7)) (by exact aM (lA (jM (aA 2)) (cD 8 nd) (aH (by exact bR 11 (iB (toP (cN hr.units (toP (aA 8)) (toP (aL)))) (toP (bDg (toP (cN hr.units (toP (aA 8)) (toP (aL)))) (toP (aL))))) nd) (by exact aH (by exact aBl 4 (aBj (aB (iB (toP (aJj (toP (aA 11)) (uO) (pZ (toP (aG dC hr (by decide) (aB (aA 6) (aB (aL) (aB (aL) (aJ))))))))) (toP (cN hr.units (toP (aA 7)) (toP (aL))))) (aB (cN hr.units (toP (aA 7)) (toP (aL))) (aJ))))) (by exact aM (aBl 4 (aBj (aB (iB (toP (aJj (toP (aA 11)) (uO) (pZ (toP (aG dC hr (by decide) (aB (aA 6) (aB (aL) (aB (aL) (aJ))))))))) (toP (aJj (toP (cN hr.units (toP (aA 7)) (toP (aL)))) (uO) (pZ (toP (aL)))))) (aB (aJj (toP (cN hr.units (toP (aA 7)) (toP (aL)))) (uO) (pZ (toP (aL)))) (aJ)))))))) PassesOwn.never rfl)))))) PassesOwn.never rfl
 exact aM (aNe [4] (bI (aA 4)))
include dI in
theorem aO3(F:FunD K "_law_power" "_law_power" zN dV fa fd):FnOk P w K mg base CX0 1 fa fd ["_law_base", "_law_many"] (spI K 2 oR):=by
 refine bW (k:=0) F aDg 2 4 aEu rfl rfl fun cdv A outer s H E B hr=>?_
 have nd:=aDg.nd
 refine aH ?_ ?_
 ·exact bR 2 (aL) nd
 refine aH ?_ ?_
 ·exact lA (aJh dI (toP (aA 1))) (cD 3 nd) (aM (bR 2 (gH (toP (aA 2)) (toP (aA 0))) nd)) PassesOwn.never rfl
 exact aM (bI (aA 2))
theorem aKu(F:FunD K "_law_number" "_law_number" wQ dV fa fd):FnOk P w K mg base CX0 1 fa fd ["_law_text_here", "_law_base"] (spI K 2 mJ):=by
 refine bW (k:=0) F aC3 2 4 aCy rfl rfl fun cdv A outer s H E B hr=>?_
 have nd:=aC3.nd
 refine aH ?_ ?_
 ·exact bR 2 (aL) nd
 refine aH ?_ ?_
 ·exact lA (jM (aA 0)) (cD 3 nd) (aM (bR 2 (iB (toP (gH (toP (aA 2)) (toP (aA 1)))) (toP (bBl (toP (rM [97,98,99])) (aB (aA 3) (aJ))))) nd)) PassesOwn.never rfl
 exact aM (bI (aA 2))
variable(pF:DefOk P w K mg base "_law_power" 1 2 oR)
variable(mL:DefOk P w K mg base "_law_number" 1 2 mJ)
include dB pF mL in
theorem aO4(F:FunD K "_law_worth" "_law_worth" zO dV fa fd):FnOk P w K mg base CX0 2 fa fd ["_law_word", "_law_base"] (spI K 2 tM):=by
 refine bW (k:=1) F aDh 2 4 aEv rfl rfl fun cdv A outer s H E B hr=>?_
 have nd:=aDh.nd
 refine aH ?_ ?_
 ·exact bR 2 (aPh (toP (aG pF hr (by decide) (aB (aA 1) (aB (nP dB (toP (cN hr.units (toP (aA 0)) (toP (aL))))) (aJ))))) (toP (aL))) nd
 refine aH ?_ ?_
 ·exact bR 3 (iB (toP (gH (toP (aG mL hr (by decide) (aB (cN hr.units (toP (aA 0)) (toP (aL))) (aB (aA 1) (aJ))))) (toP (aA 2)))) (toP (aG mL hr (by decide) (aB (cN hr.units (toP (aA 0)) (toP (aL))) (aB (aA 1) (aJ)))))) nd
 exact aM (bI (aBj (aB (aA 3) (aB (gH (toP (aG pF hr (by decide) (aB (aA 1) (aB (nP dB (toP (cN hr.units (toP (aA 0)) (toP (aL))))) (aJ))))) (toP (aA 2))) (aJ)))))
variable(aIe:mg "tuple" = none)
include dB bV nU aIe in
theorem aO5(F:FunD K "is_endless" "is_endless" zP dV fa fd):FnOk P w K mg base CX0 2 fa fd ["thing", "many"] (spI K 2 jE):=by
 refine bW (k:=1) F aDi 2 2 yP rfl rfl fun cdv A outer s H E B hr=>?_
 have nd:=aDi.nd
 refine aH ?_ ?_
 ·exact jA (PW.pt (aRg (nO (fL (xO ty_tuple bV aIe (toP (aA 0))))) (aLw (cV (yV hr.units) yW (toP (nP dB (toP (aA 0)))) (toP (aL)) (cC _))))) (aM (bI (xJ))) (dZ)
 exact aM (bI (aD2 (aG nU hr (by decide) (aB (cN hr.units (toP (aA 0)) (toP (aL))) (aB (aA 1) (aJ)))) (aD2 (aG nU hr (by decide) (aB (cN hr.units (toP (aA 0)) (toP (aL))) (aB (aA 1) (aJ)))) (aDu (kZ (yV hr.units) yW (toP (cN hr.units (toP (aA 0)) (toP (aL)))) (toP (rM [])) (cC _))))))
variable(tW:DefOk P w K mg base "is_endless" 2 2 jE)
include dB c_Machine bN bH cR tW in
theorem aKf(F:FunD K "walk" "Machine.walk" iW dV fa fd):FnOk P w K mg base CX0 4 fa fd ["self", "word", "room"] (spI K 3 kY):=by
 refine bW (k:=3) F aAh 3 6 aB9 rfl rfl fun cdv A outer s H E B hr=>?_
 have nd:=aAh.nd
 refine aH ?_ ?_
 ·exact aLx (lC (pl:=_) cR hr (by decide) (aA 0) (aB (aA 2) (aJ)))
 refine aH ?_ ?_
 ·exact jA (nO (fL (aG tW hr (by decide) (aB (aA 1) (aB (pI c_Machine bN (toP (aA 0))) (aJ)))))) (aM (oY)) (dZ)
 refine aH ?_ ?_
 ·exact wI 3 (bGe (pl:=_) bH hr (by decide) (aA 0) (aB (aA 2) (aB (cN hr.units (toP (aA 1)) (toP (aL))) (aJ)))) nd
 refine aH ?_ ?_
 ·exact aNj 4 nd
 refine aH ?_ ?_
 ·exact aFe 100000 (cV (nQ hr.units) qD (toP (cN hr.units (gC 3) (toP (aM1 (toP (aL)))))) (gC 4) rfl) (aH (by exact aGe hr.units 4 (cN hr.units (gC 3) (toP (aM1 (toP (aL))))) (aPh (toP (nP dB (gC 3))) (toP (aL)))) (by exact aM (bDh 3 (bMf (toP (lC (pl:=_) (MethOkF.plain bH) hr (by decide) (aA 0) (aB (cN hr.units (gC 3) (toP (aM1 (toP (aL))))) (aB (cN hr.units (toP (aA 1)) (toP (aL))) (aJ))))) (pZ (toP (aL))) (uO))))) PassesOwn.never
 refine aH ?_ ?_
 ·exact bR 5 (cN hr.units (gC 4) (toP (cN hr.units (gC 3) (toP (aM1 (toP (aL))))))) nd
 exact aM (bI (aBj (aB (aJj (gC 3) (uO) (pZ (toP (aA 5)))) (aB (aJj (gC 3) (pZ (toP (aA 5))) (pZ (toP (aM1 (toP (aL)))))) (aJ)))))
variable(lU:MethOk P w K mg base "Machine" "walk" 4 3 [] kY)
include xY c_Machine aY lU in
theorem aKg(F:FunD K "lets" "Machine.lets" iY dV fa fd):FnOk P w K mg base CX0 5 fa fd ["self", "word", "room"] (spI K 3 cU):=by
 refine bW (k:=4) F aAi 3 5 aBa rfl rfl fun cdv A outer s H E B hr=>?_
 have nd:=aAi.nd
 refine aH ?_ ?_
 ·exact bR 3 (cN hr.units (toP (lC (pl:=_) lU hr (by decide) (aA 0) (aB (aA 1) (aB (aA 2) (aJ))))) (toP (aL))) nd
 exact aM (bI (kZ (lY hr.units) lZ (toP (rN (toP (bDi xY rfl (toP (oW [4] lB (.of rfl) (jM (aA 3)) (fun _ _ _ _ _=>cD 4 nd) (fun _ _ _ _ _=>cN hr.units (toP (pI c_Machine aY (toP (aA 0)))) (toP (aA 4))) rfl)))) (toP (aL)))) (toP (aL)) (cC _)))
variable(tX:DefOk P w K mg base "_law_worth" 2 2 tM)
variable(dF:MethOk P w K mg base "Machine" "lets" 5 3 [.int 0] cU)
include tX dF in
theorem aHt(F:FunD K "_law_compared" "_law_compared" sZ dV fa fd):FnOk P w K mg base CX0 6 fa fd ["_law_low", "_law_high", "_law_top", "_law_bottom", "_law_base", "_law_words_here"] (spI K 6 mR):=by
 refine bW (k:=5) F xX 6 8 aA9 rfl rfl fun cdv A outer s H E B hr=>?_
 have nd:=xX.nd
 refine aH ?_ ?_
 ·exact lA (jM (aA 5)) (cD 6 nd) (aH (by exact bR 7 (aG tX hr (by decide) (aB (aA 6) (aB (aA 4) (aJ)))) nd) (by exact aH (by exact jA (cV (yV hr.units) yW (toP (lC (pl:=_) dF hr (by decide) (aA 0) (aB (aA 6) (aJ)))) (toP (kZ aW7 aRf (toP (gH (toP (cN hr.units (toP (aA 7)) (toP (aL)))) (toP (aA 3)))) (toP (gH (toP (aA 2)) (toP (cN hr.units (toP (aA 7)) (toP (aL)))))) (cC _))) (cC _)) (aM (bI (xJ))) (dZ)) (by exact aM (jA (cV (yV hr.units) yW (toP (lC (pl:=_) dF hr (by decide) (aA 1) (aB (aA 6) (aJ)))) (toP (kZ aS0 aNb (toP (gH (toP (cN hr.units (toP (aA 7)) (toP (aL)))) (toP (aA 3)))) (toP (gH (toP (aA 2)) (toP (cN hr.units (toP (aA 7)) (toP (aL)))))) (cC _))) (cC _)) (aM (bI (xJ))) (dZ))))) PassesOwn.never rfl
 exact aM (bI (xJ))
variable(aIf:DefOk P w K mg base "up_to" 8 3 aHx)
variable(aCq:DefOk P w K mg base "from_on" 8 3 aC7)
variable(nA:DefOk P w K mg base "_law_machines" 12 5 gO)
variable(qZ:DefOk P w K mg base "writings_of" 4 3 jO)
variable(tY:DefOk P w K mg base "_law_words" 3 4 tL)
variable(nC:DefOk P w K mg base "_law_compared" 6 6 mR)
include dB xY aK9 dI dC lE fU dF aIf aCq nA qZ tY nC in
theorem bK7(F:FunD K "law" "law" aFi dV fa fd):FnOk P w K mg base CX0 13 fa fd ["_law_script"] (spI K 1 aLd):=by
 refine bW (k:=12) F aZf 1 12 bCt rfl rfl fun cdv A outer s H E B hr=>?_
 have nd:=aZf.nd
 refine aH ?_ ?_
 ·exact lA (aJh dI (toP (aYg xY rfl (toP (aL)) (toP (aYh aK9 rfl (toP (aBh (toP (nP dB (toP (aA 0)))) (toP (aL)))) (toP (aL))))))) (cD 1 nd) (aH (by exact bR 2 (aG lE hr (by decide) (aB (aA 0) (aB (gH (toP (aL)) (toP (aA 1))) (aJ)))) nd) (by exact aH (by exact bR 3 (aAa (aB (aG dC hr (by decide) (aB (aA 2) (aB (aL) (aB (aL) (aJ))))) (aB (aG dC hr (by decide) (aB (aA 2) (aB (aL) (aB (aL) (aJ))))) (aB (aG dC hr (by decide) (aB (aA 2) (aB (aL) (aB (aL) (aJ))))) (aJ))))) nd) (by exact aH (by exact jA (cV (lY hr.units) lZ (toP (rN (toP (aA 2)) (toP (aL)))) (toP (aL)) (cC _)) (aM (bR 3 (aG fU hr (by decide) (aB (aBh (toP (aA 2)) (toP (aL))) (aB (aAa (aB (aL) (aB (aL) (aB (aL) (aJ))))) (aJ)))) nd)) (dZ)) (by exact aH (by exact bR 4 (iB (toP (aL)) (toP (cN hr.units (toP (aA 3)) (toP (aL))))) nd) (by exact aH (by exact bR 5 (rN (toP (cN hr.units (toP (aA 3)) (toP (aL)))) (toP (iB (toP (aA 4)) (toP (aL))))) nd) (by exact aH (by exact bR 6 (iB (toP (aL)) (toP (cN hr.units (toP (aA 3)) (toP (aL))))) nd) (by exact aH (by exact bR 7 (aG aIf hr (by decide) (aB (aA 5) (aB (aA 4) (aB (aA 6) (aJ))))) nd) (by exact aH (by exact bR 8 (aG aCq hr (by decide) (aB (aA 5) (aB (aA 4) (aB (aA 6) (aJ))))) nd) (by exact aH (by exact jA (nO (fL (aG nA hr (by decide) (aB (aA 7) (aB (aA 8) (aB (aA 5) (aB (aA 4) (aB (aA 6) (aJ))))))))) (aM (bI (xJ))) (dZ)) (by exact aH (by exact bR 9 (aG qZ hr (by decide) (aB (aA 5) (aB (aA 4) (aB (aA 6) (aJ))))) nd) (by exact aH (by exact bR 10 (aG tY hr (by decide) (aB (aA 0) (aB (iB (toP (gH (toP (aL)) (toP (aA 1)))) (toP (aL))) (aB (aA 9) (aB (aA 6) (aJ)))))) nd) (by exact aH (by exact lA (jM (aA 9)) (cD 11 nd) (aH (by exact bR 10 (iB (toP (aA 10)) (toP (aAa (aB (aA 11) (aB (aBj (aB (iB (toP (cN hr.units (toP (aA 11)) (toP (aL)))) (toP (bDg (toP (cN hr.units (toP (aA 11)) (toP (aL)))) (toP (aL))))) (aB (cN hr.units (toP (aA 11)) (toP (aL))) (aJ)))) (aJ)))))) nd) (by exact aM (jA (PW.pt (aRg (nO (fL (lC (pl:=_) dF hr (by decide) (aA 7) (aB (aA 11) (aJ))))) (aLw (nO (fL (lC (pl:=_) dF hr (by decide) (aA 8) (aB (aA 11) (aJ)))))))) (aM (bI (xJ))) (dZ)))) PassesOwn.never rfl) (by exact aM (jA (nO (fL (aG nC hr (by decide) (aB (aA 7) (aB (aA 8) (aB (aA 5) (aB (aA 4) (aB (aA 6) (aB (aA 10) (aJ)))))))))) (aM (bI (xJ))) (dZ))))))))))))))) PassesOwn.never rfl
 exact aM (bI (xJ))
end
theorem all_mk {l : OpenLaw}  {K : Frag}    (X : K.In h) (G : h.Ns mainGlobals mg) (hfa : mg "law" = some (.ref fa))
          {f8:Addr} {od8 an8:Option Addr} {sl8:Array (Option Value)} {oc8 kV8 dc8 pm8 cd8 ct8:Value} {f9:Addr} {od9 an9:Option Addr} {sl9:Array (Option Value)} {oc9 kV9 dc9 pm9 cd9 ct9:Value} {f15:Addr} {od15 an15:Option Addr} {sl15:Array (Option Value)} {oc15 kV15 dc15 pm15 cd15 ct15:Value} {f21:Addr} {od21 an21:Option Addr} {sl21:Array (Option Value)} {oc21 kV21 dc21 pm21 cd21 ct21:Value} {f22:Addr} {od22 an22:Option Addr} {sl22:Array (Option Value)} {oc22 kV22 dc22 pm22 cd22 ct22:Value} {f23:Addr} {od23 an23:Option Addr} {sl23:Array (Option Value)} {oc23 kV23 dc23 pm23 cd23 ct23:Value} {f24:Addr} {od24 an24:Option Addr} {sl24:Array (Option Value)} {oc24 kV24 dc24 pm24 cd24 ct24:Value} {f25:Addr} {od25 an25:Option Addr} {sl25:Array (Option Value)} {oc25 kV25 dc25 pm25 cd25 ct25:Value} {f42:Addr} {od42 an42:Option Addr} {sl42:Array (Option Value)} {oc42 kV42 dc42 pm42 cd42 ct42:Value} {f45:Addr} {od45 an45:Option Addr} {sl45:Array (Option Value)} {oc45 kV45 dc45 pm45 cd45 ct45:Value} {f47:Addr} {od47 an47:Option Addr} {sl47:Array (Option Value)} {oc47 kV47 dc47 pm47 cd47 ct47:Value} {f48:Addr} {od48 an48:Option Addr} {sl48:Array (Option Value)} {oc48 kV48 dc48 pm48 cd48 ct48:Value} {f50:Addr} {od50 an50:Option Addr} {sl50:Array (Option Value)} {oc50 kV50 dc50 pm50 cd50 ct50:Value} {f51:Addr} {od51 an51:Option Addr} {sl51:Array (Option Value)} {oc51 kV51 dc51 pm51 cd51 ct51:Value} {f56:Addr} {od56 an56:Option Addr} {sl56:Array (Option Value)} {oc56 kV56 dc56 pm56 cd56 ct56:Value} {f57:Addr} {od57 an57:Option Addr} {sl57:Array (Option Value)} {oc57 kV57 dc57 pm57 cd57 ct57:Value} {f58:Addr} {od58 an58:Option Addr} {sl58:Array (Option Value)} {oc58 kV58 dc58 pm58 cd58 ct58:Value} {f69:Addr} {od69 an69:Option Addr} {sl69:Array (Option Value)} {oc69 kV69 dc69 pm69 cd69 ct69:Value} {T69:Addr} {toc69:Value} {tod69:Option Addr} {tsl69:Array (Option Value)} {tn69:Nat} {tk69_0:Tok} {f70:Addr} {od70 an70:Option Addr} {sl70:Array (Option Value)} {oc70 kV70 dc70 pm70 cd70 ct70:Value} {T70:Addr} {toc70:Value} {tod70:Option Addr} {tsl70:Array (Option Value)} {tn70:Nat} {tk70_0:Tok} {f72:Addr} {od72 an72:Option Addr} {sl72:Array (Option Value)} {oc72 kV72 dc72 pm72 cd72 ct72:Value}       {God_BASES:Option Addr} {Gsl_BASES:Array (Option Value)} {Gn_BASES:Nat} {Gk0_BASES:Tok} {Gk1_BASES:Tok}
  (x_Again:nsIn K mainGlobals (Str.ofString "Again")=some (some (.ref A_Again)))
  (x1_Again:plainGet K A_Again Str.empty=true)
  (x2_Again:hasDictIn K A_Again=true)
  (x3_Again:plainOver K A_Again=true)
  (x4_Again:findIn K (.ref A_Again) "__setattr__" = some (some (.builtin "object.__setattr__")))
  (x5_Again:makesIn K A_Again=true)
  (x6_Again:keepIn K (.ref A_Again)=true)
  (x7_Again:findIn K (.ref A_Again) "__init__" = some (some (.builtin "object.__init__")))
  (x_EarlyNo:nsIn K mainGlobals (Str.ofString "EarlyNo")=some (some (.ref A_EarlyNo)))
  (x1_EarlyNo:plainGet K A_EarlyNo Str.empty=true)
  (x2_EarlyNo:hasDictIn K A_EarlyNo=true)
  (x3_EarlyNo:plainOver K A_EarlyNo=true)
  (x4_EarlyNo:findIn K (.ref A_EarlyNo) "__setattr__" = some (some (.builtin "object.__setattr__")))
  (x5_EarlyNo:makesIn K A_EarlyNo=true)
  (x6_EarlyNo:keepIn K (.ref A_EarlyNo)=true)
  (x7_EarlyNo:findIn K (.ref A_EarlyNo) "__init__" = some (some (.builtin "object.__init__")))
  (x_EarlyYes:nsIn K mainGlobals (Str.ofString "EarlyYes")=some (some (.ref A_EarlyYes)))
  (x1_EarlyYes:plainGet K A_EarlyYes Str.empty=true)
  (x2_EarlyYes:hasDictIn K A_EarlyYes=true)
  (x3_EarlyYes:plainOver K A_EarlyYes=true)
  (x4_EarlyYes:findIn K (.ref A_EarlyYes) "__setattr__" = some (some (.builtin "object.__setattr__")))
  (x5_EarlyYes:makesIn K A_EarlyYes=true)
  (x6_EarlyYes:keepIn K (.ref A_EarlyYes)=true)
  (x7_EarlyYes:findIn K (.ref A_EarlyYes) "__init__" = some (some (.builtin "object.__init__")))
  (x_Lasting:nsIn K mainGlobals (Str.ofString "Lasting")=some (some (.ref A_Lasting)))
  (x1_Lasting:plainGet K A_Lasting Str.empty=true)
  (x2_Lasting:hasDictIn K A_Lasting=true)
  (x3_Lasting:plainOver K A_Lasting=true)
  (x4_Lasting:findIn K (.ref A_Lasting) "__setattr__" = some (some (.builtin "object.__setattr__")))
  (x5_Lasting:makesIn K A_Lasting=true)
  (x6_Lasting:keepIn K (.ref A_Lasting)=true)
  (x7_Lasting:findIn K (.ref A_Lasting) "__init__" = some (some (.builtin "object.__init__")))
  (x_Machine:nsIn K mainGlobals (Str.ofString "Machine")=some (some (.ref A_Machine)))
  (x1_Machine:plainGet K A_Machine Str.empty=true)
  (x2_Machine:hasDictIn K A_Machine=true)
  (x3_Machine:plainOver K A_Machine=true)
  (x4_Machine:findIn K (.ref A_Machine) "__setattr__" = some (some (.builtin "object.__setattr__")))
  (x8_Machine:kitOne K (.ref A_Machine) (.ref A_Machine)=some true)
  (x9_Machine:findIn K (.ref A_Machine) "__class__" = some (some (.builtin "object.__class__")))
  (xo_Machine:mroIn K A_Machine (.type "object")=some true)
  (x5_Machine:makesIn K A_Machine=true)
  (x6_Machine:keepIn K (.ref A_Machine)=true)
  (x_Settled:nsIn K mainGlobals (Str.ofString "Settled")=some (some (.ref A_Settled)))
  (x1_Settled:plainGet K A_Settled Str.empty=true)
  (x2_Settled:hasDictIn K A_Settled=true)
  (x3_Settled:plainOver K A_Settled=true)
  (x4_Settled:findIn K (.ref A_Settled) "__setattr__" = some (some (.builtin "object.__setattr__")))
  (x5_Settled:makesIn K A_Settled=true)
  (x6_Settled:keepIn K (.ref A_Settled)=true)
  (x7_Settled:findIn K (.ref A_Settled) "__init__" = some (some (.builtin "object.__init__")))
  (w_Machine_letters:findIn K (.ref A_Machine) (Str.ofString "letters")=some none)
  (w_Machine_many:findIn K (.ref A_Machine) (Str.ofString "many")=some none)
  (w_Machine_ranks:findIn K (.ref A_Machine) (Str.ofString "ranks")=some none)
  (w_Machine_steps:findIn K (.ref A_Machine) (Str.ofString "steps")=some none)
  (y3:specialIn K (.builtin "object.__class__") "__get__" = some (some (.builtin "getset_descriptor.__get__")))
  (y4:takesIn K (.builtin "object.__class__")=some true)
  (D1:DA K "_law_cell" aBm)
  (D2:DA K "_law_pick" aBn)
  (D3:DA K "_law_digits" wK)
  (D4:DA K "is_whole" aDz)
  (D5:DA K "check_base" zA)
  (D6:DA K "is_below" aE0)
  (D7:DA K "check_fraction" qF)
  (a8:nsIn K mainGlobals "room_from_on" = some (some (.ref f8)))
  (l8:K.lookup f8=some ⟨oc8,od8,.func (fnOf "room_from_on" "room_from_on" (cP iQ) (cA iQ) (aF iQ) .none kV8 dc8 pm8 an8 cd8 ct8),sl8⟩)
  (c8:codeIn K cd8 "room_from_on" = true)
  (k8:keepIn K (.ref f8)=true)
  (a9:nsIn K mainGlobals "room_up_to" = some (some (.ref f9)))
  (l9:K.lookup f9=some ⟨oc9,od9,.func (fnOf "room_up_to" "room_up_to" (cP lK) (cA lK) (aF lK) .none kV9 dc9 pm9 an9 cd9 ct9),sl9⟩)
  (c9:codeIn K cd9 "room_up_to" = true)
  (k9:keepIn K (.ref f9)=true)
  (D10:DA K "ways_from" aBo)
  (D11:DA K "is_filled_list" qG)
  (D12:DA K "is_row" aK0)
  (D13:DA K "are_steps" aBp)
  (D14:DA K "are_ranks" aBq)
  (a15:findIn K (.ref A_Machine) (Str.ofString "__init__")=some (some (.ref f15)))
  (e15:isFn K (.ref f15)=true)
  (l15:K.lookup f15=some ⟨oc15,od15,.func (fnOf "__init__" "Machine.__init__" (cP eU) (cA eU) (aF eU) .none kV15 dc15 pm15 an15 cd15 ct15),sl15⟩)
  (c15:codeIn K cd15 "Machine.__init__" = true)
  (k15:keepIn K (.ref f15)=true)
  (D16:DA K "machine_of" zB)
  (D17:DA K "up_to" aNp)
  (D18:DA K "from_on" aGf)
  (D19:DA K "_law_share" zE)
  (D20:DA K "all_kinds" aBr)
  (a21:findIn K (.ref A_EarlyNo) (Str.ofString "word")=some (some (.ref f21)))
  (e21:isFn K (.ref f21)=true)
  (l21:K.lookup f21=some ⟨oc21,od21,.func (fnOf "word" "EarlyNo.word" (cP iR) (cA iR) (aF iR) .none kV21 dc21 pm21 an21 cd21 ct21),sl21⟩)
  (c21:codeIn K cd21 "EarlyNo.word" = true)
  (k21:keepIn K (.ref f21)=true)
  (a22:findIn K (.ref A_EarlyYes) (Str.ofString "word")=some (some (.ref f22)))
  (e22:isFn K (.ref f22)=true)
  (l22:K.lookup f22=some ⟨oc22,od22,.func (fnOf "word" "EarlyYes.word" (cP gP) (cA gP) (aF gP) .none kV22 dc22 pm22 an22 cd22 ct22),sl22⟩)
  (c22:codeIn K cd22 "EarlyYes.word" = true)
  (k22:keepIn K (.ref f22)=true)
  (a23:findIn K (.ref A_Settled) (Str.ofString "word")=some (some (.ref f23)))
  (e23:isFn K (.ref f23)=true)
  (l23:K.lookup f23=some ⟨oc23,od23,.func (fnOf "word" "Settled.word" (cP iT) (cA iT) (aF iT) .none kV23 dc23 pm23 an23 cd23 ct23),sl23⟩)
  (c23:codeIn K cd23 "Settled.word" = true)
  (k23:keepIn K (.ref f23)=true)
  (a24:findIn K (.ref A_Again) (Str.ofString "word")=some (some (.ref f24)))
  (e24:isFn K (.ref f24)=true)
  (l24:K.lookup f24=some ⟨oc24,od24,.func (fnOf "word" "Again.word" (cP lM) (cA lM) (aF lM) .none kV24 dc24 pm24 an24 cd24 ct24),sl24⟩)
  (c24:codeIn K cd24 "Again.word" = true)
  (k24:keepIn K (.ref f24)=true)
  (a25:findIn K (.ref A_Lasting) (Str.ofString "word")=some (some (.ref f25)))
  (e25:isFn K (.ref f25)=true)
  (l25:K.lookup f25=some ⟨oc25,od25,.func (fnOf "word" "Lasting.word" (cP iU) (cA iU) (aF iU) .none kV25 dc25 pm25 an25 cd25 ct25),sl25⟩)
  (c25:codeIn K cd25 "Lasting.word" = true)
  (k25:keepIn K (.ref f25)=true)
  (D26:DA K "has_room" aE1)
  (D27:DA K "rooms_of" aE2)
  (D28:DA K "bits_of" aGg)
  (D29:DA K "seen_among" zF)
  (D30:DA K "all_rooms" aBs)
  (D31:DA K "seen_from" aBt)
  (D32:DA K "ranks_of_sort" sV)
  (D33:DA K "goes_round" zG)
  (D34:DA K "parts_among" wL)
  (D35:DA K "loop_parts" zH)
  (D36:DA K "top_rank" aE3)
  (D37:DA K "parts_topped" uR)
  (D38:DA K "loops_of_sort" sW)
  (D39:DA K "rooms_reached" sX)
  (D40:DA K "is_loop" aGh)
  (D41:DA K "way_in" aK1)
  (a42:findIn K (.ref A_Machine) (Str.ofString "rooms_along")=some (some (.ref f42)))
  (e42:isFn K (.ref f42)=true)
  (l42:K.lookup f42=some ⟨oc42,od42,.func (fnOf "rooms_along" "Machine.rooms_along" (cP dJ) (cA dJ) (aF dJ) .none kV42 dc42 pm42 an42 cd42 ct42),sl42⟩)
  (c42:codeIn K cd42 "Machine.rooms_along" = true)
  (k42:keepIn K (.ref f42)=true)
  (D43:DA K "round_in" aE4)
  (D44:DA K "nest_of" aGi)
  (a45:findIn K (.ref A_Machine) (Str.ofString "check_room")=some (some (.ref f45)))
  (e45:isFn K (.ref f45)=true)
  (l45:K.lookup f45=some ⟨oc45,od45,.func (fnOf "check_room" "Machine.check_room" (cP dU) (cA dU) (aF dU) .none kV45 dc45 pm45 an45 cd45 ct45),sl45⟩)
  (c45:codeIn K cd45 "Machine.check_room" = true)
  (k45:keepIn K (.ref f45)=true)
  (D46:DA K "is_word" aGj)
  (a47:findIn K (.ref A_Machine) (Str.ofString "check_word")=some (some (.ref f47)))
  (e47:isFn K (.ref f47)=true)
  (l47:K.lookup f47=some ⟨oc47,od47,.func (fnOf "check_word" "Machine.check_word" (cP dW) (cA dW) (aF dW) .none kV47 dc47 pm47 an47 cd47 ct47),sl47⟩)
  (c47:codeIn K cd47 "Machine.check_word" = true)
  (k47:keepIn K (.ref f47)=true)
  (a48:findIn K (.ref A_Machine) (Str.ofString "after")=some (some (.ref f48)))
  (e48:isFn K (.ref f48)=true)
  (l48:K.lookup f48=some ⟨oc48,od48,.func (fnOf "after" "Machine.after" (cP gQ) (cA gQ) (aF gQ) .none kV48 dc48 pm48 an48 cd48 ct48),sl48⟩)
  (c48:codeIn K cd48 "Machine.after" = true)
  (k48:keepIn K (.ref f48)=true)
  (D49:DA K "bar_behind" zJ)
  (a50:findIn K (.ref A_EarlyNo) (Str.ofString "bar")=some (some (.ref f50)))
  (e50:isFn K (.ref f50)=true)
  (l50:K.lookup f50=some ⟨oc50,od50,.func (fnOf "bar" "EarlyNo.bar" (cP jP) (cA jP) (aF jP) .none kV50 dc50 pm50 an50 cd50 ct50),sl50⟩)
  (c50:codeIn K cd50 "EarlyNo.bar" = true)
  (k50:keepIn K (.ref f50)=true)
  (a51:findIn K (.ref A_EarlyYes) (Str.ofString "bar")=some (some (.ref f51)))
  (e51:isFn K (.ref f51)=true)
  (l51:K.lookup f51=some ⟨oc51,od51,.func (fnOf "bar" "EarlyYes.bar" (cP iV) (cA iV) (aF iV) .none kV51 dc51 pm51 an51 cd51 ct51),sl51⟩)
  (c51:codeIn K cd51 "EarlyYes.bar" = true)
  (k51:keepIn K (.ref f51)=true)
  (D52:DA K "without_top" wM)
  (D53:DA K "is_good" aGk)
  (D54:DA K "inner_loops" wN)
  (D55:DA K "bar_within" zK)
  (a56:findIn K (.ref A_Settled) (Str.ofString "bar")=some (some (.ref f56)))
  (e56:isFn K (.ref f56)=true)
  (l56:K.lookup f56=some ⟨oc56,od56,.func (fnOf "bar" "Settled.bar" (cP jQ) (cA jQ) (aF jQ) .none kV56 dc56 pm56 an56 cd56 ct56),sl56⟩)
  (c56:codeIn K cd56 "Settled.bar" = true)
  (k56:keepIn K (.ref f56)=true)
  (a57:findIn K (.ref A_Again) (Str.ofString "bar")=some (some (.ref f57)))
  (e57:isFn K (.ref f57)=true)
  (l57:K.lookup f57=some ⟨oc57,od57,.func (fnOf "bar" "Again.bar" (cP nR) (cA nR) (aF nR) .none kV57 dc57 pm57 an57 cd57 ct57),sl57⟩)
  (c57:codeIn K cd57 "Again.bar" = true)
  (k57:keepIn K (.ref f57)=true)
  (a58:findIn K (.ref A_Lasting) (Str.ofString "bar")=some (some (.ref f58)))
  (e58:isFn K (.ref f58)=true)
  (l58:K.lookup f58=some ⟨oc58,od58,.func (fnOf "bar" "Lasting.bar" (cP jR) (cA jR) (aF jR) .none kV58 dc58 pm58 an58 cd58 ct58),sl58⟩)
  (c58:codeIn K cd58 "Lasting.bar" = true)
  (k58:keepIn K (.ref f58)=true)
  (D59:DA K "kinds_of" aE5)
  (D60:DA K "_law_machines" sY)
  (D61:DA K "writing_of" zL)
  (D62:DA K "writings_of" wO)
  (D63:DA K "_law_text" aBu)
  (D64:DA K "_law_words" zM)
  (D65:DA K "_law_power" zN)
  (D66:DA K "_law_number" wQ)
  (D67:DA K "_law_worth" zO)
  (D68:DA K "is_endless" zP)
  (a69:findIn K (.ref A_Machine) (Str.ofString "walk")=some (some (.ref f69)))
  (e69:isFn K (.ref f69)=true)
  (l69:K.lookup f69=some ⟨oc69,od69,.func (fnOf "walk" "Machine.walk" (cP iW) (cA iW) (aF iW) (.ref T69) kV69 dc69 pm69 an69 cd69 ct69),sl69⟩)
  (t69:K.lookup T69=some ⟨toc69,tod69,.seq #[.int 0 tk69_0] tn69,tsl69⟩)
  (c69:codeIn K cd69 "Machine.walk" = true)
  (k69:keepIn K (.ref f69)=true)
  (a70:findIn K (.ref A_Machine) (Str.ofString "lets")=some (some (.ref f70)))
  (e70:isFn K (.ref f70)=true)
  (l70:K.lookup f70=some ⟨oc70,od70,.func (fnOf "lets" "Machine.lets" (cP iY) (cA iY) (aF iY) (.ref T70) kV70 dc70 pm70 an70 cd70 ct70),sl70⟩)
  (t70:K.lookup T70=some ⟨toc70,tod70,.seq #[.int 0 tk70_0] tn70,tsl70⟩)
  (c70:codeIn K cd70 "Machine.lets" = true)
  (k70:keepIn K (.ref f70)=true)
  (D71:DA K "_law_compared" sZ)
  (a72:nsIn K mainGlobals "law" = some (some (.ref f72)))
  (l72:K.lookup f72=some ⟨oc72,od72,.func (fnOf "law" "law" (cP aFi) (cA aFi) (aF aFi) .none kV72 dc72 pm72 an72 cd72 ct72),sl72⟩)
  (c72:codeIn K cd72 "law" = true)
  (k72:keepIn K (.ref f72)=true)
  (v_LETTERS:nsIn K mainGlobals "LETTERS" = some (some (.str "abc" t_LETTERS)))
  (v_MOST_BOTTOM:nsIn K mainGlobals "MOST_BOTTOM" = some (some (.int 6 t_MOST_BOTTOM)))
  (v_MOST_LETTERS:nsIn K mainGlobals "MOST_LETTERS" = some (some (.int 3 t_MOST_LETTERS)))
  (v_MOST_ROOMS:nsIn K mainGlobals "MOST_ROOMS" = some (some (.int 8 t_MOST_ROOMS)))
  (v_OUT:nsIn K mainGlobals "OUT" = some (some (.int 7 t_OUT)))
  (v_BASES:nsIn K mainGlobals "BASES" = some (some (.ref T_BASES)))
  (u_BASES:K.lookup T_BASES=some ⟨.type "tuple", God_BASES,.seq #[.int 2 Gk0_BASES,.int 3 Gk1_BASES] Gn_BASES,Gsl_BASES⟩)
  (z_all:nsIn K mainGlobals "all" = some none)
  (z_bool:nsIn K mainGlobals "bool" = some none)
  (z_int:nsIn K mainGlobals "int" = some none)
  (z_isinstance:nsIn K mainGlobals "isinstance" = some none)
  (z_len:nsIn K mainGlobals "len" = some none)
  (z_list:nsIn K mainGlobals "list" = some none)
  (z_max:nsIn K mainGlobals "max" = some none)
  (z_min:nsIn K mainGlobals "min" = some none)
  (z_range:nsIn K mainGlobals "range" = some none)
  (z_set:nsIn K mainGlobals "set" = some none)
  (z_sorted:nsIn K mainGlobals "sorted" = some none)
  (z_str:nsIn K mainGlobals "str" = some none)
  (z_tuple:nsIn K mainGlobals "tuple" = some none)
  (z_zip:nsIn K mainGlobals "zip" = some none) :
  ∃ fd:FuncData,(∀ (s:Shared) (v:Value),BindsTo s fd ⟨[v],[]⟩ [("_law_script", v)])/\∀ base:Heap,K.In base->base.Ns mainGlobals mg->FnOk l.prog w K mg base CX0 13 fa fd ["_law_script"] (spI K 1 aLd):=by
 have e:=hfa.symm.trans (mg_of X G a72)
 cases e
 have c_Again:ClsAt K "Again" A_Again:=⟨x_Again,x1_Again,x2_Again,x3_Again,x4_Again⟩
 have c_EarlyNo:ClsAt K "EarlyNo" A_EarlyNo:=⟨x_EarlyNo,x1_EarlyNo,x2_EarlyNo,x3_EarlyNo,x4_EarlyNo⟩
 have c_EarlyYes:ClsAt K "EarlyYes" A_EarlyYes:=⟨x_EarlyYes,x1_EarlyYes,x2_EarlyYes,x3_EarlyYes,x4_EarlyYes⟩
 have c_Lasting:ClsAt K "Lasting" A_Lasting:=⟨x_Lasting,x1_Lasting,x2_Lasting,x3_Lasting,x4_Lasting⟩
 have c_Machine:ClsAt K "Machine" A_Machine:=⟨x_Machine,x1_Machine,x2_Machine,x3_Machine,x4_Machine⟩
 have c_Settled:ClsAt K "Settled" A_Settled:=⟨x_Settled,x1_Settled,x2_Settled,x3_Settled,x4_Settled⟩
 have aFv:=mg_of X G x_Again
 have aIc:Mk0 K A_Again:=⟨x5_Again,x7_Again,x6_Again⟩
 have zQ:=mg_of X G x_EarlyNo
 have aCo:Mk0 K A_EarlyNo:=⟨x5_EarlyNo,x7_EarlyNo,x6_EarlyNo⟩
 have vM:=mg_of X G x_EarlyYes
 have zU:Mk0 K A_EarlyYes:=⟨x5_EarlyYes,x7_EarlyYes,x6_EarlyYes⟩
 have zR:=mg_of X G x_Lasting
 have aCm:Mk0 K A_Lasting:=⟨x5_Lasting,x7_Lasting,x6_Lasting⟩
 have zW:=mg_of X G x_Machine
 have zX:IsC K A_Machine:=⟨x8_Machine,x9_Machine,y3,y4,xo_Machine⟩
 have zT:=mg_of X G x_Settled
 have aCn:Mk0 K A_Settled:=⟨x5_Settled,x7_Settled,x6_Settled⟩
 have bN:lV K A_Machine (Str.ofString "letters"):=w_Machine_letters
 have bO:lV K A_Machine (Str.ofString "many"):=w_Machine_many
 have aY:lV K A_Machine (Str.ofString "ranks"):=w_Machine_ranks
 have aV:lV K A_Machine (Str.ofString "steps"):=w_Machine_steps
 have F8:=fH (st:=iQ) l8 c8 k8
 have b8:=F8.binds0 (ps:=["rest", "bottom"]) fun _ _ _ _ _ _=>cH (fun _ _=>rfl)
 have F9:=fH (st:=lK) l9 c9 k9
 have b9:=F9.binds0 (ps:=["rest", "bottom"]) fun _ _ _ _ _ _=>cH (fun _ _=>rfl)
 have F15:=bEj (st:=eU) l15 c15 k15
 have b15:=F15.binds (ps:=["self", "steps", "ranks"]) fun _ _ _ _ _ _=>iH (fun _ _ _=>rfl)
 have F21:=fH (st:=iR) l21 c21 k21
 have b21:=F21.binds0 (ps:=["self"]) fun _ _ _ _ _ _=>jF (fun _=>rfl)
 have F22:=fH (st:=gP) l22 c22 k22
 have b22:=F22.binds0 (ps:=["self"]) fun _ _ _ _ _ _=>jF (fun _=>rfl)
 have F23:=fH (st:=iT) l23 c23 k23
 have b23:=F23.binds0 (ps:=["self"]) fun _ _ _ _ _ _=>jF (fun _=>rfl)
 have F24:=fH (st:=lM) l24 c24 k24
 have b24:=F24.binds0 (ps:=["self"]) fun _ _ _ _ _ _=>jF (fun _=>rfl)
 have F25:=fH (st:=iU) l25 c25 k25
 have b25:=F25.binds0 (ps:=["self"]) fun _ _ _ _ _ _=>jF (fun _=>rfl)
 have F42:=fH (st:=dJ) l42 c42 k42
 have b42:=F42.binds0 (ps:=["self", "room", "text"]) fun _ _ _ _ _ _=>iH (fun _ _ _=>rfl)
 have F45:=fH (st:=dU) l45 c45 k45
 have b45:=F45.binds0 (ps:=["self", "thing"]) fun _ _ _ _ _ _=>cH (fun _ _=>rfl)
 have F47:=fH (st:=dW) l47 c47 k47
 have b47:=F47.binds0 (ps:=["self", "thing"]) fun _ _ _ _ _ _=>cH (fun _ _=>rfl)
 have F48:=fH (st:=gQ) l48 c48 k48
 have b48:=F48.binds0 (ps:=["self", "room", "text"]) fun _ _ _ _ _ _=>iH (fun _ _ _=>rfl)
 have F50:=fH (st:=jP) l50 c50 k50
 have b50:=F50.binds0 (ps:=["self", "machine"]) fun _ _ _ _ _ _=>cH (fun _ _=>rfl)
 have F51:=fH (st:=iV) l51 c51 k51
 have b51:=F51.binds0 (ps:=["self", "machine"]) fun _ _ _ _ _ _=>cH (fun _ _=>rfl)
 have F56:=fH (st:=jQ) l56 c56 k56
 have b56:=F56.binds0 (ps:=["self", "machine"]) fun _ _ _ _ _ _=>cH (fun _ _=>rfl)
 have F57:=fH (st:=nR) l57 c57 k57
 have b57:=F57.binds0 (ps:=["self", "machine"]) fun _ _ _ _ _ _=>cH (fun _ _=>rfl)
 have F58:=fH (st:=jR) l58 c58 k58
 have b58:=F58.binds0 (ps:=["self", "machine"]) fun _ _ _ _ _ _=>cH (fun _ _=>rfl)
 have F69:=fH (st:=iW) l69 c69 k69
 have b69_0:Binds K _ ["self", "word", "room"] []:=F69.binds (m:=3) t69 rfl rfl fun _ _ _ _ _ _=>iH (fun _ _ _=>⟨_,rfl,rfl⟩)
 have F70:=fH (st:=iY) l70 c70 k70
 have b70_1:Binds K _ ["self", "word", "room"] [.int 0 tk70_0]:=F70.binds (m:=2) t70 rfl rfl fun _ _ _ _ _ _=>cH (fun _ _=>⟨_,rfl,rfl⟩)
 have F72:=fH (st:=aFi) l72 c72 k72
 have b72:=F72.binds0 (ps:=["_law_script"]) fun _ _ _ _ _ _=>jF (fun _=>rfl)
 have aC4:=mg_none_of X G z_all
 have aNq:=mg_none_of X G z_bool
 have aTz:=mg_none_of X G z_int
 have bV:=mg_none_of X G z_isinstance
 have dB:=mg_none_of X G z_len
 have gK:=mg_none_of X G z_list
 have xY:=mg_none_of X G z_max
 have aK9:=mg_none_of X G z_min
 have dI:=mg_none_of X G z_range
 have aU1:=mg_none_of X G z_set
 have aFw:=mg_none_of X G z_sorted
 have aU2:=mg_none_of X G z_str
 have aIe:=mg_none_of X G z_tuple
 have aU0:=mg_none_of X G z_zip
 have g_LETTERS:=mg_of X G v_LETTERS
 have g_MOST_BOTTOM:=mg_of X G v_MOST_BOTTOM
 have g_MOST_LETTERS:=mg_of X G v_MOST_LETTERS
 have g_MOST_ROOMS:=mg_of X G v_MOST_ROOMS
 have g_OUT:=mg_of X G v_OUT
 have gt_BASES:bCe K T_BASES [2,3]:=⟨_,_,_,u_BASES,rfl,rfl,(show 2<=sizeLine by decide),.cons ⟨_,rfl⟩ (.cons ⟨_,rfl⟩ (.nil))⟩
 have aFt:=mg_of X G v_BASES
 have fv_room_from_on:=a8
 have mU:=mg_of X G a8
 have fv_room_up_to:=a9
 have qT:=mg_of X G a9
 refine ⟨fnOf "law" "law" (cP aFi) (cA aFi) (aF aFi) .none kV72 dc72 pm72 an72 cd72 ct72,fun s v => .of_eq rfl,fun base _ _=>?_⟩
 have C:Ct l.prog w K mg base h:=⟨X,G⟩
 have lE:=D1.ok C (aQf dB) fun _ _ _ _ _ _=>cH (fun _ _=>rfl)
 have dC:=D2.ok C (aQg) fun _ _ _ _ _ _=>iH (fun _ _ _=>rfl)
 have fU:=D3.ok C (aKm) fun _ _ _ _ _ _=>cH (fun _ _=>rfl)
 have iD:=D4.ok C (aRs bV aTz aNq) fun _ _ _ _ _ _=>jF (fun _=>rfl)
 have tQ:=D5.ok C (aNr iD gt_BASES aFt) fun _ _ _ _ _ _=>jF (fun _=>rfl)
 have gD:=D6.ok C (aRt iD) fun _ _ _ _ _ _=>cH (fun _ _=>rfl)
 have eV:=D7.ok C (aGl tQ gD g_MOST_BOTTOM) fun _ _ _ _ _ _=>iH (fun _ _ _=>rfl)
 have f_room_from_on:=aK8 (P:=l.prog) (w:=w) (mg:=mg) (base:=base) xY g_OUT F8
 have pA:=DefOk.of f_room_from_on (mg_of X G a8) F8.kp b8 xK
 have f_room_up_to:=aNs (P:=l.prog) (w:=w) (mg:=mg) (base:=base) g_OUT aK9 F9
 have tR:=DefOk.of f_room_up_to (mg_of X G a9) F9.kp b9 xK
 have fQ:=D10.ok C (aQh dB aU0 g_LETTERS) fun _ _ _ _ _ _=>iH (fun _ _ _=>rfl)
 have iZ:=D11.ok C (aGm dB bV gK) fun _ _ _ _ _ _=>cH (fun _ _=>rfl)
 have aFu:=D12.ok C (aZg dB gD aC4) fun _ _ _ _ _ _=>iH (fun _ _ _=>rfl)
 have vK:=D13.ok C (aQi dB aC4 iZ aFu g_MOST_ROOMS g_MOST_LETTERS) fun _ _ _ _ _ _=>jF (fun _=>rfl)
 have vL:=D14.ok C (aQj dB bV iD gK aC4) fun _ _ _ _ _ _=>cH (fun _ _=>rfl)
 have f_Machine___init__:=aE6 (P:=l.prog) (w:=w) (mg:=mg) (base:=base) dB gK vK vL c_Machine aV aY bO bN F15
 have aCl:=MakeOk.of c_Machine ⟨x5_Machine,a15,e15,x6_Machine⟩ f_Machine___init__ b15 (mg_of X G x_Machine)
 have jG:=D16.ok C (aNt g_OUT gK eV pA tR fQ aCl dI) fun _ _ _ _ _ _=>aCj (fun _ _ _ _=>rfl)
 have aIf:=D17.ok C (bCh jG fv_room_up_to qT) fun _ _ _ _ _ _=>iH (fun _ _ _=>rfl)
 have aCq:=D18.ok C (aVq jG fv_room_from_on mU) fun _ _ _ _ _ _=>iH (fun _ _ _=>rfl)
 have tV:=D19.ok C (aNu) fun _ _ _ _ _ _=>cH (fun _ _=>rfl)
 have vO:=D20.ok C (aQk c_Again c_EarlyNo c_EarlyYes c_Lasting c_Settled aFv zQ vM zR zT aCm aIc aCn zU aCo) fun _ _ _ _ _ _=>aTq rfl
 have f_EarlyNo_word:=aKa (P:=l.prog) (w:=w) (mg:=mg) (base:=base) F21
 have lN:MethOk l.prog w K mg base "EarlyNo" "word" 1 1 [] jZ:=MethOk.of (dvs:=[]) c_EarlyNo ⟨a21,e21,k21⟩ f_EarlyNo_word b21 (.nil) fun _ => .nil
 have f_EarlyYes_word:=aHn (P:=l.prog) (w:=w) (mg:=mg) (base:=base) F22
 have jU:MethOk l.prog w K mg base "EarlyYes" "word" 1 1 [] jK:=MethOk.of (dvs:=[]) c_EarlyYes ⟨a22,e22,k22⟩ f_EarlyYes_word b22 (.nil) fun _ => .nil
 have f_Settled_word:=aKb (P:=l.prog) (w:=w) (mg:=mg) (base:=base) F23
 have lO:MethOk l.prog w K mg base "Settled" "word" 1 1 [] kE:=MethOk.of (dvs:=[]) c_Settled ⟨a23,e23,k23⟩ f_Settled_word b23 (.nil) fun _ => .nil
 have f_Again_word:=aNv (P:=l.prog) (w:=w) (mg:=mg) (base:=base) F24
 have pC:MethOk l.prog w K mg base "Again" "word" 1 1 [] oJ:=MethOk.of (dvs:=[]) c_Again ⟨a24,e24,k24⟩ f_Again_word b24 (.nil) fun _ => .nil
 have f_Lasting_word:=aKc (P:=l.prog) (w:=w) (mg:=mg) (base:=base) F25
 have lQ:MethOk l.prog w K mg base "Lasting" "word" 1 1 [] kI:=MethOk.of (dvs:=[]) c_Lasting ⟨a25,e25,k25⟩ f_Lasting_word b25 (.nil) fun _ => .nil
 have cQ:=D26.ok C (aRu) fun _ _ _ _ _ _=>cH (fun _ _=>rfl)
 have bB:=D27.ok C (aRv dI cQ) fun _ _ _ _ _ _=>jF (fun _=>rfl)
 have eF:=D28.ok C (aVr) fun _ _ _ _ _ _=>jF (fun _=>rfl)
 have jH:=D29.ok C (aNw cQ bB eF) fun _ _ _ _ _ _=>cH (fun _ _=>rfl)
 have vN:=D30.ok C (aQl gK c_Machine bO dI eF) fun _ _ _ _ _ _=>jF (fun _=>rfl)
 have lD:=D31.ok C (aQm c_Machine aV jH vN) fun _ _ _ _ _ _=>cH (fun _ _=>rfl)
 have mV:=D32.ok C (aHo c_Machine aY bB aFw aU1) fun _ _ _ _ _ _=>iH (fun _ _ _=>rfl)
 have tU:=D33.ok C (aNx dB bB) fun _ _ _ _ _ _=>cH (fun _ _=>rfl)
 have qU:=D34.ok C (aKn cQ bB eF jH tU) fun _ _ _ _ _ _=>cH (fun _ _=>rfl)
 have eZ:=D35.ok C (aNy c_Machine aV qU) fun _ _ _ _ _ _=>cH (fun _ _=>rfl)
 have iG:=D36.ok C (aRw xY c_Machine aY bB) fun _ _ _ _ _ _=>cH (fun _ _=>rfl)
 have pB:=D37.okF C (aKd c_Machine aY bB eF eZ iG) fun _ _ _ _ _ _=>iH (fun _ _ _=>rfl)
 have eN:=D38.ok C (aHp mV pB) fun _ _ _ _ _ _=>iH (fun _ _ _=>rfl)
 have mW:=D39.okF C (aHq gK c_Machine aV bO fQ dI) fun _ _ _ _ _ _=>jF (fun _=>rfl)
 have aCp:=D40.ok C (aVs eZ) fun _ _ _ _ _ _=>cH (fun _ _=>rfl)
 have rP:=D41.ok C (aZh c_Machine aV fQ cQ bB) fun _ _ _ _ _ _=>aCj (fun _ _ _ _=>rfl)
 have f_Machine_rooms_along:=aAk (P:=l.prog) (w:=w) (mg:=mg) (base:=base) g_LETTERS c_Machine aV F42
 have bH:MethOkF l.prog w K mg base "Machine" "rooms_along" 1 3 [] bC:=MethOkF.of (dvs:=[]) c_Machine ⟨a42,e42,k42⟩ f_Machine_rooms_along b42 (.nil) fun _ => .nil
 have nH:=D43.ok C (aRx g_LETTERS c_Machine aV cQ bB aCp rP bH) fun _ _ _ _ _ _=>iH (fun _ _ _=>rfl)
 have qH:=D44.ok C (aVt cQ mW nH) fun _ _ _ _ _ _=>cH (fun _ _=>rfl)
 have f_Machine_check_room:=aC5 (P:=l.prog) (w:=w) (mg:=mg) (base:=base) gD c_Machine bO F45
 have cR:MethOk l.prog w K mg base "Machine" "check_room" 3 2 [] cI:=MethOk.of (dvs:=[]) c_Machine ⟨a45,e45,k45⟩ f_Machine_check_room b45 (.nil) fun _ => .nil
 have nU:=D46.ok C (aVu bV g_LETTERS aU2) fun _ _ _ _ _ _=>cH (fun _ _=>rfl)
 have f_Machine_check_word:=aC6 (P:=l.prog) (w:=w) (mg:=mg) (base:=base) c_Machine bN nU F47
 have fO:MethOk l.prog w K mg base "Machine" "check_word" 2 2 [] fB:=MethOk.of (dvs:=[]) c_Machine ⟨a47,e47,k47⟩ f_Machine_check_word b47 (.nil) fun _ => .nil
 have f_Machine_after:=aHr (P:=l.prog) (w:=w) (mg:=mg) (base:=base) bH cR fO F48
 have jT:MethOk l.prog w K mg base "Machine" "after" 4 3 [] jL:=MethOk.of (dvs:=[]) c_Machine ⟨a48,e48,k48⟩ f_Machine_after b48 (.nil) fun _ => .nil
 have jJ:=D49.ok C (aNz bB rP nH lD eN qH jT) fun _ _ _ _ _ _=>cH (fun _ _=>rfl)
 have f_EarlyNo_bar:=aKo (P:=l.prog) (w:=w) (mg:=mg) (base:=base) jJ F50
 have mX:MethOk l.prog w K mg base "EarlyNo" "bar" 10 2 [] mF:=MethOk.of (dvs:=[]) c_EarlyNo ⟨a50,e50,k50⟩ f_EarlyNo_bar b50 (.nil) fun _ => .nil
 have f_EarlyYes_bar:=aKe (P:=l.prog) (w:=w) (mg:=mg) (base:=base) jJ F51
 have lR:MethOk l.prog w K mg base "EarlyYes" "bar" 10 2 [] kW:=MethOk.of (dvs:=[]) c_EarlyYes ⟨a51,e51,k51⟩ f_EarlyYes_bar b51 (.nil) fun _ => .nil
 have qW:=D52.ok C (aKp c_Machine aY bB eF iG) fun _ _ _ _ _ _=>cH (fun _ _=>rfl)
 have xZ:=D53.ok C (aVv iG) fun _ _ _ _ _ _=>cH (fun _ _=>rfl)
 have qX:=D54.ok C (aKq eZ qW xZ) fun _ _ _ _ _ _=>cH (fun _ _=>rfl)
 have eE:=D55.ok C (aO0 lD eN qH qX) fun _ _ _ _ _ _=>cH (fun _ _=>rfl)
 have f_Settled_bar:=aKr (P:=l.prog) (w:=w) (mg:=mg) (base:=base) eE F56
 have mY:MethOk l.prog w K mg base "Settled" "bar" 10 2 [] mG:=MethOk.of (dvs:=[]) c_Settled ⟨a56,e56,k56⟩ f_Settled_bar b56 (.nil) fun _ => .nil
 have f_Again_bar:=aQn (P:=l.prog) (w:=w) (mg:=mg) (base:=base) eE F57
 have qY:MethOk l.prog w K mg base "Again" "bar" 10 2 [] rH:=MethOk.of (dvs:=[]) c_Again ⟨a57,e57,k57⟩ f_Again_bar b57 (.nil) fun _ => .nil
 have f_Lasting_bar:=aKs (P:=l.prog) (w:=w) (mg:=mg) (base:=base) eE F58
 have mZ:MethOk l.prog w K mg base "Lasting" "bar" 10 2 [] mH:=MethOk.of (dvs:=[]) c_Lasting ⟨a58,e58,k58⟩ f_Lasting_bar b58 (.nil) fun _ => .nil
 have zV:=D59.ok C (aRy vO lN jU lO pC lQ mX lR mY qY mZ) fun _ _ _ _ _ _=>jF (fun _=>rfl)
 have nA:=D60.ok C (aHs bV c_Machine bO bN tV zV zW zX) fun _ _ _ _ _ _=>aTr (fun _ _ _ _ _=>rfl)
 have pD:=D61.ok C (aO1 dB g_LETTERS) fun _ _ _ _ _ _=>aCj (fun _ _ _ _=>rfl)
 have qZ:=D62.ok C (aKt eV pD) fun _ _ _ _ _ _=>iH (fun _ _ _=>rfl)
 have rQ:=D63.ok C (aQo dI dC) fun _ _ _ _ _ _=>aCj (fun _ _ _ _=>rfl)
 have tY:=D64.ok C (aO2 dI dC lE rQ fU) fun _ _ _ _ _ _=>aCj (fun _ _ _ _=>rfl)
 have pF:=D65.ok C (aO3 dI) fun _ _ _ _ _ _=>cH (fun _ _=>rfl)
 have mL:=D66.ok C (aKu) fun _ _ _ _ _ _=>cH (fun _ _=>rfl)
 have tX:=D67.ok C (aO4 dB pF mL) fun _ _ _ _ _ _=>cH (fun _ _=>rfl)
 have tW:=D68.ok C (aO5 dB bV nU aIe) fun _ _ _ _ _ _=>cH (fun _ _=>rfl)
 have f_Machine_walk:=aKf (P:=l.prog) (w:=w) (mg:=mg) (base:=base) dB c_Machine bN bH cR tW F69
 have lU:MethOk l.prog w K mg base "Machine" "walk" 4 3 [] kY:=MethOk.of (dvs:=[]) c_Machine ⟨a69,e69,k69⟩ f_Machine_walk b69_0 (.nil) fun _ => .nil
 have f_Machine_lets:=aKg (P:=l.prog) (w:=w) (mg:=mg) (base:=base) xY c_Machine aY lU F70
 have dF:MethOk l.prog w K mg base "Machine" "lets" 5 3 [.int 0] cU:=MethOk.of (dvs:=[.int (0)]) c_Machine ⟨a70,e70,k70⟩ f_Machine_lets b70_1 (.cons ⟨_,rfl⟩ (.nil)) fun _ => .cons (aQ.mpr rfl) (.nil)
 have nC:=D71.ok C (aHt tX dF) fun _ _ _ _ _ _=>bBq (fun _ _ _ _ _ _=>rfl)
 have f_law:=bK7 (P:=l.prog) (w:=w) (mg:=mg) (base:=base) dB xY aK9 dI dC lE fU dF aIf aCq nA qZ tY nC F72
 exact f_law
theorem bCi{q:Program}   {K:Params->Frag} {as:List Addr} {t:Nat} {r:PySem.W.RowW} {d:DefRec} {kwd:List (Str × Expr)} {run:Value->List Value->Sem Value} (e:∀ P,as=(K P).map (·.1)) (h:WalkO q loose XP (InK K) r d kwd run):PySem.W.WalkX q loose XP (PySem.W.X.obsZ as) (PySem.W.X.valZ K n t) r d kwd run :=
 fun w s₀ s₁ mg mb G y a o pm cd doc dV kV h1 h2 h3 h4 h5 h6 args vals as' L h7 h8 h9 h10 h11=>h w s₀ s₁ mg mb G (PySem.W.InK.keeps w _ _ (PySem.W.X.z_facts e y).2.1 L.keeps) a o pm cd doc dV kV h1 h2 h3 h4 h5 h6 args vals as' h7 h8 h9 h10 h11
theorem walk{l:OpenLaw}{q:Program}   {YP:World->Heap->Prop} {d:DefRec} {K:Params->Frag} (hn:l.most=some 63) (hdf:d.params.defaults=[])
  (hY:∀ (w:World) (h:Heap),YP w h->(K w.params).In h)
  (hlaw:∀ ns:List Int,ns.length<=63->aLd [.lst (ns.map D.int)] = .ok (.bl true))
  (F:∀ (w:World) (mg:Str->Option Value) (fa:Addr) (h:Heap),(K w.params).In h->h.Ns mainGlobals mg->mg d.name=some (.ref fa) ->
   ∃ fd:FuncData,(∀ (s:Shared) (u:Value),BindsTo s fd ⟨[u],[]⟩ [("_law_script", u)])/\∀ base:Heap,(K w.params).In base->base.Ns mainGlobals mg->FnOk l.prog w (K w.params) mg base CX0 13 fa fd ["_law_script"] (spI (K w.params) 1 aLd)) :
  WalkO q loose XP YP l.row.toRowW d [] (fun f vs=>PySem.call f vs) :=
 L2.walk_of (n:=63) (k:=13) (x := "_law_script") (CX:=fun _=>CX0) (sp:=fun w=>spI (K w.params) 1 aLd) hn (by decide) hdf ⟨rfl,by decide,by decide⟩ hY F (fun _ _ a ns hl _ hS=>bG4 hS (hlaw ns hl)) fun _ _ _ _ _ z=>z
end Pu
namespace PySem.W.Fast
def tw13059560378007602015:=0
def tw11691668587076673310:=0
def tw9797528116924988714:=0
def tw9480249096805223294:=0
def tw4768869498777843657:=0
def tw4404880232656709391:=0
def tw15033256545938384297:=0
def tw4251490613411755987:=0
def tw10663270056321289011:=0
def tw9425041590633986160:=0
def tw13701660987353220210:=0
def tw18047064783533663135:=0
def tw9602998445031355163:=0
def tw2481015014087550638:=0
def tw11685518152256112997:=0
def tw16172220700274974271:=0
def tw171861919484696352:=0
def tw11951103262322954132:=0
def tw5995864456348519105:=0
def tw17214101750659058078:=0
def tw8933636907652619626:=0
def tw10476971196639019704:=0
def tw13658854479140790408:=0
def tw9812198758928134105:=0
def tw16864386639297154453:=0
def tw17740435763326975132:=0
def tw9471007074855148581:=0
def tw12851377641020658407:=0
def tw10107233691923044082:=0
def tw8773241105604343145:=0
def tw17908763247623400583:=0
def tw17130925402335066275:=0
def tw14515572095424595537:=0
def tw4197120627094730292:=0
def tw12287121789866512876:=0
def tw5141357672538063916:=0
def tw596070202353827100:=0
def tw7539618893489411064:=0
def tw9219854289552646952:=0
def tw11891018932508561567:=0
def tw11355766718808363580:=0
def tw7678562969869331341:=0
def tw3960935246257898906:=0
def tw6692501937636355290:=0
def tw253935990035783544:=0
def tw11884852617592483760:=0
def tw5748989040174110801:=0
def tw10976456810512308418:=0
def tw6697927192671619020:=0
def tw4667096079509511317:=0
def tw8909595298077540476:=0
def tw15608887458176585510:=0
def tw9206549138466991586:=0
def tw5782021941232496033:=0
def tw2012274918504947227:=0
def tw1880480334571849427:=0
def tw4434855057362427204:=0
def tw8293036615072183595:=0
def tw915728488521567282:=0
def tw6775462741986627336:=0
def tw12116959057847899695:=0
def tw17265195739909567175:=0
def tw2053147517952361111:=0
def tw377348933242648339:=0
def tw4107467036419811667:=0
def tw16478662890001221954:=0
def tw17320935411101252850:=0
def tw13470471418741621499:=0
def tw6304151237050063994:=0
def tw6116895254539494355:=0
def tw3633028782580953291:=0
def tw8527539197297905116:=0
def tw4349408793675372451:=0
def tw5121685495915787812:=0
def tw12547022642896619960:=0
def tw4122437194910830620:=0
def tw6580168870338489894:=0
def tw4814381499625080908:=0
def tw5866809859651921686:=0
def tw4012147017501596326:=0
def tw3571788936289403388:=0
def tw17048311930777127003:=0
def tw8504816793139156332:=0
def tw17736923744767803116:=0
def tw18356116758481341622:=0
def tw14545184328239906785:=0
def tw15581264408507317568:=0
def tw8020670850463518699:=0
def tw6600229956984164155:=0
def tw13085292547823176098:=0
def tw4821728661426808323:=0
def tw688897749076980729:=0
def tw5060450193105458344:=0
def tw7339820607388341551:=0
def tw7896634927696573289:=0
def tw5387120314237014697:=0
def tw13058237157218670962:=0
def tw11875704439281568274:=0
def tw920835579884788827:=0
def tw7243702808160828598:=0
def tw5600918722672389812:=0
def tw125544371461356995:=0
def tw1625044722736274148:=0
def tw13624154310366524963:=0
def tw4676218801880778395:=0
def tw9820031640084452383:=0
def tw13611488493020278578:=0
def tw1435246142947225660:=0
def tw8130056774430815020:=0
def tw11459602122121519110:=0
def tw4707663792425617224:=0
def tw12395578016036358594:=0
def tw14249540320613049721:=0
def tw17658389981347315124:=0
def tw8978999997670518388:=0
def tw16168474852132621061:=0
def tw4753213146657352401:=0
def tw3252261380355474671:=0
def tw718074157215290092:=0
def tw12339476234017827903:=0
def tw8467921941261718890:=0
def tw6888209136856082034:=0
def tw157832765991983684:=0
def tw9396147477758468030:=0
def tw14820211183929530974:=0
def tw12197066750867157080:=0
def tw1520988420606023490:=0
def tw9338537840102693229:=0
end PySem.W.Fast
open PySem PySem.W PyProof.Rows
set_option maxRecDepth 100000 in
set_option maxHeartbeats 0 in
theorem PySem.Challenge.cw_looprank_k83_whole_up_to_and_from_on_holds : PySem.Challenge.rw_looprank_k83_whole_up_to_and_from_on.Holds := by
 w_on;o_law;z_head;(case hw=>w_witness2)
 k_fill
 refine Pu.bCi (fun P=>by kernel_rfl) (Pu.walk (l:=PySem.Challenge.rw_looprank_k83_whole_up_to_and_from_on) rfl rfl (fun w h Y=>Y) Pu.law_true ?F)
 case F =>
  intro w mg fa h KX G hmg
  refine' Pu.all_mk KX G hmg ?x_Again ?x1_Again ?x2_Again ?x3_Again ?x4_Again ?x5_Again ?x6_Again ?x7_Again ?x_EarlyNo ?x1_EarlyNo ?x2_EarlyNo ?x3_EarlyNo ?x4_EarlyNo ?x5_EarlyNo ?x6_EarlyNo ?x7_EarlyNo ?x_EarlyYes ?x1_EarlyYes ?x2_EarlyYes ?x3_EarlyYes ?x4_EarlyYes ?x5_EarlyYes ?x6_EarlyYes ?x7_EarlyYes ?x_Lasting ?x1_Lasting ?x2_Lasting ?x3_Lasting ?x4_Lasting ?x5_Lasting ?x6_Lasting ?x7_Lasting ?x_Machine ?x1_Machine ?x2_Machine ?x3_Machine ?x4_Machine ?x8_Machine ?x9_Machine ?xo_Machine ?x5_Machine ?x6_Machine ?x_Settled ?x1_Settled ?x2_Settled ?x3_Settled ?x4_Settled ?x5_Settled ?x6_Settled ?x7_Settled ?w_Machine_letters ?w_Machine_many ?w_Machine_ranks ?w_Machine_steps ?y3 ?y4 (Pu.cT ?a1 ?l1 ?c1 ?k1) (Pu.cT ?a2 ?l2 ?c2 ?k2) (Pu.cT ?a3 ?l3 ?c3 ?k3) (Pu.cT ?a4 ?l4 ?c4 ?k4) (Pu.cT ?a5 ?l5 ?c5 ?k5) (Pu.cT ?a6 ?l6 ?c6 ?k6) (Pu.cT ?a7 ?l7 ?c7 ?k7) ?a8 ?l8 ?c8 ?k8 ?a9 ?l9 ?c9 ?k9 (Pu.cT ?a10 ?l10 ?c10 ?k10) (Pu.cT ?a11 ?l11 ?c11 ?k11) (Pu.cT ?a12 ?l12 ?c12 ?k12) (Pu.cT ?a13 ?l13 ?c13 ?k13) (Pu.cT ?a14 ?l14 ?c14 ?k14) ?a15 ?e15 ?l15 ?c15 ?k15 (Pu.cT ?a16 ?l16 ?c16 ?k16) (Pu.cT ?a17 ?l17 ?c17 ?k17) (Pu.cT ?a18 ?l18 ?c18 ?k18) (Pu.cT ?a19 ?l19 ?c19 ?k19) (Pu.cT ?a20 ?l20 ?c20 ?k20) ?a21 ?e21 ?l21 ?c21 ?k21 ?a22 ?e22 ?l22 ?c22 ?k22 ?a23 ?e23 ?l23 ?c23 ?k23 ?a24 ?e24 ?l24 ?c24 ?k24 ?a25 ?e25 ?l25 ?c25 ?k25 (Pu.cT ?a26 ?l26 ?c26 ?k26) (Pu.cT ?a27 ?l27 ?c27 ?k27) (Pu.cT ?a28 ?l28 ?c28 ?k28) (Pu.cT ?a29 ?l29 ?c29 ?k29) (Pu.cT ?a30 ?l30 ?c30 ?k30) (Pu.cT ?a31 ?l31 ?c31 ?k31) (Pu.cT ?a32 ?l32 ?c32 ?k32) (Pu.cT ?a33 ?l33 ?c33 ?k33) (Pu.cT ?a34 ?l34 ?c34 ?k34) (Pu.cT ?a35 ?l35 ?c35 ?k35) (Pu.cT ?a36 ?l36 ?c36 ?k36) (Pu.cT ?a37 ?l37 ?c37 ?k37) (Pu.cT ?a38 ?l38 ?c38 ?k38) (Pu.cT ?a39 ?l39 ?c39 ?k39) (Pu.cT ?a40 ?l40 ?c40 ?k40) (Pu.cT ?a41 ?l41 ?c41 ?k41) ?a42 ?e42 ?l42 ?c42 ?k42 (Pu.cT ?a43 ?l43 ?c43 ?k43) (Pu.cT ?a44 ?l44 ?c44 ?k44) ?a45 ?e45 ?l45 ?c45 ?k45 (Pu.cT ?a46 ?l46 ?c46 ?k46) ?a47 ?e47 ?l47 ?c47 ?k47 ?a48 ?e48 ?l48 ?c48 ?k48 (Pu.cT ?a49 ?l49 ?c49 ?k49) ?a50 ?e50 ?l50 ?c50 ?k50 ?a51 ?e51 ?l51 ?c51 ?k51 (Pu.cT ?a52 ?l52 ?c52 ?k52) (Pu.cT ?a53 ?l53 ?c53 ?k53) (Pu.cT ?a54 ?l54 ?c54 ?k54) (Pu.cT ?a55 ?l55 ?c55 ?k55) ?a56 ?e56 ?l56 ?c56 ?k56 ?a57 ?e57 ?l57 ?c57 ?k57 ?a58 ?e58 ?l58 ?c58 ?k58 (Pu.cT ?a59 ?l59 ?c59 ?k59) (Pu.cT ?a60 ?l60 ?c60 ?k60) (Pu.cT ?a61 ?l61 ?c61 ?k61) (Pu.cT ?a62 ?l62 ?c62 ?k62) (Pu.cT ?a63 ?l63 ?c63 ?k63) (Pu.cT ?a64 ?l64 ?c64 ?k64) (Pu.cT ?a65 ?l65 ?c65 ?k65) (Pu.cT ?a66 ?l66 ?c66 ?k66) (Pu.cT ?a67 ?l67 ?c67 ?k67) (Pu.cT ?a68 ?l68 ?c68 ?k68) ?a69 ?e69 ?l69 ?t69 ?c69 ?k69 ?a70 ?e70 ?l70 ?t70 ?c70 ?k70 (Pu.cT ?a71 ?l71 ?c71 ?k71) ?a72 ?l72 ?c72 ?k72 ?v_LETTERS ?v_MOST_BOTTOM ?v_MOST_LETTERS ?v_MOST_ROOMS ?v_OUT ?v_BASES ?u_BASES ?z_all ?z_bool ?z_int ?z_isinstance ?z_len ?z_list ?z_max ?z_min ?z_range ?z_set ?z_sorted ?z_str ?z_tuple ?z_zip
  (case x_Again | x1_Again | x2_Again | x3_Again | x4_Again | x5_Again | x6_Again | x7_Again | x_EarlyNo | x1_EarlyNo | x2_EarlyNo | x3_EarlyNo | x4_EarlyNo | x5_EarlyNo | x6_EarlyNo | x7_EarlyNo | x_EarlyYes | x1_EarlyYes | x2_EarlyYes | x3_EarlyYes | x4_EarlyYes | x5_EarlyYes | x6_EarlyYes | x7_EarlyYes=>k_is)
  (case x_Lasting | x1_Lasting | x2_Lasting | x3_Lasting | x4_Lasting | x5_Lasting | x6_Lasting | x7_Lasting | x_Machine | x1_Machine | x2_Machine | x3_Machine | x4_Machine=>k_is)
  (case x8_Machine=>kit_is)
  (case x9_Machine | xo_Machine | x5_Machine | x6_Machine | x_Settled | x1_Settled | x2_Settled | x3_Settled | x4_Settled | x5_Settled | x6_Settled | x7_Settled | w_Machine_letters | w_Machine_many | w_Machine_ranks | w_Machine_steps | y3 | y4 | a1 | l1 | c1 | k1 | a2 | l2=>k_is)
  (case c2 | k2 | a3 | l3 | c3 | k3 | a4 | l4 | c4 | k4 | a5 | l5 | c5 | k5 | a6 | l6 | c6 | k6 | a7 | l7 | c7 | k7 | a8 | l8=>k_is)
  (case c8 | k8 | a9 | l9 | c9 | k9 | a10 | l10 | c10 | k10 | a11 | l11 | c11 | k11 | a12 | l12 | c12 | k12 | a13 | l13 | c13 | k13 | a14 | l14=>k_is)
  (case c14 | k14 | a15 | e15 | l15 | c15 | k15 | a16 | l16 | c16 | k16 | a17 | l17 | c17 | k17 | a18 | l18 | c18 | k18 | a19 | l19 | c19 | k19 | a20=>k_is)
  (case l20 | c20 | k20 | a21 | e21 | l21 | c21 | k21 | a22 | e22 | l22 | c22 | k22 | a23 | e23 | l23 | c23 | k23 | a24 | e24 | l24 | c24 | k24 | a25=>k_is)
  (case e25 | l25 | c25 | k25 | a26 | l26 | c26 | k26 | a27 | l27 | c27 | k27 | a28 | l28 | c28 | k28 | a29 | l29 | c29 | k29 | a30 | l30 | c30 | k30=>k_is)
  (case a31 | l31 | c31 | k31 | a32 | l32 | c32 | k32 | a33 | l33 | c33 | k33 | a34 | l34 | c34 | k34 | a35 | l35 | c35 | k35 | a36 | l36 | c36 | k36=>k_is)
  (case a37 | l37 | c37 | k37 | a38 | l38 | c38 | k38 | a39 | l39 | c39 | k39 | a40 | l40 | c40 | k40 | a41 | l41 | c41 | k41 | a42 | e42 | l42 | c42=>k_is)
  (case k42 | a43 | l43 | c43 | k43 | a44 | l44 | c44 | k44 | a45 | e45 | l45 | c45 | k45 | a46 | l46 | c46 | k46 | a47 | e47 | l47 | c47 | k47 | a48=>k_is)
  (case e48 | l48 | c48 | k48 | a49 | l49 | c49 | k49 | a50 | e50 | l50 | c50 | k50 | a51 | e51 | l51 | c51 | k51 | a52 | l52 | c52 | k52 | a53 | l53=>k_is)
  (case c53 | k53 | a54 | l54 | c54 | k54 | a55 | l55 | c55 | k55 | a56 | e56 | l56 | c56 | k56 | a57 | e57 | l57 | c57 | k57 | a58 | e58 | l58 | c58=>k_is)
  (case k58 | a59 | l59 | c59 | k59 | a60 | l60 | c60 | k60 | a61 | l61 | c61 | k61 | a62 | l62 | c62 | k62 | a63 | l63 | c63 | k63 | a64 | l64 | c64=>k_is)
  (case k64 | a65 | l65 | c65 | k65 | a66 | l66 | c66 | k66 | a67 | l67 | c67 | k67 | a68 | l68 | c68 | k68 | a69 | e69 | l69 | t69 | c69 | k69 | a70=>k_is)
  (case e70 | l70 | t70 | c70 | k70 | a71 | l71 | c71 | k71 | a72 | l72 | c72 | k72 | v_LETTERS | v_MOST_BOTTOM | v_MOST_LETTERS | v_MOST_ROOMS | v_OUT | v_BASES | u_BASES | z_all | z_bool | z_int | z_isinstance=>k_is)
  (case z_len | z_list | z_max | z_min | z_range | z_set | z_sorted | z_str | z_tuple | z_zip=>k_is)
