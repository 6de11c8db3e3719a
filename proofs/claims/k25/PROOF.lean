import PyProof.Rows.All
import Wide.All
import OpenK.AllK
import Wide.FinOn
import Lean
import PyProof.EqAt
import PyProof.EqKinds
import PyProof.TupleCall
import PyProof.P3Eq
import PyProof.NeKinds
import PyProof.NsDelKeeps
import PyProof.RulesAs
import PyProof.ExcAttrAll.ValueError
import PySem.Challenge.RW_looprank_k25_dead_and_sure
set_option Elab.async false
set_option linter.all false
set_option maxRecDepth 100000
namespace L2
open PySem PySem.Spec PyProof.Rows
abbrev Key:=Sum Int Str
def aGl:Key->Value->Bool
 | .inl k,v=>Value.isInt k v
 | .inr x,v=>Value.isStrOf x v
def bG2(w:World):Key->Int
 | .inl k=>hashInt k
 | .inr x=>hashStr w x
theorem fO:∀ {k:Key} {v:Value},aGl k v=true->(∃ i t,k=Sum.inl i/\v=Value.int i t)\/(∃ x t,k=Sum.inr x/\v=Value.str x t)
 | .inl i,v,h=>by
  obtain⟨t,e⟩:=Value.isInt_shape (k:=i) (v:=v) h
  exact .inl ⟨i,t,rfl,e⟩
 | .inr x,v,h=>by
  obtain⟨t,e⟩:=Value.isStrOf_shape (x:=x) (v:=v) h
  exact .inr ⟨x,t,rfl,e⟩
theorem aPp(i:Int)(t:Tok):aGl (.inl i) (.int i t)=true:=by simp[aGl,Value.isInt]
theorem aPq(x:Str)(t:Tok):aGl (.inr x) (.str x t)=true:=by simp[aGl,Value.isStrOf]
theorem aRt(a b:Int):decide ((Sum.inl a:Key)=Sum.inl b)=(a==b):=by
 by_cases e:a=b
 ·subst e;simp
 ·have h:¬ (Sum.inl a:Key)=Sum.inl b:=fun q=>e (Sum.inl.inj q)
  rw[decide_eq_false h]
  exact(beq_eq_false_iff_ne.mpr e).symm
theorem aRu(a b:Str):decide ((Sum.inr a:Key)=Sum.inr b)=decide (a=b):=by
 by_cases e:a=b
 ·subst e;simp
 ·have h:¬ (Sum.inr a:Key)=Sum.inr b:=fun q=>e (Sum.inr.inj q)
  rw[decide_eq_false h,decide_eq_false e]
theorem aRv(a:Int)(b:Str):decide ((Sum.inl a:Key)=Sum.inr b)=false:=decide_eq_false (fun q=>nomatch q)
theorem aRw(a:Str)(b:Int):decide ((Sum.inr a:Key)=Sum.inl b)=false:=decide_eq_false (fun q=>nomatch q)
def fK(prog:Program)(w:World):PySem.KeyKind prog w Key where
 is:=aGl
 hash:=bG2 w
 inj:=fun v a b ha hb=>by
  rcases fO ha with ⟨i,t,rfl,rfl⟩ | ⟨x,t,rfl,rfl⟩
  ·rcases fO hb with ⟨j,u,rfl,e⟩ | ⟨y,u,rfl,e⟩
   ·injection e with e1 _;rw[e1]
   ·exact nomatch e
  ·rcases fO hb with ⟨j,u,rfl,e⟩ | ⟨y,u,rfl,e⟩
   ·exact nomatch e
   ·injection e with e1 _;rw[e1]
 byValue:=fun k v h=>by
  rcases fO h with ⟨i,t,rfl,rfl⟩ | ⟨x,t,rfl,rfl⟩ <;> rfl
 pyHash:=fun hv h=>by
  rcases fO hv with ⟨i,t,rfl,rfl⟩ | ⟨x,t,rfl,rfl⟩
  ·exact wpAny_pyHash_int h
  ·exact wpAny_pyHash_str h
 eqBool:=fun hu hv h=>by
  rcases fO hu with ⟨i,t,rfl,rfl⟩ | ⟨x,t,rfl,rfl⟩
  ·rcases fO hv with ⟨j,u,rfl,rfl⟩ | ⟨y,u,rfl,rfl⟩
   ·rw[aRt]at h;exact wpAny_eqBool_int h
   ·rw[aRv]at h;exact SeqAt.EqAt.int_str i t y u _ _ _ _ h
  ·rcases fO hv with ⟨j,u,rfl,rfl⟩ | ⟨y,u,rfl,rfl⟩
   ·rw[aRw]at h;exact SeqAt.EqAt.str_int x t j u _ _ _ _ h
   ·rw[aRu]at h;exact wpAny_eqBool_str h
 «strs» := fun k x t v h=>by
  rcases fO h with ⟨i,u,rfl,e⟩ | ⟨y,u,rfl,e⟩
  ·exact nomatch e
  ·injection e with e1 _
   subst e1
   cases v<;>rfl
theorem aJg(prog:Program)(w:World)(i:Int)(t:Tok):(fK prog w).is (.inl i) (.int i t)=true:=aPp i t
theorem aJh(prog:Program)(w:World)(x:Str)(t:Tok):(fK prog w).is (.inr x) (.str x t)=true:=aPq x t
end L2
namespace L2
open PySem PySem.Spec PyProof.Rows
inductive V where
 | non | bl (b:Bool) | int (i:Int) | str (x:Str) | byt (b:Array UInt8) | flt (b:UInt64) | ref (a:Addr) | ty (n:String)
 deriving DecidableEq
def RelV:V->Value->Prop
 | .non,u=>u=Value.none
 | .bl b,u=>u=Value.bool b
 | .int i,u=>∃ t,u=Value.int i t
 | .str x,u=>∃ t,u=Value.str x t
 | .byt b,u=>∃ t,u=Value.bytes b t
 | .flt b,u=>∃ t,u=Value.float b t
 | .ref a,u=>u=Value.ref a
 | .ty n,u=>u=Value.type n
abbrev Vals:List V->List Value->Prop:=Paired RelV
theorem Vals.length{xs:List V}{us:List Value}(r:Vals xs us):xs.length=us.length:=Paired.length r
theorem Vals.get:∀ {xs:List V} {us:List Value} {i:Nat} {x:V},Vals xs us->xs[i]?=some x->∃ u,us[i]?=some u/\RelV x u
 | _,_,_,_,.nil,e=>by simp at e
 | _,_,0,_,.cons r _,e=>by simp at e;subst e;exact⟨_,rfl,r⟩
 | _,_,i+1,x,.cons _ t,e=>by
  obtain⟨u,h1,h2⟩:=Vals.get (i:=i) (x:=x) t (by simpa using e)
  exact⟨u,by simpa using h1,h2⟩
theorem Vals.set{x:V}{u:Value}(r:RelV x u):∀ {xs:List V} {us:List Value} (i:Nat),Vals xs us->Vals (xs.set i x) (us.set i u)
 | _,_,_,.nil => .nil
 | _,_,0,.cons _ t => .cons r t
 | _,_,i+1,.cons q t => .cons q (Vals.set r i t)
theorem Vals.append:∀ {xs ys:List V} {us ws:List Value},Vals xs us->Vals ys ws->Vals (xs++ys) (us++ws)
 | _,_,_,_,.nil,s=>s
 | _,_,_,_,.cons r t,s => .cons r (Vals.append t s)
theorem Vals.take:∀ {xs:List V} {us:List Value} (n:Nat),Vals xs us->Vals (xs.take n) (us.take n)
 | _,_,0,_ => .nil
 | _,_,_+1,.nil => .nil
 | _,_,n+1,.cons r t => .cons r (Vals.take n t)
theorem Vals.drop:∀ {xs:List V} {us:List Value} (n:Nat),Vals xs us->Vals (xs.drop n) (us.drop n)
 | _,_,0,r=>r
 | _,_,_+1,.nil => .nil
 | _,_,n+1,.cons _ t=>Vals.drop n t
def tV:Option V->Option Value->Prop
 | some v,some u=>RelV v u
 | none,none=>True
 | _,_=>False
def KV{κ:Type}:List (κ × V)->List (κ × Value)->Prop:=Paired fun(p:κ × V) (q:κ × Value)=>p.1=q.1/\RelV p.2 q.2
def kV:Key->V
 | .inl i => .int i
 | .inr x => .str x
inductive HO where
 | lst (xs:List V)
 | tup (xs:List V)
 | dK (kvs:List (Key × V)) | dT (kvs:List (List Key × V))
 | set (S:Int->Bool) (n:Nat)
 | ins (C dx:Addr) (fs:List (Str × V))
 | own (x:Addr)
 | xd (fs:List (Str × V))
 | met (f x:Addr)
 | rng (lo hi:Int)
 | frz (o:Obj) (u:HO)
 | tbl (ps:Array Value)
 | ext (φ:Heap->Prop)
abbrev Hp:=Addr->Option HO
def upd(H:Hp)(a:Addr)(o:HO):Hp:=fun b=>if b=a then some o else H b
theorem cH{H:Hp}{a:Addr}{o:HO}:upd H a o a=some o:=by unfold upd;rw[if_pos rfl]
theorem bQ{H:Hp}{a b:Addr}{o:HO}(h:b≠a):upd H a o b=H b:=by unfold upd;rw[if_neg h]
theorem bCl{H:Hp}{a b:Addr}{o u:HO}(h:H a=some o)(h':H b=some u)(d:o≠u):a≠b:=by
 intro e;subst e;rw[h]at h';exact d (Option.some.inj h')
theorem bC{H:Hp}{a b:Addr}{o:HO}(h:H a=some o)(h':H b=none):a≠b:=by
 intro e;subst e;rw[h]at h';cases h'
section
variable(P:Program)(w:World)
def jN(H:Hp)(h:Heap)(a:Addr):HO->Prop
 | .lst xs=>xs.length<=sizeLine/\∃ (its:List Value) (n:Nat),Vals xs its/\h.get? a=some {cls := .type "list", data := .seq its.toArray n}
 | .tup xs=>xs.length<=sizeLine/\∃ its:List Value,Vals xs its/\IsTup h a its.toArray
 | .dK kvs=>kvs.length<=sizeLine/\(a==sysModules)=false/\∃ vs,KV kvs vs/\h.DictOf (fK P w) a vs
 | .dT kvs=>kvs.length<=sizeLine/\(a==sysModules)=false/\∃ xs:List (List Key × Addr × Value),
   Paired (fun(p:List Key × V) (q:List Key × Addr × Value)=>p.1=q.1/\H q.2.1=some (.tup (p.1.map kV))/\RelV p.2 q.2.2) kvs xs /\
   ∃ o es ep,h.get? a=some o/\o.ExactDict/\o.data = .dict es ep/\es.toList=xs.map (entryOfKey (tupleKind (fK P w)))/\(xs.map (·.1)).Nodup
 | .set S n=>h.SetOf (intKind P w) a S n
 | .ins C dx fs=>H dx=some (.own a)/\fs.length<=1000/\dx≠a/\h.get? a=some (PySem.W.instObj C dx) /\
   ∃ mA,h.Ns1 dx mA/\(∀ f,tV (fs.lookup f) (mA f))/\PySem.Within mA (fs.map (·.1))
 | .own _=>∃ o,h.get? a=some o
 | .xd fs=>∃ mA,h.Ns1 a mA/\∀ f,tV (fs.lookup f) (mA f)
 | .rng lo hi=>∃ t u v,h.get? a=some {cls := .type "range", data := .fields #[.int lo t,.int hi u,.int 1 v] }
 | .frz o u=>h.get? a=some o/\jN H h a u
 | .tbl ps=>h.get? a=some {cls := .none,data := .fields ps}
 | .met f x=>h.get? a=some (PySem.W.methodObj (.ref f) (.ref x))
 | .ext φ=>φ h/\(∃ o,h.get? a=some o)/\∀ h1 h2:Heap,φ h1->(∀ o,h1.get? a=some o->h2.get? a=some o)->φ h2
def HOk(H:Hp)(h:Heap):Prop:=∀ a o,H a=some o->jN P w H h a o
end
section
variable{P:Program}{w:World}{H H':Hp}{h h':Heap}{a:Addr}{o:HO}
theorem jN.lt(x:jN P w H h a o):a<h.objs.size:=by
 cases o with
 | lst xs=>obtain⟨_,_,_,_,e⟩:=x;exact Heap.lt_size e
 | tup xs=>obtain⟨_,_,_,p⟩:=x;exact p.lt
 | dK kvs=>obtain⟨_,_,_,_,o,_,_,e,_⟩:=x;exact Heap.lt_size e
 | dT kvs=>obtain⟨_,_,_,_,o,_,_,e,_⟩:=x;exact Heap.lt_size e
 | set S n=>obtain⟨o,_,_,_,e,_⟩:=x;exact Heap.lt_size e
 | ins C dx fs=>obtain⟨_,_,_,e,_⟩:=x;exact Heap.lt_size e
 | own y=>obtain⟨_,e⟩:=x;exact Heap.lt_size e
 | xd fs=>obtain⟨_,⟨_,_,_,e,_⟩,_⟩:=x;exact Heap.lt_size e
 | rng lo hi=>obtain⟨_,_,_,e⟩:=x;exact Heap.lt_size e
 | frz ob u=>obtain⟨e,_⟩:=x;exact Heap.lt_size e
 | tbl ps=>exact Heap.lt_size (show h.get? a=some _ from x)
 | met f y=>exact Heap.lt_size (show h.get? a=some _ from x)
 | ext φ=>obtain⟨_,⟨_,e⟩,_⟩:=x;exact Heap.lt_size e
theorem Paired.mapP{α β:Type}{F G:α->β->Prop}:∀ {l₁:List α} {l₂:List β},Paired F l₁ l₂->(∀ a b,F a b->G a b)->Paired G l₁ l₂
 | _,_,.nil,_ => .nil
 | _,_,.cons r t,f => .cons (f _ _ r) (Paired.mapP t f)
theorem jN.stay(x:jN P w H h a o)(k:∀ b u,(b=a\/H b=some (.own a))->h.get? b=some u->h'.get? b=some u)
  (ho:∀ b,H b=some (.own a)->H' b=some (.own a)) (ht:∀ b xs,H b=some (.tup xs)->H' b=some (.tup xs)):jN P w H' h' a o:=by
 induction o with
 | lst xs=>obtain⟨z,its,n,r,e⟩:=x;exact⟨z,its,n,r,k _ _ (.inl rfl) e⟩
 | tup xs=>obtain⟨z,its,r,ob,e,c⟩:=x;exact⟨z,its,r,ob,k _ _ (.inl rfl) e,c⟩
 | dK kvs=>obtain⟨z,y,vs,r,ob,es,ep,e,c⟩:=x;exact⟨z,y,vs,r,ob,es,ep,k _ _ (.inl rfl) e,c⟩
 | dT kvs =>
  obtain⟨z,y,xs,r,ob,es,ep,e,c⟩:=x
  exact⟨z,y,xs,Paired.mapP r fun p q z=>⟨z.1,ht _ _ z.2.1,z.2.2⟩,ob,es,ep,k _ _ (.inl rfl) e,c⟩
 | set S n=>obtain⟨ob,es,ep,t,e,c⟩:=x;exact⟨ob,es,ep,t,k _ _ (.inl rfl) e,c⟩
 | ins C dx fs =>
  obtain⟨d,z,ne,e,mA,⟨od,es,ep,e2,c⟩,r⟩:=x
  exact⟨ho _ d,z,ne,k _ _ (.inl rfl) e,mA,⟨od,es,ep,k _ _ (.inr d) e2,c⟩,r⟩
 | own y=>obtain⟨ob,e⟩:=x;exact⟨ob,k _ _ (.inl rfl) e⟩
 | xd fs=>obtain⟨mA,⟨od,es,ep,e,c⟩,r⟩:=x;exact⟨mA,⟨od,es,ep,k _ _ (.inl rfl) e,c⟩,r⟩
 | rng lo hi=>obtain⟨t,u,v,e⟩:=x;exact⟨t,u,v,k _ _ (.inl rfl) e⟩
 | frz ob u ih=>obtain⟨e,q⟩:=x;exact⟨k _ _ (.inl rfl) e,ih q⟩
 | tbl ps =>
  have e:h.get? a=some {cls := .none,data := .fields ps}:=x
  show h'.get? a=some {cls := .none,data := .fields ps}
  exact k a _ (.inl rfl) e
 | met f y =>
  have e:h.get? a=some (PySem.W.methodObj (.ref f) (.ref y)):=x
  show h'.get? a=some (PySem.W.methodObj (.ref f) (.ref y))
  exact k a _ (.inl rfl) e
 | ext φ=>obtain⟨p,⟨o,e⟩,st⟩:=x;exact⟨st _ _ p fun o q=>k _ _ (.inl rfl) q,⟨o,k _ _ (.inl rfl) e⟩,st⟩
theorem HOk.lt(x:HOk P w H h)(e:H a=some o):a<h.objs.size:=(x a o e).lt
theorem HOk.fresh(x:HOk P w H h)(e:h.objs.size<=a):H a=none:=by
 cases q:H a with
 | none=>rfl
 | some u=>exact absurd (Nat.lt_of_lt_of_le (x.lt q) e) (Nat.lt_irrefl _)
theorem HOk.kept(x:HOk P w H h)(k:∀ b u,h.get? b=some u->h'.get? b=some u):HOk P w H h':=fun a o e =>
 (x a o e).stay (fun b u _ q=>k b u q) (fun _ q=>q) fun _ _ q=>q
theorem HOk.laid(x:HOk P w H h)(k:∀ b u,h.get? b=some u->h'.get? b=some u)(hp:h.objs.size<=a)(new:jN P w (upd H a o) h' a o):HOk P w (upd H a o) h':=fun b u e=>by
 have hn:=x.fresh hp
 by_cases hb:b=a
 ·subst hb;rw[cH]at e;cases e;exact new
 ·rw[bQ hb]at e
  exact(x b u e).stay (fun c v _ q=>k c v q) (fun c q=>by rw[bQ (bC q hn)];exact q) fun c xs q=>by rw[bQ (bC q hn)];exact q
end
def Rd(H:Hp)(a:Addr)(u:HO):Prop:=H a=some u\/∃ o,H a=some (.frz o u)
theorem Rd.ok{P:Program}{w:World}{H:Hp}{h:Heap}{a:Addr}{u:HO}(r:Rd H a u)(x:HOk P w H h):jN P w H h a u:=by
 rcases r with r | ⟨o,r⟩
 ·exact x a u r
 ·obtain⟨_,q⟩:=x a _ r
  exact q
def Mut:Option HO->Prop
 | some (.lst _)=>True
 | some (.dK _)=>True
 | some (.dT _)=>True
 | some (.set _ _)=>True
 | some (.ins _ _ _)=>True
 | some (.ext _)=>True
 | _=>False
section
variable{P:Program}{w:World}{H:Hp}{h h':Heap}{x e:Addr}{o':HO}
theorem HOk.write(ok:HOk P w H h)(mu:Mut (H x))(he:e=x\/H e=some (.own x))(k:∀ b u,b≠e->h.get? b=some u->h'.get? b=some u)(heo:∃ u,h'.get? e=some u)
  (new:jN P w (upd H x o') h' x o'):HOk P w (upd H x o') h':=fun b u q=>by
 have nown:∀ c y,H c=some (.own y)->c≠x:=fun c y r z=>by subst z;rw[r]at mu;exact mu
 have ntup:∀ c xs,H c=some (.tup xs)->c≠x:=fun c xs r z=>by subst z;rw[r]at mu;exact mu
 by_cases hb:b=x
 ·subst hb;rw[cH]at q;cases q;exact new
 ·rw[bQ hb]at q
  by_cases hbe:b=e
  ·have q':H b=some (.own x):=by
    rcases he with z | z
    ·exact absurd (hbe.trans z) hb
    ·rw[hbe];exact z
   rw[q]at q';cases q'
   obtain⟨v,hv⟩:=heo
   exact⟨v,by rw[hbe];exact hv⟩
  ·refine(ok b u q).stay (fun c v hc r=>k c v ?_ r) (fun c r=>by rw[bQ (nown c b r)];exact r) fun c xs r=>by rw[bQ (ntup c xs r)];exact r
   rcases hc with rfl | hc
   ·exact hbe
   ·rintro rfl
    rcases he with z | z
    ·exact nown c b hc z
    ·rw[hc]at z;cases z;exact hb rfl
end
structure Un(fs ex:List Addr)(H H':Hp)(h h':Heap):Prop where
 keep:∀ b o,h.get? b=some o->H b=none->b ∉ fs->b ∉ ex->h'.get? b=some o
 slot:∀ b o,h.get? b=some o->H b=none->b∈fs->b ∉ ex->∃ sl,h'.get? b=some {o with slots:=sl}
 free:∀ b o,h.get? b=some o->H b=none->b ∉ ex->H' b=none
 there:∀ b o,h.get? b=some o->b ∉ ex->∃ o',h'.get? b=some o'
 tups:∀ b xs,H b=some (.tup xs)->H' b=some (.tup xs)
 frzs:∀ b o u,H b=some (.frz o u)->H' b=some (.frz o u)
 tbls:∀ b ps,H b=some (.tbl ps)->∃ more,H' b=some (.tbl (ps++more))
section
variable{fs fs' ex ex':List Addr}{H H1 H2:Hp}{h h1 h2 h':Heap}{a x e:Addr}{o:HO}
theorem Un.any(u:Un fs ex H H1 h h1){b:Addr}{ob:Obj}(q:h.get? b=some ob)(n:H b=none)(hx:b ∉ ex):∃ sl,h1.get? b=some {ob with slots:=sl}:=by
 by_cases hb:b∈fs
 ·exact u.slot b ob q n hb hx
 ·exact⟨ob.slots,u.keep b ob q n hb hx⟩
theorem Un.kept(k:∀ b u,h.get? b=some u->h'.get? b=some u):Un fs ex H H h h' :=
 ⟨fun b ob q _ _ _=>k b ob q,fun b ob q _ _ _=>⟨ob.slots,k b ob q⟩,fun _ _ _ n _=>n,fun b ob q _=>⟨ob,k b ob q⟩,fun _ _ q=>q,fun _ _ _ q=>q,fun _ ps q=>⟨#[],by rw[q];simp⟩⟩
theorem Un.refl:Un fs ex H H h h:=Un.kept fun _ _ q=>q
theorem Un.laid(k:∀ b u,h.get? b=some u->h'.get? b=some u)(hp:h.objs.size<=a)(hn:H a=none):Un fs ex H (upd H a o) h h' where
 keep:=fun b u q _ _ _=>k b u q
 slot:=fun b u q _ _ _=>⟨u.slots,k b u q⟩
 free:=fun b u q n _=>by rw[bQ (Nat.ne_of_lt (Nat.lt_of_lt_of_le (Heap.lt_size q) hp))];exact n
 there:=fun b u q _=>⟨u,k b u q⟩
 tups:=fun b xs q=>by rw[bQ (bC q hn)];exact q
 frzs:=fun b u xs q=>by rw[bQ (bC q hn)];exact q
 tbls:=fun b ps q=>⟨#[],by rw[bQ (bC q hn),q];simp⟩
theorem Un.write(mu:Mut (H x))(he:e=x\/H e=some (.own x))(k:∀ b u,b≠e->h.get? b=some u->h'.get? b=some u)(heo:∃ u,h'.get? e=some u):Un fs ex H (upd H x o) h h':=by
 have hx:∀ b,H b=none->b≠x:=fun b n z=>by subst z;rw[n]at mu;exact mu
 have hb:∀ b,H b=none->b≠e:=fun b n z=>by
  subst z
  rcases he with r | r
  ·exact hx b n r
  ·rw[n]at r;cases r
 have hm:∀ b u,H b=some u->¬ Mut (some u)->b≠x:=fun b u q nm z=>by subst z;rw[q]at mu;exact nm mu
 refine⟨fun b u q n _ _=>k b u (hb b n) q,fun b u q n _ _=>⟨u.slots,k b u (hb b n) q⟩,fun b u q n _=>by rw[bQ (hx b n)];exact n,fun b u q _=>?_,
  fun b xs q=>by rw[bQ (hm b _ q fun z=>z)];exact q,fun b u xs q=>by rw[bQ (hm b _ q fun z=>z)];exact q,fun b ps q=>⟨#[],by rw[bQ (hm b _ q fun z=>z),q];simp⟩⟩
 by_cases hbe:b=e
 ·subst hbe;exact heo
 ·exact⟨u,k b u hbe q⟩
end
def trk(h:Heap)(H:Hp):List Addr:=(List.range h.objs.size).filter fun a=>(H a).isSome
def aHu(h:Heap)(H:Hp):Heap:=PySem.W.hideAll h (trk h H)
theorem aPr(h:Heap)(H:Hp):(aHu h H).objs.size=h.objs.size:=PySem.W.hideAll_size _ _
theorem aRx{h:Heap}{H:Hp}{b:Addr}{o:Obj}(e:h.get? b=some o)(n:H b=none):(aHu h H).get? b=some o :=
 PySem.W.hideAll_get _ e fun hm=>by
  have q:(H b).isSome=true:=(List.mem_filter.mp hm).2
  rw[n]at q;simp at q
theorem aVp{h:Heap}{H:Hp}{b:Addr}{o:Obj}(e:(aHu h H).get? b=some o):h.get? b=some o/\H b=none:=by
 have e':h.get? b=some o:=PySem.W.of_hideAll (trk h H) e
 refine⟨e',?_⟩
 cases q:H b with
 | none=>rfl
 | some x =>
  have hm:b∈trk h H:=List.mem_filter.mpr ⟨List.mem_range.mpr (Heap.lt_size e'),by simp[q]⟩
  have z:(aHu h H).get? b=none:=PySem.W.hideAll_none (trk h H) hm
  rw[z]at e;cases e
def aVq(g h:Heap)(L:Addr):List (Addr × Obj):=(List.range h.objs.size).filterMap fun a=>if a=L\/(g.get? a).isSome=true then none else (h.get? a).map fun o=>(a,o)
def rest(g h:Heap)(L d:Addr):List (Addr × Obj):=(aVq g h L).filter fun p=>decide (p.1≠d)
end L2
namespace L2
open PySem PySem.Spec PyProof.Rows
structure Mod(K:PySem.W.Frag)(mg:Str->Option Value)(base:Heap):Prop where
 kin:K.In base
 glob:base.Ns mainGlobals mg
 blt:∃ mb,base.Ns builtinsNs mb/\∀ x:Str,x ≠ "__name__" -> mb x=bootBuiltins x
 nolimit:base.NoLimit
structure Cx where
 prog:Program
 w:World
 K:PySem.W.Frag
 mg:Str->Option Value
 base:Heap
 A:Around
 N:List Str
 s₀:Shared
 H₀:Hp
 env:Env
 outer:List Env
 stack:List Env
 ex:List Addr
 fn:Str->Bool
 calm:Bool
 pn:List (Addr × Obj)
 xe:Value->Shared->Prop
def frs(l:List Env):List Addr:=l.filterMap (·.frame)
abbrev Cx.fs(X:Cx):List Addr:=frs X.outer
def Vis(sc:Scope)(x:Str):Prop:=sc.names.lookup x=some .local\/sc.names.lookup x=some .cell\/sc.names.lookup x=some .free
def Loc(sc:Scope)(x:Str):Prop:=sc.names.lookup x=some .local\/sc.names.lookup x=some .cell
def Look(env:Env)(h:Heap)(m:Str->Option Value)(x:Str)(u:Value):Prop :=
 (env.kindOf x=some .local/\m x=some u)\/((env.kindOf x=some .cell\/env.kindOf x=some .free)/\∃ c,env.cells.lookup x=some c/\h.IsCell c (some u))
structure Cx.Ok(X:Cx):Prop where
 mod:Mod X.K X.mg X.base
 kind:X.env.scope.kind = .function
 glob:X.env.globals=mainGlobals
 blt:X.env.builtins=builtinsNs
 above:X.s₀.heap.objs.size<=X.env.locals
 inj:∀ x y c,X.env.cells.lookup x=some c->X.env.cells.lookup y=some c->x=y
 has:∀ x,(X.env.kindOf x=some .cell\/X.env.kindOf x=some .free)->∃ c,X.env.cells.lookup x=some c
 cab:∀ x c,X.fn x=true->X.env.cells.lookup x=some c->X.s₀.heap.objs.size<=c
 hd:X.calm=true->X.A.handled=none
 frames:X.A.frames=some X.stack
 stk:X.stack=X.outer\/(X.stack=X.env::X.outer/\X.env.frame=some X.env.locals)
 exf:∀ b∈X.ex,b≠X.env.locals/\∀ x c,X.env.cells.lookup x=some c->c≠b
 bs:∀ b o,X.base.get? b=some o->X.s₀.heap.get? b=some o/\X.H₀ b=none
 bsz:X.base.objs.size<=X.s₀.heap.objs.size
 noex:∀ b o,X.base.get? b=some o->b ∉ X.ex
 exfs:∀ b∈X.ex,b ∉ X.fs
 funs:X.s₀.heap.FunFrames X.base X.outer
 frf:∀ b∈X.fs,X.H₀ b=none
structure Inv(X:Cx)(pins:List (Addr × Obj))(σ:List (Option V))(H:Hp)(s:Shared):Prop where
 ok:X.Ok
 os:s.os=X.s₀.os
 bare:AllBare s.gens
 base:Un X.fs X.ex X.H₀ H X.s₀.heap s.heap
 loc:∃ m,s.heap.Ns X.env.locals m/\∀ (i:Nat) (x:Str) (v:V),X.N[i]?=some x->σ[i]?=some (some v)->Vis X.env.scope x->∃ u,RelV v u/\Look X.env s.heap m x u
 cell:∀ x c,X.env.cells.lookup x=some c->∃ v,s.heap.IsCell c v
 free:H X.env.locals=none
 freeC:∀ x c,X.env.cells.lookup x=some c->H c=none
 pin:∀ p∈X.pn++pins,s.heap.get? p.1=some p.2/\H p.1=none/\p.1≠X.env.locals/\p.1 ∉ X.fs/\∀ v,p.2.data ≠ .cell v
 hok:HOk X.prog X.w H s.heap
 len:σ.length=X.N.length
section
variable{X:Cx}{pins:List (Addr × Obj)}{σ:List (Option V)}{H H':Hp}{s:Shared}{h':Heap}
theorem Cx.Ok.nofr(ok:X.Ok){b:Addr}{o:Obj}(e:X.base.get? b=some o):b ∉ X.fs:=fun hb=>by
 have:=(ok.funs.mem hb).1
 rw[e]at this;cases this
theorem Inv.bs(I:Inv X pins σ H s):∀ b o,X.base.get? b=some o->s.heap.get? b=some o/\H b=none:=fun b o e =>
 ⟨I.base.keep b o (I.ok.bs b o e).1 (I.ok.bs b o e).2 (I.ok.nofr e) (I.ok.noex b o e),I.base.free b o (I.ok.bs b o e).1 (I.ok.bs b o e).2 (I.ok.noex b o e)⟩
theorem Inv.bk(I:Inv X pins σ H s):∀ b o,X.base.get? b=some o->s.heap.get? b=some o:=fun b o e=>(I.bs b o e).1
theorem Inv.mod(I:Inv X pins σ H s):Mod X.K X.mg X.base:=I.ok.mod
theorem Inv.kIn(I:Inv X pins σ H s):X.K.In s.heap:=I.ok.mod.kin.keeps I.bk
theorem Inv.lt(I:Inv X pins σ H s):X.env.locals<s.heap.objs.size:=let ⟨_,hn,_⟩:=I.loc;hn.lt
theorem Inv.sz(I:Inv X pins σ H s):X.s₀.heap.objs.size<=s.heap.objs.size:=Nat.le_trans I.ok.above (Nat.le_of_lt I.lt)
theorem Inv.nofs(I:Inv X pins σ H s){a:Addr}(h:s.heap.objs.size<=a):a ∉ X.fs:=fun hb=>by
 obtain⟨_,o,ho,_⟩:=I.ok.funs.mem hb
 exact absurd (Nat.lt_of_lt_of_le (Heap.lt_size ho) (Nat.le_trans I.sz h)) (Nat.lt_irrefl _)
theorem Inv.cne(I:Inv X pins σ H s):∀ x c,X.env.cells.lookup x=some c->c≠X.env.locals:=fun x c e z=>by
 obtain⟨v,o,ho,hd⟩:=I.cell x c e
 obtain⟨m,⟨o',es,ep,ho',hd',_⟩,_⟩:=I.loc
 rw[z,ho']at ho;cases ho;rw[hd']at hd;cases hd
theorem Inv.funs(I:Inv X pins σ H s):s.heap.FunFrames X.base X.outer:=by
 have all:∀ (l:List Env),(∀ b∈frs l,b∈X.fs)->X.s₀.heap.FunFrames X.base l->s.heap.FunFrames X.base l:=by
  intro l
  induction l with
  | nil=>intro _ _;trivial
  | cons env r ih =>
   intro hs hl
   obtain⟨hk,⟨L,o,hf,hn,ho,hd⟩,hr⟩:=hl
   have hL:L∈X.fs:=hs L (by unfold frs;rw[List.filterMap_cons,hf];exact List.mem_cons_self)
   obtain⟨sl,e⟩:=I.base.slot L o ho (I.ok.frf L hL) hL fun z=>I.ok.exfs L z hL
   exact⟨hk,⟨L,_,hf,hn,e,hd⟩,ih (fun b hb=>hs b (by unfold frs;rw[List.filterMap_cons,hf];exact List.mem_cons_of_mem _ hb)) hr⟩
 exact all X.outer (fun _ hb=>hb) I.ok.funs
theorem Inv.stack(I:Inv X pins σ H s):s.heap.FunFrames X.base X.stack:=by
 rcases I.ok.stk with e | ⟨e,hf⟩
 ·rw[e];exact I.funs
 ·rw[e]
  obtain⟨m,hn,_⟩:=I.loc
  refine .cons (by rw[I.ok.kind];decide) hf hn ?_ I.funs
  exact Heap.get?_none_of_le (Nat.le_trans I.ok.bsz I.ok.above)
theorem Inv.stkSub(I:Inv X pins σ H s):∀ b∈frs X.stack,b∈X.env.locals::X.fs:=fun b hb=>by
 rcases I.ok.stk with e | ⟨e,hf⟩
 ·rw[e]at hb;exact List.mem_cons_of_mem _ hb
 ·rw[e]at hb
  unfold frs at hb
  rw[List.filterMap_cons,hf]at hb
  exact hb
theorem Inv.stkFree(I:Inv X pins σ H s):∀ b∈frs X.stack,H b=none:=fun b hb=>by
 rcases List.mem_cons.mp (I.stkSub b hb) with e | hb
 ·rw[e];exact I.free
 ·obtain⟨_,o,ho,_⟩:=I.ok.funs.mem hb
  exact I.base.free b o ho (I.ok.frf b hb) fun z=>I.ok.exfs b z hb
theorem Inv.step{g':Array GenState}{t':Nat}{d':Drawn}{ch:List Addr}(I:Inv X pins σ H s)
  (hch:∀ b∈ch,(b∈X.ex\/X.s₀.heap.objs.size<=b)/\b≠X.env.locals/\(∀ x c,X.env.cells.lookup x=some c->c≠b)/\∀ p∈X.pn++pins,p.1≠b)
  (keep:∀ b o,b≠X.env.locals->b ∉ X.fs->b ∉ ch->s.heap.get? b=some o->H b=none->h'.get? b=some o)
  (slot:∀ b o,b≠X.env.locals->b∈X.fs->b ∉ ch->s.heap.get? b=some o->H b=none->∃ sl,h'.get? b=some {o with slots:=sl}) (free:∀ b o,b ∉ ch->s.heap.get? b=some o->H b=none->H' b=none)
  (there:∀ b o,b ∉ ch->s.heap.get? b=some o->∃ o',h'.get? b=some o')
  (tups:∀ b xs,H b=some (.tup xs)->H' b=some (.tup xs)) (frzs:∀ b o u,H b=some (.frz o u)->H' b=some (.frz o u)) (tbls:∀ b ps,H b=some (.tbl ps)->∃ more,H' b=some (.tbl (ps++more)))
  (ns:∀ m,s.heap.Ns X.env.locals m->h'.Ns X.env.locals m) (hok:HOk X.prog X.w H' h') (hg:AllBare g') :
  Inv X pins σ H' {s with heap:=h',gens:=g',drawn:=d',toks:=t'}:=by
 have neL:∀ b o,X.s₀.heap.get? b=some o->b≠X.env.locals:=fun b o e=>Nat.ne_of_lt (Nat.lt_of_lt_of_le (Heap.lt_size e) I.ok.above)
 have neC:∀ b o,X.s₀.heap.get? b=some o->b ∉ X.ex->b ∉ ch:=fun b o e hx hb=>by
  rcases (hch b hb).1 with z | z
  ·exact hx z
  ·exact absurd (Nat.lt_of_lt_of_le (Heap.lt_size e) z) (Nat.lt_irrefl _)
 have cellK:∀ x c,X.env.cells.lookup x=some c->∀ v,s.heap.IsCell c v->h'.IsCell c v:=fun x c e v ⟨o,ho,hd⟩=>by
  have nch:c ∉ ch:=fun z=>(hch c z).2.2.1 x c e rfl
  by_cases hc:c∈X.fs
  ·obtain⟨sl,q⟩:=slot c o (I.cne x c e) hc nch ho (I.freeC x c e)
   exact⟨_,q,hd⟩
  ·exact⟨o,keep c o (I.cne x c e) hc nch ho (I.freeC x c e),hd⟩
 refine⟨I.ok,I.os,hg,⟨fun b o e n hb hx=>?_,fun b o e n hb hx=>?_,fun b o e n hx=>?_,fun b o e hx=>?_,fun b xs e=>tups b xs (I.base.tups b xs e),fun b o xs e=>frzs b o xs (I.base.frzs b o xs e),fun b ps e=>?_⟩,?_,fun x c e=>?_,?_,fun x c e=>?_,fun p hp=>?_,hok,I.len⟩
 ·exact keep b o (neL b o e) hb (neC b o e hx) (I.base.keep b o e n hb hx) (I.base.free b o e n hx)
 ·obtain⟨sl,e1⟩:=I.base.slot b o e n hb hx
  obtain⟨sl',e2⟩:=slot b _ (neL b o e) hb (neC b o e hx) e1 (I.base.free b o e n hx)
  exact⟨sl',e2⟩
 ·obtain⟨o',e1⟩:=I.base.there b o e hx
  exact free b o' (neC b o e hx) e1 (I.base.free b o e n hx)
 ·obtain⟨o',e1⟩:=I.base.there b o e hx
  exact there b o' (neC b o e hx) e1
 ·obtain⟨m1,e1⟩:=I.base.tbls b ps e
  obtain⟨m2,e2⟩:=tbls b _ e1
  exact⟨m1++m2,by rw[e2,Array.append_assoc]⟩
 ·obtain⟨m,hn,hl⟩:=I.loc
  refine⟨m,ns m hn,fun i x v e1 e2 e3=>?_⟩
  obtain⟨u,r,l⟩:=hl i x v e1 e2 e3
  refine⟨u,r,?_⟩
  rcases l with l | ⟨k,c,e,z⟩
  ·exact .inl l
  ·exact .inr ⟨k,c,e,cellK x c e _ z⟩
 ·obtain⟨v,z⟩:=I.cell x c e
  exact⟨v,cellK x c e v z⟩
 ·obtain⟨m,⟨o,_,_,ho,_⟩,_⟩:=I.loc
  exact free _ o (fun z=>(hch _ z).2.1 rfl) ho I.free
 ·obtain⟨v,o,ho,hd⟩:=I.cell x c e
  exact free c o (fun z=>(hch c z).2.2.1 x c e rfl) ho (I.freeC x c e)
 ·obtain⟨e,n,ne,nf,d⟩:=I.pin p hp
  have nch:p.1 ∉ ch:=fun z=>(hch p.1 z).2.2.2 p hp rfl
  exact⟨keep p.1 p.2 ne nf nch e n,free p.1 p.2 nch e n,ne,nf,d⟩
theorem Inv.un{t':Nat}(I:Inv X pins σ H s)(u:Un X.fs [] H H' s.heap h')(hok:HOk X.prog X.w H' h'):Inv X pins σ H' {s with heap:=h',toks:=t'}:=by
 obtain⟨m,⟨o,es,ep,ho,r⟩,_⟩:=id I.loc
 obtain⟨sl,hL⟩:=u.any ho I.free (by simp)
 exact I.step (g':=s.gens) (d':=s.drawn) (ch:=[]) (fun _ z=>nomatch z) (fun b o _ hb _ e n=>u.keep b o e n hb (by simp)) (fun b o _ hb _ e n=>u.slot b o e n hb (by simp)) (fun b o _ e n=>u.free b o e n (by simp)) (fun b o _ e=>u.there b o e (by simp)) u.tups u.frzs u.tbls (fun m' hm=>by
  obtain⟨o',es',ep',ho',r'⟩:=hm
  rw[ho]at ho';cases ho'
  exact⟨_,es',ep',hL,r'⟩) hok I.bare
theorem Inv.call{g':Array GenState}{t':Nat}{d':Drawn}{ch:List Addr}(I:Inv X pins σ H s)(u:Un (frs X.stack) ch H H' s.heap h')(hok:HOk X.prog X.w H' h')(hg:AllBare g')
  (hch:∀ b∈ch,(b∈X.ex\/X.s₀.heap.objs.size<=b)/\b≠X.env.locals/\(∀ x c,X.env.cells.lookup x=some c->c≠b)/\∀ p∈X.pn++pins,p.1≠b) :
  Inv X pins σ H' {s with heap:=h',gens:=g',drawn:=d',toks:=t'}:=by
 obtain⟨m,⟨o,es,ep,ho,r⟩,_⟩:=id I.loc
 obtain⟨sl,hL⟩:=u.any ho I.free fun z=>(hch _ z).2.1 rfl
 exact I.step (ch:=ch) hch (fun b o hL hb hc e n=>u.keep b o e n (fun z=>(List.mem_cons.mp (I.stkSub b z)).elim hL hb) hc) (fun b o _ _ hc e n=>u.any e n hc) (fun b o hc e n=>u.free b o e n hc) (fun b o hc e=>u.there b o e hc) u.tups u.frzs u.tbls (fun m' hm=>by
  obtain⟨o',es',ep',ho',r'⟩:=hm
  rw[ho]at ho';cases ho'
  exact⟨_,es',ep',hL,r'⟩) hok hg
theorem Inv.turned{t':Nat}{it:Addr}(I:Inv X pins σ H s)(k:∀ b o,b≠it->s.heap.get? b=some o->h'.get? b=some o)(hn:H it=none)(hL:it≠X.env.locals)
  (h1:it∈X.ex\/X.s₀.heap.objs.size<=it) (h2:∀ x c,X.env.cells.lookup x=some c->c≠it) (h3:∀ p∈X.pn++pins,p.1≠it):Inv X pins σ H {s with heap:=h',toks:=t'}:=by
 have nit:∀ b u,H b=some u->b≠it:=fun b u e z=>by rw[z,hn]at e;cases e
 refine I.step (g':=s.gens) (d':=s.drawn) (ch:=[it]) (fun b hb=>?_) (fun b o _ _ hc e _=>k b o (fun z=>hc (by simp[z])) e) (fun b o _ _ hc e _=>⟨o.slots,k b o (fun z=>hc (by simp[z])) e⟩) (fun _ _ _ _ n=>n)
  (fun b o hc e=>⟨o,k b o (fun z=>hc (by simp[z])) e⟩) (fun _ _ e=>e) (fun _ _ _ e=>e) (fun b ps e=>⟨#[],by rw[e];simp⟩) (fun m hm=>?_) (fun b u e=>?_) I.bare
 ·have e:b=it:=by simpa using hb
  subst e
  exact⟨h1,hL,h2,h3⟩
 ·obtain⟨o,es,ep,ho,r⟩:=hm
  exact⟨o,es,ep,k _ o (Ne.symm hL) ho,r⟩
 ·refine(I.hok b u e).stay (fun c v hc q=>k c v ?_ q) (fun _ q=>q) fun _ _ q=>q
  rcases hc with z | z
  ·rw[z];exact nit b u e
  ·exact nit c _ z
theorem Inv.tok(I:Inv X pins σ H s)(t:Nat):Inv X pins σ H {s with toks:=t}:=I.un (h':=s.heap) (t':=t) Un.refl I.hok
theorem Inv.kept{t':Nat}(I:Inv X pins σ H s)(k:∀ b u,s.heap.get? b=some u->h'.get? b=some u):Inv X pins σ H {s with heap:=h',toks:=t'}:=I.un (Un.kept k) (I.hok.kept k)
theorem Inv.laid{a:Addr}{o:HO}{t':Nat}(I:Inv X pins σ H s)(k:∀ b u,s.heap.get? b=some u->h'.get? b=some u)(hp:s.heap.objs.size<=a)(new:jN X.prog X.w (upd H a o) h' a o) :
  Inv X pins σ (upd H a o) {s with heap:=h',toks:=t'}:=I.un (Un.laid k hp (I.hok.fresh hp)) (I.hok.laid k hp new)
theorem Inv.write{x e:Addr}{o:HO}{t':Nat}(I:Inv X pins σ H s)(mu:Mut (H x))(he:e=x\/H e=some (.own x))(k:∀ b u,b≠e->s.heap.get? b=some u->h'.get? b=some u)(heo:∃ u,h'.get? e=some u)
  (new:jN X.prog X.w (upd H x o) h' x o):Inv X pins σ (upd H x o) {s with heap:=h',toks:=t'}:=I.un (Un.write mu he k heo) (I.hok.write mu he k heo new)
theorem Inv.pins_of{pins':List (Addr × Obj)}(I:Inv X pins σ H s)(h:∀ p∈pins',s.heap.get? p.1=some p.2/\H p.1=none/\p.1≠X.env.locals/\p.1 ∉ X.fs/\∀ v,p.2.data ≠ .cell v):Inv X pins' σ H s :=
 ⟨I.ok,I.os,I.bare,I.base,I.loc,I.cell,I.free,I.freeC,fun p hp=>(List.mem_append.mp hp).elim (fun z=>I.pin p (List.mem_append_left _ z)) (h p),I.hok,I.len⟩
theorem aJi{N:List Str}(hN:N.Nodup){i j:Nat}{x:Str}(a:N[i]?=some x)(b:N[j]?=some x):i=j:=by
 obtain⟨h1,e1⟩:=List.getElem?_eq_some_iff.mp a
 obtain⟨h2,e2⟩:=List.getElem?_eq_some_iff.mp b
 exact(List.getElem_inj hN).mp (e1.trans e2.symm)
theorem aGm{M:Model}{A:Around}{E:Value->Shared->Prop}{i:Nat}{x:Str}{v:V}{u:Value}{Q:Unit->Shared->Prop}(I:Inv X pins σ H s)(hN:X.N.Nodup)(hi:X.N[i]?=some x)(hx:Loc X.env.scope x)(r:RelV v u)
  (h:∀ s',Inv X pins (σ.set i (some v)) H s'->(∃ a,Heap.SameBut a s.heap s'.heap/\(a=X.env.locals\/X.env.cells.lookup x=some a))->Q () s') (hf:X.fn x=true\/X.env.scope.names.lookup x=some .local:=by first | exact .inl rfl | exact .inr rfl | assumption):wpAny M A (storeName X.env x u) Q E s:=by
 obtain⟨m,hn,hl⟩:=id I.loc
 have hcls:(X.env.scope.kind == .class||(X.env.scope.kind == .module&&X.env.locals != X.env.globals))=false:=by rw[I.ok.kind];rfl
 have hiσ:i<σ.length:=by rw[I.len];exact(List.getElem?_eq_some_iff.mp hi).1
 have cne:=I.cne
 have tracked:∀ {a:Addr} {h':Heap},(∃ o,s.heap.get? a=some o/\H a=none)->Heap.SameBut a s.heap h'->HOk X.prog X.w H h':=fun {a h'} ha hs b ob e=>by
  obtain⟨_,_,hfree⟩:=ha
  refine(I.hok b ob e).stay (fun c w' hc q=>(hs.2 c ?_).trans q) (fun _ q=>q) fun _ _ q=>q
  rintro rfl
  rcases hc with rfl | hc
  ·rw[hfree]at e;cases e
  ·rw[hfree]at hc;cases hc
 rcases hx with hk | hk
 ·refine wpAny_storeName_local hk hn (fun h' hn' hs=>?_) hcls
  obtain⟨oL,_,_,hoL,_⟩:=id hn
  refine h _ ⟨I.ok,I.os,I.bare,⟨fun b o e n hb hx=>?_,fun b o e n hb hx=>?_,I.base.free,fun b o e hx=>?_,I.base.tups,I.base.frzs,I.base.tbls⟩,⟨_,hn',fun j y v' e1 e2 e3=>?_⟩,fun y c e=>?_,I.free,I.freeC,fun p hp=>?_,tracked ⟨oL,hoL,I.free⟩ hs,by simpa using I.len⟩ ⟨_,hs,.inl rfl⟩
  ·exact(hs.2 b (Nat.ne_of_lt (Nat.lt_of_lt_of_le (Heap.lt_size e) I.ok.above))).trans (I.base.keep b o e n hb hx)
  ·obtain⟨sl,e1⟩:=I.base.slot b o e n hb hx
   exact⟨sl,(hs.2 b (Nat.ne_of_lt (Nat.lt_of_lt_of_le (Heap.lt_size e) I.ok.above))).trans e1⟩
  ·obtain⟨o',e1⟩:=I.base.there b o e hx
   exact⟨o',(hs.2 b (Nat.ne_of_lt (Nat.lt_of_lt_of_le (Heap.lt_size e) I.ok.above))).trans e1⟩
  ·by_cases hj:j=i
   ·subst hj
    rw[hi]at e1;cases e1
    rw[List.getElem?_set_self hiσ]at e2
    cases e2
    exact⟨u,r,.inl ⟨hk,by simp⟩⟩
   ·rw[List.getElem?_set_ne (Ne.symm hj)]at e2
    obtain⟨u',r',q⟩:=hl j y v' e1 e2 e3
    refine⟨u',r',?_⟩
    rcases q with ⟨k,e⟩ | ⟨k,c,e,z⟩
    ·refine .inl ⟨k,?_⟩
     have:y≠x:=fun e=>hj (aJi hN e1 (e ▸ hi))
     simp[this,e]
    ·exact .inr ⟨k,c,e,z.sameBut hs (cne y c e)⟩
  ·obtain⟨w',z⟩:=I.cell y c e
   exact⟨w',z.sameBut hs (cne y c e)⟩
  ·obtain⟨e,n,ne,nf,d⟩:=I.pin p hp
   exact⟨(hs.2 p.1 ne).trans e,n,ne,nf,d⟩
 ·have hfn:X.fn x=true:=by
   rcases hf with z | z
   ·exact z
   ·rw[z]at hk;cases hk
  obtain⟨c,hc⟩:=I.ok.has x (.inl hk)
  obtain⟨w',z⟩:=I.cell x c hc
  refine wpAny_storeName_cell I.ok.kind hk hc z (fun h' hc' hs=>?_)
  obtain⟨oc,hoc,hocd⟩:=id z
  refine h {s with heap:=h'} ⟨I.ok,I.os,I.bare,⟨fun b o e n hb hx=>?_,fun b o e n hb hx=>?_,I.base.free,fun b o e hx=>?_,I.base.tups,I.base.frzs,I.base.tbls⟩,⟨m,hn.sameBut hs (Ne.symm (cne x c hc)),fun j y v' e1 e2 e3=>?_⟩,fun y c' e=>?_,I.free,I.freeC,fun p hp=>?_,tracked ⟨oc,hoc,I.freeC x c hc⟩ hs,by simpa using I.len⟩ ⟨c,hs,.inr hc⟩
  ·exact(hs.2 b (Nat.ne_of_lt (Nat.lt_of_lt_of_le (Heap.lt_size e) (I.ok.cab x c hfn hc)))).trans (I.base.keep b o e n hb hx)
  ·obtain⟨sl,e1⟩:=I.base.slot b o e n hb hx
   exact⟨sl,(hs.2 b (Nat.ne_of_lt (Nat.lt_of_lt_of_le (Heap.lt_size e) (I.ok.cab x c hfn hc)))).trans e1⟩
  ·obtain⟨o',e1⟩:=I.base.there b o e hx
   exact⟨o',(hs.2 b (Nat.ne_of_lt (Nat.lt_of_lt_of_le (Heap.lt_size e) (I.ok.cab x c hfn hc)))).trans e1⟩
  ·by_cases hj:j=i
   ·subst hj
    rw[hi]at e1;cases e1
    rw[List.getElem?_set_self hiσ]at e2
    cases e2
    exact⟨u,r,.inr ⟨.inl hk,c,hc,hc'⟩⟩
   ·rw[List.getElem?_set_ne (Ne.symm hj)]at e2
    obtain⟨u',r',q⟩:=hl j y v' e1 e2 e3
    refine⟨u',r',?_⟩
    rcases q with q | ⟨k,c',e,z'⟩
    ·exact .inl q
    ·refine .inr ⟨k,c',e,z'.sameBut hs ?_⟩
     rintro rfl
     exact hj (aJi hN e1 (I.ok.inj _ _ _ e hc ▸ hi))
  ·by_cases hcc:c'=c
   ·subst hcc;exact⟨_,hc'⟩
   ·obtain⟨w2,z2⟩:=I.cell y c' e
    exact⟨w2,z2.sameBut hs hcc⟩
  ·obtain⟨e,n,ne,nf,d⟩:=I.pin p hp
   refine⟨(hs.2 p.1 ?_).trans e,n,ne,nf,d⟩
   intro q
   rw[q,hoc]at e
   have q':oc=p.2:=Option.some.inj e
   exact d w' (by rw[<-q'];exact hocd)
theorem store_ok{M:Model}{A:Around}{E:Value->Shared->Prop}{i:Nat}{x:Str}{v:V}{u:Value}{Q:Unit->Shared->Prop}(I:Inv X pins σ H s)(hN:X.N.Nodup)(hi:X.N[i]?=some x)(hx:Loc X.env.scope x)(r:RelV v u)
  (h:∀ s',Inv X pins (σ.set i (some v)) H s'->Q () s') (hf:X.fn x=true\/X.env.scope.names.lookup x=some .local:=by first | exact .inl rfl | exact .inr rfl | assumption):wpAny M A (storeName X.env x u) Q E s :=
 aGm I hN hi hx r (fun s' I' _=>h s' I') hf
theorem Inv.call'{s':Shared}{ch:List Addr}(I:Inv X pins σ H s)(ho:s'.os=s.os)(u:Un (frs X.stack) ch H H' s.heap s'.heap)(hok:HOk X.prog X.w H' s'.heap)(hg:AllBare s'.gens)
  (hch:∀ b∈ch,(b∈X.ex\/X.s₀.heap.objs.size<=b)/\b≠X.env.locals/\(∀ x c,X.env.cells.lookup x=some c->c≠b)/\∀ p∈X.pn++pins,p.1≠b):Inv X pins σ H' s':=by
 obtain⟨h',g',d',t',o'⟩:=s'
 have e:o'=s.os:=ho
 subst e
 exact I.call (g':=g') (t':=t') (d':=d') u hok hg hch
end
abbrev XK:=Value->Option Addr->Hp->Prop
abbrev St:=List (Option V)
abbrev VK:=V->Hp->Prop
abbrev TE:=St->Hp->VK->Prop
abbrev TT:=St->Hp->(Bool->Hp->Prop)->Prop
abbrev TA:=St->Hp->(List V->Hp->Prop)->Prop
structure Ends where
 nx:St->Hp->Prop
 rt:VK
 bk:St->Hp->Prop:=fun _ _=>False
 ct:St->Hp->Prop:=fun _ _=>False
abbrev TS:=Ends->St->Hp->Prop
def EP(X:Cx)(pins:List (Addr × Obj))(σ:St)(Q:VK)(u:Value)(s':Shared):Prop:=∃ v H',Inv X pins σ H' s'/\RelV v u/\Q v H'
def TP(X:Cx)(pins:List (Addr × Obj))(σ:St)(Q:Bool->Hp->Prop)(b:Bool)(s':Shared):Prop:=∃ H',Inv X pins σ H' s'/\Q b H'
def AP(X:Cx)(pins:List (Addr × Obj))(σ:St)(Q:List V->Hp->Prop)(us:List Value)(s':Shared):Prop:=∃ vs H',Inv X pins σ H' s'/\Vals vs us/\Q vs H'
def SP(X:Cx)(pins:List (Addr × Obj))(D:Ends)(f:Flow)(s':Shared):Prop :=
 match f with
 | .next=>∃ σ' H',Inv X pins σ' H' s'/\D.nx σ' H'
 | .brk=>∃ σ' H',Inv X pins σ' H' s'/\D.bk σ' H'
 | .cont=>∃ σ' H',Inv X pins σ' H' s'/\D.ct σ' H'
 | .ret u=>∃ v σ' H',Inv X pins σ' H' s'/\RelV v u/\D.rt v H'
def PE(X:Cx)(e:Expr)(t:TE):Prop :=
 ∀ (pins:List (Addr × Obj)) (s:Shared) (σ:St) (H:Hp) (Q:VK),Inv X pins σ H s->t σ H Q->wpAny (model X.prog X.w) X.A (eval e X.env) (EP X pins σ Q) X.xe s
def PT(X:Cx)(e:Expr)(t:TT):Prop :=
 ∀ (pins:List (Addr × Obj)) (s:Shared) (σ:St) (H:Hp) (Q:Bool->Hp->Prop),Inv X pins σ H s->t σ H Q->wpAny (model X.prog X.w) X.A (isTrue e X.env (eval e X.env)) (TP X pins σ Q) X.xe s
def PW(X:Cx)(e:Expr)(t:TT):Prop :=
 ∀ (whole:Sem Value) (pins:List (Addr × Obj)) (s:Shared) (σ:St) (H:Hp) (Q:Bool->Hp->Prop),Inv X pins σ H s->t σ H Q->wpAny (model X.prog X.w) X.A (isTrue e X.env whole) (TP X pins σ Q) X.xe s
theorem PW.pt{X:Cx}{e:Expr}{t:TT}(h:PW X e t):PT X e t:=h _
def PA(X:Cx)(es:List Expr)(t:TA):Prop :=
 ∀ (pos:Pos) (pins:List (Addr × Obj)) (s:Shared) (σ:St) (H:Hp) (Q:List V->Hp->Prop),Inv X pins σ H s->t σ H Q->wpAny (model X.prog X.w) X.A (spliced (backTo pos (starEach es X.env))) (AP X pins σ Q) X.xe s
def PS(X:Cx)(st:Stmt)(t:TS):Prop :=
 ∀ (pins:List (Addr × Obj)) (s:Shared) (σ:St) (H:Hp) (D:Ends),Inv X pins σ H s->t D σ H->wpAny (model X.prog X.w) X.A (exec st X.env) (SP X pins D) X.xe s
def PSs(X:Cx)(st:List Stmt)(t:TS):Prop :=
 ∀ (pins:List (Addr × Obj)) (s:Shared) (σ:St) (H:Hp) (D:Ends),Inv X pins σ H s->t D σ H->wpAny (model X.prog X.w) X.A (execs st X.env) (SP X pins D) X.xe s
theorem thn{α:Type}{t:Sem α}{Q Q':α->Shared->Prop}{M:Model}{A:Around}{E:Value->Shared->Prop}{s:Shared}(h:wpAny M A t Q E s)(hQ:∀ a s,Q a s->Q' a s):wpAny M A t Q' E s:=wpAny_mono h hQ fun _ _ x=>x
end L2
namespace L2
open PySem PySem.Spec PyProof.Rows
section
variable{X:Cx}
def bCm(i:Nat):TE:=fun σ H Q=>∃ v,σ[i]?=some (some v)/\Q v H
def tC(v:V):TE:=fun _ H Q=>Q v H
theorem tW{i:Nat}{x:Str}{pos:Pos}(hN:X.N[i]?=some x)(hv:Vis X.env.scope x)(hd:(x==("__debug__" : Str))=false:=by decide)(hcd:(x==("__classdict__" : Str))=false:=by decide):PE X (.Name x pos) (bCm i):=by
 intro pins s σ H Q I h
 obtain⟨v,e,h⟩:=h
 obtain⟨m,hn,hl⟩:=I.loc
 obtain⟨u,r,l⟩:=hl i x v hN e hv
 have fin:EP X pins σ Q u s:=⟨v,H,I,r,h⟩
 rcases l with ⟨hk,hm⟩ | ⟨hk,c,hc,hcell⟩
 ·exact wpAny_Name (wpAny_loadName_local I.ok.kind hk hn hm fin) hd
 ·rcases hk with hk | hk
  ·exact wpAny_Name (wpAny_loadName_cell I.ok.kind hk hc hcell fin) hd
  ·exact wpAny_Name (wpAny_loadName_free I.ok.kind hk hc hcell fin hcd) hd
theorem aZ8{i j pos}:PE X (.Constant (.int i) j pos) (tC (.int i)):=fun _ _ _ H _ I h=>wpAny_Constant_int ⟨.int i,H,I.tok _,⟨_,rfl⟩,h⟩
theorem bCn{b j pos}:PE X (.Constant (.bool b) j pos) (tC (.bl b)):=fun _ _ _ H _ I h=>Constant_bool ⟨.bl b,H,I,rfl,h⟩
theorem aZ9{j pos}:PE X (.Constant .none j pos) (tC .non):=fun _ _ _ H _ I h=>Constant_none ⟨.non,H,I,rfl,h⟩
theorem aZa{x j pos}:PE X (.Constant (.str x) j pos) (tC (.str x)):=fun _ _ _ H _ I h=>Calls.Constant_str ⟨.str x,H,I.tok _,⟨_,rfl⟩,h⟩
def Gl(X:Cx)(x:Str):Prop:=X.env.kindOf x=some .globalImplicit
theorem aDp{E:Value->Shared->Prop}{pins:List (Addr × Obj)}{s:Shared}{σ:St}{H:Hp}{x:Str}{u:Value}{pos:Pos}{Q:Value->Shared->Prop}(I:Inv X pins σ H s)(hg:Gl X x)(hm:X.mg x=some u)(h:Q u s)
  (hd:(x==("__debug__" : Str))=false:=by decide):wpAny (model X.prog X.w) X.A (eval (.Name x pos) X.env) Q E s :=
 Calls.Name_function_global I.ok.kind hg (Calls.loadGlobal_global (by rw[I.ok.glob];exact I.mod.glob.keeps I.bk) hm h) hd
theorem zR{E:Value->Shared->Prop}{pins:List (Addr × Obj)}{s:Shared}{σ:St}{H:Hp}{x:Str}{u:Value}{pos:Pos}{Q:Value->Shared->Prop}(I:Inv X pins σ H s)(hg:Gl X x)(hm:X.mg x=none)(hv:bootBuiltins x=some u)(h:Q u s)
  (hn:x ≠ "__name__" := by decide) (hd:(x==("__debug__" : Str))=false:=by decide):wpAny (model X.prog X.w) X.A (eval (.Name x pos) X.env) Q E s:=by
 obtain⟨mb,h1,h2⟩:=I.mod.blt
 exact Calls.Name_function_global I.ok.kind hg (Calls.loadGlobal_builtin (by rw[I.ok.glob];exact I.mod.glob.keeps I.bk) hm (by rw[I.ok.blt];exact h1.keeps I.bk) ((h2 x hn).trans hv) h) hd
theorem aNg{x:Str}{v:V}{u:Value}{pos:Pos}(hg:Gl X x)(hm:X.mg x=some u)(r:RelV v u)(hd:(x==("__debug__" : Str))=false:=by decide):PE X (.Name x pos) (tC v) :=
 fun _ _ _ H _ I h=>aDp I hg hm ⟨v,H,I,r,h⟩ hd
theorem aVr{x:Str}{v:V}{u:Value}{pos:Pos}(hg:Gl X x)(hm:X.mg x=none)(hv:bootBuiltins x=some u)(r:RelV v u)(hn:x ≠ "__name__" := by decide)(hd:(x==("__debug__" : Str))=false:=by decide):PE X (.Name x pos) (tC v) :=
 fun _ _ _ H _ I h=>zR I hg hm hv ⟨v,H,I,r,h⟩ hn hd
variable{a b:Expr}{ta tb:TE}{pos:Pos}
def tB(t:TE):TT:=fun σ H Q=>t σ H fun x H1=>∃ c,x = .bl c/\Q c H1
theorem aZb{e:Expr}{t:TE}(h:PE X e t)(he:∀ whole,isTrue e X.env whole=(do let v <- whole;standAt e.pos;holding [v] (truthy v)):=by intro _;rfl):PT X e (tB t):=by
 intro pins s σ H Q I hw
 refine isTrue_plain (thn (h pins s σ H _ I hw) fun v s1 ⟨x,H1,I1,r1,q1⟩=>?_) (he _)
 obtain⟨d,rfl,q⟩:=q1
 cases r1
 exact wpAny_truthy_bool ⟨H1,I1,q⟩
variable{tA tB':TT}{rest:List Expr}
def bG3(t u:TT):TT:=fun σ H Q=>t σ H fun c H1=>if c=true then u σ H1 Q else Q false H1
def tOr(t u:TT):TT:=fun σ H Q=>t σ H fun c H1=>if c=true then Q true H1 else u σ H1 Q
def bG4(t:TT):TT:=fun σ H Q=>t σ H fun c H1=>Q (!c) H1
theorem aVs(ha:PT X a tA):PW X (.BoolOp .And [a] pos) tA:=by
 intro wh pins s σ H Q I h
 refine isTrue_and (thn (ha pins s σ H Q I h) fun c s1 e=>?_)
 cases c with
 | true=>exact isTrue_and_nil e
 | false=>exact e
theorem aZc(ha:PT X a tA):PW X (.BoolOp .Or [a] pos) tA:=by
 intro wh pins s σ H Q I h
 refine isTrue_or (thn (ha pins s σ H Q I h) fun c s1 e=>?_)
 cases c with
 | false=>exact isTrue_or_nil e
 | true=>exact e
theorem aZd(ha:PT X a tA)(hb:PW X (.BoolOp .And (b::rest) pos) tB'):PW X (.BoolOp .And (a::b::rest) pos) (bG3 tA tB'):=by
 intro wh pins s σ H Q I h
 refine isTrue_and (thn (ha pins s σ H _ I h) fun c s1 ⟨H1,I1,q1⟩=>?_)
 cases c with
 | true=>exact hb wh pins s1 σ H1 Q I1 q1
 | false=>exact⟨H1,I1,q1⟩
theorem bCo(ha:PT X a tA)(hb:PW X (.BoolOp .Or (b::rest) pos) tB'):PW X (.BoolOp .Or (a::b::rest) pos) (tOr tA tB'):=by
 intro wh pins s σ H Q I h
 refine isTrue_or (thn (ha pins s σ H _ I h) fun c s1 ⟨H1,I1,q1⟩=>?_)
 cases c with
 | true=>exact⟨H1,I1,q1⟩
 | false=>exact hb wh pins s1 σ H1 Q I1 q1
theorem aZe(ha:PT X a tA):PT X (.UnaryOp .Not a pos) (bG4 tA):=by
 intro pins s σ H Q I h
 exact isTrue_not (ha pins s σ H (fun c H1=>Q (!c) H1) I h)
def bCp(ta tb:TE):TE:=fun σ H Q=>ta σ H fun x H1=>∃ c,x = .bl c/\if c=true then tb σ H1 Q else Q (.bl false) H1
def bG5(ta tb:TE):TE:=fun σ H Q=>ta σ H fun x H1=>∃ c,x = .bl c/\if c=true then Q (.bl true) H1 else tb σ H1 Q
def bCq(ta:TE):TE:=fun σ H Q=>ta σ H fun x H1=>∃ c,x = .bl c/\Q (.bl (!c)) H1
theorem aRy{op}{t:TE}(h:PE X a t):PE X (.BoolOp op [a] pos) t:=fun pins s σ H Q I hw=>BoolOp_one (h pins s σ H Q I hw)
theorem aZf(ha:PE X a ta)(hb:PE X (.BoolOp .And (b::rest) pos) tb):PE X (.BoolOp .And (a::b::rest) pos) (bCp ta tb):=by
 intro pins s σ H Q I h
 refine BoolOp_and (thn (ha pins s σ H _ I h) fun v s1 ⟨x,H1,I1,r1,q1⟩=>?_)
 obtain⟨c,rfl,q1⟩:=q1
 cases r1
 refine wpAny_truthy_bool ?_
 cases c with
 | true=>exact hb pins s1 σ H1 Q I1 q1
 | false=>exact⟨.bl false,H1,I1,rfl,q1⟩
theorem bCr(ha:PE X a ta)(hb:PE X (.BoolOp .Or (b::rest) pos) tb):PE X (.BoolOp .Or (a::b::rest) pos) (bG5 ta tb):=by
 intro pins s σ H Q I h
 refine BoolOp_or (thn (ha pins s σ H _ I h) fun v s1 ⟨x,H1,I1,r1,q1⟩=>?_)
 obtain⟨c,rfl,q1⟩:=q1
 cases r1
 refine wpAny_truthy_bool ?_
 cases c with
 | false=>exact hb pins s1 σ H1 Q I1 q1
 | true=>exact⟨.bl true,H1,I1,rfl,q1⟩
theorem aZg(ha:PE X a ta):PE X (.UnaryOp .Not a pos) (bCq ta):=by
 intro pins s σ H Q I h
 refine UnaryOp_ (thn (ha pins s σ H _ I h) fun v s1 ⟨x,H1,I1,r1,q1⟩=>?_)
 obtain⟨c,rfl,q1⟩:=q1
 cases r1
 exact not_of (wpAny_truthy_bool ⟨.bl (!c),H1,I1,rfl,q1⟩)
end
end L2
namespace L2
open PySem PySem.Spec PyProof.Rows
def SqL(K:PySem.W.Frag)(H:Hp)(a:Addr)(xs:List V):Prop :=
 Rd H a (.lst xs) \/
  ∃ (o:Obj) (its:Array Value) (n:Nat),K.lookup a=some o/\o.cls = .type "list" /\ o.dict=none/\o.data = .seq its n/\its.size<=sizeLine/\Vals xs its.toList
def SqT(K:PySem.W.Frag)(H:Hp)(a:Addr)(xs:List V):Prop :=
 Rd H a (.tup xs) \/
  ∃ (o:Obj) (its:Array Value) (n:Nat),K.lookup a=some o/\o.cls = .type "tuple" /\ o.data = .seq its n/\its.size<=sizeLine/\Vals xs its.toList
def bG6:Value->Option V
 | .none=>some .non
 | .bool b=>some (.bl b)
 | .int i _=>some (.int i)
 | .str x _=>some (.str x)
 | .bytes b _=>some (.byt b)
 | .float b _=>some (.flt b)
 | .ref a=>some (.ref a)
 | .type n=>some (.ty n)
 | _=>none
theorem RelV.abs{x:V}{u:Value}(r:RelV x u):bG6 u=some x:=by
 cases x with
 | non=>cases r;rfl
 | bl _=>cases r;rfl
 | int _=>obtain⟨t,rfl⟩:=r;rfl
 | str _=>obtain⟨t,rfl⟩:=r;rfl
 | byt _=>obtain⟨t,rfl⟩:=r;rfl
 | flt _=>obtain⟨t,rfl⟩:=r;rfl
 | ref _=>cases r;rfl
 | ty _=>cases r;rfl
theorem RelV.inj{x y:V}{u:Value}(r:RelV x u)(q:RelV y u):x=y:=Option.some.inj (r.abs.symm.trans q.abs)
theorem Vals.inj:∀ {xs ys:List V} {us:List Value},Vals xs us->Vals ys us->xs=ys
 | _,_,_,.nil,.nil=>rfl
 | _,_,_,.cons r t,.cons r' t'=>by rw[r.inj r',Vals.inj t t']
section
variable{X:Cx}{pins:List (Addr × Obj)}{σ:St}{H:Hp}{s:Shared}{a:Addr}{xs ys:List V}
theorem SqL.of{K:PySem.W.Frag}(h:H a=some (.lst xs)):SqL K H a xs := .inl (.inl h)
theorem SqT.of{K:PySem.W.Frag}(h:H a=some (.tup xs)):SqT K H a xs := .inl (.inl h)
theorem Inv.list(I:Inv X pins σ H s)(h:SqL X.K H a xs):∃ its:List Value,Vals xs its/\PlainL s.heap a its.toArray/\xs.length<=sizeLine:=by
 rcases h with h | ⟨o,its,n,hk,hc,hd,hs,hz,r⟩
 ·obtain⟨z,its,n,r,e⟩:=h.ok I.hok
  exact⟨its,r,⟨_,n,e,rfl,rfl,rfl⟩,z⟩
 ·refine⟨its.toList,r,⟨o,n,I.kIn a o hk,hc,hd,by simpa using hs⟩,?_⟩
  have e:=r.length
  simp only[Array.length_toList]at e
  omega
theorem Inv.tuple(I:Inv X pins σ H s)(h:SqT X.K H a xs):∃ its:List Value,Vals xs its/\IsTup s.heap a its.toArray/\xs.length<=sizeLine:=by
 rcases h with h | ⟨o,its,n,hk,hc,hs,hz,r⟩
 ·obtain⟨z,its,r,p⟩:=h.ok I.hok
  exact⟨its,r,p,z⟩
 ·refine⟨its.toList,r,⟨o,I.kIn a o hk,hc,n,by simpa using hs⟩,?_⟩
  have e:=r.length
  simp only[Array.length_toList]at e
  omega
theorem Inv.list_inj(I:Inv X pins σ H s)(h:SqL X.K H a xs)(h':SqL X.K H a ys):xs=ys:=by
 obtain⟨its,r,⟨o,n,e,_,_,d⟩,_⟩:=I.list h
 obtain⟨its',r',⟨o',n',e',_,_,d'⟩,_⟩:=I.list h'
 rw[e]at e';cases e'
 rw[d]at d'
 injection d' with d1 _
 have:its=its':=by simpa using congrArg Array.toList d1
 subst this
 exact r.inj r'
theorem Inv.tuple_inj(I:Inv X pins σ H s)(h:SqT X.K H a xs)(h':SqT X.K H a ys):xs=ys:=by
 obtain⟨its,r,⟨o,e,_,n,d⟩,_⟩:=I.tuple h
 obtain⟨its',r',⟨o',e',_,n',d'⟩,_⟩:=I.tuple h'
 rw[e]at e';cases e'
 rw[d]at d'
 injection d' with d1 _
 have:its=its':=by simpa using congrArg Array.toList d1
 subst this
 exact r.inj r'
end
abbrev Cx.wish(X:Cx)(E:Value->Shared->Prop):Cx:={X with xe:=E}
abbrev Cx.nox(X:Cx):Cx:=X.wish fun _ _=>False
theorem Cx.Ok.wish{X:Cx}(ok:X.Ok)(E:Value->Shared->Prop):(X.wish E).Ok :=
 ⟨ok.mod,ok.kind,ok.glob,ok.blt,ok.above,ok.inj,ok.has,ok.cab,ok.hd,ok.frames,ok.stk,ok.exf,ok.bs,ok.bsz,ok.noex,ok.exfs,ok.funs,ok.frf⟩
theorem Cx.Ok.unwish{X:Cx}{E:Value->Shared->Prop}(ok:(X.wish E).Ok):X.Ok :=
 ⟨ok.mod,ok.kind,ok.glob,ok.blt,ok.above,ok.inj,ok.has,ok.cab,ok.hd,ok.frames,ok.stk,ok.exf,ok.bs,ok.bsz,ok.noex,ok.exfs,ok.funs,ok.frf⟩
section
variable{X:Cx}{pins:List (Addr × Obj)}{σ:St}{H:Hp}{s:Shared}{E:Value->Shared->Prop}
theorem Inv.wish(I:Inv X pins σ H s)(E:Value->Shared->Prop):Inv (X.wish E) pins σ H s:=⟨I.ok.wish E,I.os,I.bare,I.base,I.loc,I.cell,I.free,I.freeC,I.pin,I.hok,I.len⟩
theorem Inv.unwish(I:Inv (X.wish E) pins σ H s):Inv X pins σ H s:=⟨I.ok.unwish,I.os,I.bare,I.base,I.loc,I.cell,I.free,I.freeC,I.pin,I.hok,I.len⟩
theorem SP.unwish{D:Ends}{f:Flow}{s':Shared}(h:SP (X.wish E) pins D f s'):SP X pins D f s':=by
 cases f with
 | next=>obtain⟨σ',H',I,q⟩:=h;exact⟨σ',H',I.unwish,q⟩
 | brk=>obtain⟨σ',H',I,q⟩:=h;exact⟨σ',H',I.unwish,q⟩
 | cont=>obtain⟨σ',H',I,q⟩:=h;exact⟨σ',H',I.unwish,q⟩
 | ret u=>obtain⟨v,σ',H',I,r,q⟩:=h;exact⟨v,σ',H',I.unwish,r,q⟩
theorem PSs.nox{st:List Stmt}{t:TS}(h:PSs X.nox st t):PSs X st t:=fun pins s σ H D I hw =>
 wpAny_mono (h pins s σ H D (I.wish _) hw) (fun _ _ q=>q.unwish) fun _ _ z=>False.elim z
end
section
variable{X:Cx}{st:Stmt}{rest:List Stmt}{t u:TS}{e:Expr}{te:TE}{pos:Pos}
def bCs:TS:=fun D σ H=>D.nx σ H
def bG7(t u:TS):TS:=fun D σ H=>t {D with nx:=u D} σ H
theorem aNh:PSs X [] bCs:=fun _ _ σ H _ I h=>wpAny_execs_nil ⟨σ,H,I,h⟩
theorem aAn(h1:PS X st t)(h2:PSs X rest u):PSs X (st::rest) (bG7 t u):=by
 intro pins s σ H D I h
 refine wpAny_execs_cons (thn (h1 pins s σ H {D with nx:=u D} I h) fun f s1 q=>?_)
 cases f with
 | next =>
  obtain⟨σ',H',I',q⟩:=q
  exact h2 pins s1 σ' H' D I' q
 | ret v=>exact q
 | brk=>exact q
 | cont=>exact q
theorem aDq(h1:PS X st t):PSs X [st] t:=by
 intro pins s σ H D I h
 refine wpAny_execs_cons (thn (h1 pins s σ H D I h) fun f s1 q=>?_)
 cases f with
 | next=>exact wpAny_execs_nil q
 | ret v=>exact q
 | brk=>exact q
 | cont=>exact q
theorem Inv.quiet{pins:List (Addr × Obj)}{σ:St}{H:Hp}{s:Shared}(I:Inv X pins σ H s):interactive X.env=false:=by simp[interactive,I.ok.kind]
def bCt(te:TE):TS:=fun D σ H=>te σ H fun _ H1=>D.nx σ H1
theorem aHv(he:PE X e te)(hs:swapsWith e none pos.line X.env=pure false:=by rfl):PS X (.Expr e pos) (bCt te):=by
 intro pins s σ H D I h
 exact wpAny_Expr_any (thn (he pins s σ H _ I h) fun v s1 ⟨x,H1,I1,r1,q1⟩=>⟨σ,H1,I1,q1⟩) I.quiet hs
def bG8(te:TE):TS:=fun D σ H=>te σ H D.rt
theorem aLp(he:PE X e te):PS X (.Return (some e) pos) (bG8 te):=by
 intro pins s σ H D I h
 exact wpAny_Return_some (thn (he pins s σ H _ I h) fun v s1 ⟨x,H1,I1,r1,q1⟩=>⟨x,σ,H1,I1,r1,q1⟩)
def bG9(c:TT)(t u:TS):TS:=fun D σ H=>c σ H fun b H1=>if b=true then t D σ H1 else u D σ H1
theorem aYl{c:Expr}{a b:List Stmt}{tc:TT}(hc:PT X c tc)(ha:PSs X a t)(hb:PSs X b u):PS X (.If c a b pos) (bG9 tc t u):=by
 intro pins s σ H D I h
 refine wpAny_If (thn (hc pins s σ H _ I h) fun d s1 ⟨H1,I1,q1⟩=>?_)
 cases d with
 | true=>exact ha pins s1 σ H1 D I1 q1
 | false=>exact hb pins s1 σ H1 D I1 q1
end
abbrev TG:=V->St->Hp->(St->Hp->Prop)->Prop
abbrev TGs:=List V->St->Hp->(St->Hp->Prop)->Prop
def PG(X:Cx)(target:Expr)(t:TG):Prop :=
 ∀ (pins:List (Addr × Obj)) (s:Shared) (σ:St) (H:Hp) (v:V) (u:Value) (Q:St->Hp->Prop),Inv X pins σ H s->RelV v u->t v σ H Q ->
  wpAny (model X.prog X.w) X.A (assign target X.env u) (fun _ s'=>∃ σ' H',Inv X pins σ' H' s'/\Q σ' H') X.xe s
def PGs(X:Cx)(ts:List Expr)(t:TGs):Prop :=
 ∀ (pins:List (Addr × Obj)) (s:Shared) (σ:St) (H:Hp) (vs:List V) (us:List Value) (Q:St->Hp->Prop),Inv X pins σ H s->Vals vs us->t vs σ H Q ->
  wpAny (model X.prog X.w) X.A (assignInOrder ((assignEach ts X.env).map (·.2)) us) (fun _ s'=>∃ σ' H',Inv X pins σ' H' s'/\Q σ' H') X.xe s
abbrev aZh:=V->V->V->Hp->(Hp->Prop)->Prop
def aZi(X:Cx)(t:aZh):Prop :=
 ∀ (pins:List (Addr × Obj)) (s:Shared) (σ:St) (H:Hp) (o i v:V) (ov iv u:Value) (Q:Hp->Prop),Inv X pins σ H s->RelV o ov->RelV i iv->RelV v u->t o i v H Q ->
  wpAny (model X.prog X.w) X.A (setItem ov iv u) (fun _ s'=>∃ H',Inv X pins σ H' s'/\Q H') X.xe s
section
variable{X:Cx}{pos:Pos}
def aYm(i:Nat):TG:=fun v σ H Q=>Q (σ.set i (some v)) H
theorem aVt{i:Nat}{x:Str}(hN:X.N.Nodup)(hi:X.N[i]?=some x)(hx:Loc X.env.scope x)(hf:X.fn x=true\/X.env.scope.names.lookup x=some .local:=by first | exact .inl rfl | exact .inr rfl | assumption):PG X (.Name x pos) (aYm i):=by
 intro pins s σ H v u Q I r h
 exact wpAny_assign_Name (store_ok I hN hi hx r (fun s' I'=>⟨_,H,I',h⟩) hf)
def bGa:TGs:=fun vs σ H Q=>vs=[]/\Q σ H
def bCu(t:TG)(u:TGs):TGs:=fun vs σ H Q=>∃ v r,vs=v::r/\t v σ H fun σ' H'=>u r σ' H' Q
theorem aVu:PGs X [] bGa:=by
 intro pins s σ H vs us Q I r h
 obtain⟨e,h⟩:=h
 subst e
 cases r
 exact assignInOrder_nil ⟨σ,H,I,h⟩
theorem aRz{e:Expr}{es:List Expr}{t:TG}{u:TGs}(h1:PG X e t)(h2:PGs X es u)
  (hs:(assignEach (e::es) X.env).map (·.2)=assign e X.env::(assignEach es X.env).map (·.2):=by rfl):PGs X (e::es) (bCu t u):=by
 intro pins s σ H vs us Q I r h
 obtain⟨v,vr,e1,h⟩:=h
 subst e1
 cases r with
 | cons r rr =>
  rw[hs]
  refine assignInOrder_cons (thn (h1 pins s σ H _ _ _ I r h) fun _ s1 ⟨σ1,H1,I1,q1⟩=>?_)
  exact h2 pins s1 σ1 H1 _ _ Q I1 rr q1
def bGb(K:PySem.W.Frag)(n:Nat)(t:TGs):TG:=fun v σ H Q=>∃ a xs,v = .ref a/\SqT K H a xs/\xs.length=n/\t xs σ H Q
theorem aZj{es:List Expr}{k:Nat}{t:TGs}{n:Nat}(hc:X.calm=true)(h:PGs X es t)
  (hn:(assignEach es X.env).length=n:=by rfl) (hst:(assignEach es X.env).findIdx? (·.1)=none:=by rfl):PG X (.Tuple es k pos) (bGb X.K n t):=by
 intro pins s σ H v u Q I r hw
 obtain⟨a,xs,e1,hq,hl,hw⟩:=hw
 subst e1
 cases r
 obtain⟨its,rv,ht,hz⟩:=I.tuple hq
 refine assign_Tuple_tuple (I.ok.hd hc) ht (by simp[hn,<-hl,rv.length]) hst fun h' hx=>?_
 have I1:Inv X pins σ H {s with heap:=h'}:=I.kept (t':=s.toks) fun b o e=>hx b o (Nat.ne_of_lt (Heap.lt_size e)) e
 exact h pins _ σ H xs _ Q I1 (by simpa using rv) hw
def bGc(to ti:TE)(t:aZh):TG:=fun v σ H Q=>to σ H fun o H1=>ti σ H1 fun i H2=>t o i v H2 fun H3=>Q σ H3
theorem aS0{o i:Expr}{to ti:TE}{t:aZh}(ho:PE X o to)(hi:PE X i ti)(hs:aZi X t)
  (ha:∀ v,assign (.Subscript o i pos) X.env v=(do
   let ov <- holding [v] (eval o X.env)
   let iv <- holding [v,ov] (eval i X.env)
   standAt pos
   holding [v,ov,iv] (setItem ov iv v)
   release [v,ov,iv] []):=by intro _;rfl):PG X (.Subscript o i pos) (bGc to ti t):=by
 intro pins s σ H v u Q I r h
 rw[ha]
 refine wpAny_bind (wpAny_holding (thn (ho pins s σ H _ I h) fun ov s1 ⟨x,H1,I1,r1,q1⟩=>?_))
 refine wpAny_bind (wpAny_holding (thn (hi pins s1 σ H1 _ I1 q1) fun iv s2 ⟨y,H2,I2,r2,q2⟩=>?_))
 refine wpAny_bind (wpAny_standAt (wpAny_bind (wpAny_holding (thn (hs pins s2 σ H2 x y v ov iv u _ I2 r1 r2 r q2) fun _ s3 ⟨H3,I3,q3⟩=>?_))))
 exact wpAny_release ⟨σ,H3,I3,q3⟩
def bCv(te:TE)(g:TG):TS:=fun D σ H=>te σ H fun x H1=>g x σ H1 D.nx
theorem aLq{tg e:Expr}{te:TE}{g:TG}(he:PE X e te)(hg:PG X tg g)(hs:swapsWithSole [tg] e pos.line X.env=pure false:=by rfl)(hw:swappedStores [tg] e X.env=pure none:=by rfl)
  (h1:(assignEach [tg] X.env).map (·.2)=[assign tg X.env]:=by rfl):PS X (.Assign [tg] e pos) (bCv te g):=by
 intro pins s σ H D I h
 refine wpAny_Assign_stores (thn (he pins s σ H _ I h) fun v s1 ⟨x,H1,I1,r1,q1⟩=>?_) hs hw
 rw[h1]
 exact thn (hg pins s1 σ H1 x v _ I1 r1 q1) fun _ s2 q=>q
theorem aE6{i:Nat}{x:Str}{e:Expr}{te:TE}{pos':Pos}(hN:X.N.Nodup)(hi:X.N[i]?=some x)(hx:Loc X.env.scope x)(he:PE X e te)(hs:swapsWith e (some (.Name x pos')) pos.line X.env=pure false:=by rfl)(hf:X.fn x=true\/X.env.scope.names.lookup x=some .local:=by first | exact .inl rfl | exact .inr rfl | assumption) :
  PS X (.Assign [.Name x pos'] e pos) (bCv te (aYm i)):=by
 intro pins s σ H D I h
 refine wpAny_Assign_Name (thn (he pins s σ H _ I h) fun v s1 ⟨y,H1,I1,r1,q1⟩=>?_) hs
 exact store_ok I1 hN hi hx r1 (fun s2 I2=>⟨_,H1,I2,q1⟩) hf
end
section
variable{X:Cx}{pos:Pos}
def aZk(c:TT)(tb:TS):TS:=fun D σ H=>∃ W:Nat->St->Hp->Prop,(∃ m,W m σ H)/\∀ m σ H,W m σ H ->
 c σ H fun b H1=>if b=true then ∃ N:St->Hp->Prop,(∀ σ' H',N σ' H'->∃ m',m' < m/\W m' σ' H')/\tb {D with nx:=N,ct:=N,bk:=D.nx} σ H1 else D.nx σ H1
theorem aS1{c:Expr}{body:List Stmt}{tc:TT}{tb:TS}(hp:PassesOwn (model X.prog X.w) X.A X.env X.xe)(hc:PT X c tc)(hb:PSs X body tb):PS X (.While c body [] pos) (aZk tc tb):=by
 intro pins s σ H D I h
 obtain⟨W,⟨m0,w0⟩,turn⟩:=h
 refine wpAny_While (codeAny_whileLoop (fun n s'=>∃ σ' H',Inv X pins σ' H' s'/\W n σ' H') ?_ m0 ⟨σ,H,I,w0⟩)
 rintro n s1 ⟨σ1,H1,I1,w1⟩
 refine wpAny_passesOwn hp (thn (hc pins s1 σ1 H1 _ I1 (turn n σ1 H1 w1)) fun b s2 ⟨H2,I2,q2⟩=>?_)
 cases b with
 | true =>
  obtain⟨N,hN,q2⟩:=q2
  rw[if_pos rfl]
  refine wpAny_passesOwn hp (thn (hb pins s2 σ1 H2 _ I2 q2) fun f s3 q3=>?_)
  cases f with
  | next =>
   obtain⟨σ3,H3,I3,n3⟩:=q3
   obtain⟨m',hm,w3⟩:=hN σ3 H3 n3
   exact⟨m',hm,σ3,H3,I3,w3⟩
  | cont =>
   obtain⟨σ3,H3,I3,n3⟩:=q3
   obtain⟨m',hm,w3⟩:=hN σ3 H3 n3
   exact⟨m',hm,σ3,H3,I3,w3⟩
  | brk=>exact q3
  | ret v=>exact q3
 | false =>
  rw[if_neg Bool.false_ne_true]
  exact wpAny_execs_nil ⟨σ1,H2,I2,q2⟩
end
structure It where
 go:Nat->Hp->Prop
 yld:Nat->Hp->V->Hp->Prop
 stop:Nat->Hp->Prop
def aAo(X:Cx)(pins:List (Addr × Obj))(H:Hp)(b:Addr):Prop :=
 H b=none/\b≠X.env.locals/\b ∉ X.fs/\(b∈X.ex\/X.s₀.heap.objs.size<=b)/\(∀ x c,X.env.cells.lookup x=some c->c≠b)/\∀ p∈X.pn++pins,p.1≠b
theorem Inv.fpOk{X:Cx}{pins:List (Addr × Obj)}{σ:St}{H H':Hp}{s:Shared}{b:Addr}(I:Inv X pins σ H s)(hb:s.heap.objs.size<=b)(hn:H' b=none):aAo X pins H' b:=by
 refine⟨hn,Nat.ne_of_gt (Nat.lt_of_lt_of_le I.lt hb),I.nofs hb,.inr (Nat.le_trans I.sz hb),fun x c e z=>?_,fun p hp z=>?_⟩
 ·obtain⟨v,q⟩:=I.cell x c e
  exact absurd (Nat.lt_of_lt_of_le q.lt (by rw[z];exact hb)) (Nat.lt_irrefl _)
 ·exact absurd (Nat.lt_of_lt_of_le (Heap.lt_size (I.pin p hp).1) (by rw[z];exact hb)) (Nat.lt_irrefl _)
structure Turn(P:Program)(w:World)(K:PySem.W.Frag)(tg:Expr)(J:It)(fp:List Addr)(it:Addr)(tn:Nat->Heap->Prop):Prop where
 mem:it∈fp
 obj:∀ i h,tn i h->∀ b∈fp,∃ o,h.get? b=some o/\∀ v,o.data ≠ .cell v
 keep:∀ i h h',tn i h->(∀ b∈fp,∀ o,h.get? b=some o->h'.get? b=some o)->tn i h'
 item:∀ (X:Cx),X.prog=P->X.w=w->X.K=K->X.calm=true->∀ (i:Nat) (pins:List (Addr × Obj)) (s:Shared) (σ:St) (H:Hp) (E:Value->Shared->Prop),Inv X pins σ H s->(∀ b∈fp,aAo X pins H b)->tn i s.heap->J.go i H ->
  wpAny (model P w) X.A (pyNext (.ref it)) (fun r s1=>∃ u,r=some u /\
   wpAny (model P w) X.A (letOwnedTupleGo tg (.ref it) u) (fun _ s2=>∃ x H',Inv X pins σ H' s2/\RelV x u/\J.yld i H x H'/\tn (i+1) s2.heap/\∀ b∈fp,H' b=none) E s1) E s
 done:∀ (X:Cx),X.prog=P->X.w=w->X.K=K->X.calm=true->∀ (i:Nat) (pins:List (Addr × Obj)) (s:Shared) (σ:St) (H:Hp) (E:Value->Shared->Prop),Inv X pins σ H s->(∀ b∈fp,aAo X pins H b)->tn i s.heap->J.stop i H ->
  wpAny (model P w) X.A (pyNext (.ref it)) (fun r s1=>r=none/\Inv X pins σ H s1) E s
 self:∀ (A:Around) (i:Nat) (s:Shared) (Q:Value->Shared->Prop) (E:Value->Shared->Prop),tn i s.heap->Q (.ref it) s->wpAny (model P w) A (pyIter (.ref it)) Q E s
abbrev TI:=St->Hp->(It->Hp->Prop)->Prop
def PIE(X:Cx)(pins:List (Addr × Obj))(σ:St)(tg:Expr)(R:It->Hp->Prop)(itv:Value)(s2:Shared):Prop :=
 ∃ (it:Addr) (fp:List Addr) (tn:Nat->Heap->Prop) (J:It) (H':Hp),itv = .ref it/\Inv X pins σ H' s2/\Turn X.prog X.w X.K tg J fp it tn/\tn 0 s2.heap/\(∀ b∈fp,aAo X pins H' b)/\R J H'
def PI(X:Cx)(tg iter:Expr)(wi:TI):Prop :=
 ∀ (pins:List (Addr × Obj)) (s:Shared) (σ:St) (H:Hp) (R:It->Hp->Prop),Inv X pins σ H s->wi σ H R ->
  wpAny (model X.prog X.w) X.A (eval iter X.env) (fun v s1=>wpAny (model X.prog X.w) X.A (pyIter v) (PIE X pins σ tg R) X.xe s1) X.xe s
theorem aNi{M:Model}{A:Around}{E:Value->Shared->Prop}{s:Shared}{tg:Expr}{it:Addr}{u:Value}{o:Obj}{n:String}{vs:Array Value}{Q:Unit->Shared->Prop}(ho:s.heap.get? it=some o)(hc:o.cls = .type n)(hd:o.data = .fields vs)
  (hn:["enumerate", "zip", "dict_itemiterator", "dict_reverseitemiterator", "odict_iterator", "itertools.zip_longest", "itertools.pairwise"].contains n=false) (hQ:Q () s):wpAny M A (letOwnedTupleGo tg (.ref it) u) Q E s:=by
 unfold letOwnedTupleGo
 cases tg<;>first
  | exact wpAny_pure hQ
  | (cases u<;>first
    | exact wpAny_pure hQ
    | (refine wpAny_bind (wpAny_load ho ?_)
       rw[hc,hd]
       show wpAny M A (if (["enumerate", "zip", "dict_itemiterator", "dict_reverseitemiterator", "odict_iterator", "itertools.zip_longest", "itertools.pairwise"].contains n&&vs[0]?==some (rawInt _))=true then _ else _) Q E s
       rw[if_neg (by intro h;rw[hn,Bool.false_and]at h;cases h)]
       exact wpAny_pure hQ))
def Itl(K:PySem.W.Frag)(a:Addr):It :=
 ⟨fun i H=>∃ xs x,SqL K H a xs/\xs[i]?=some x,fun i H x H'=>H'=H/\∀ xs,SqL K H a xs->xs[i]?=some x,fun i H=>∃ xs,SqL K H a xs/\xs.length<=i⟩
def Itt(K:PySem.W.Frag)(a:Addr):It :=
 ⟨fun i H=>∃ xs x,SqT K H a xs/\xs[i]?=some x,fun i H x H'=>H'=H/\∀ xs,SqT K H a xs->xs[i]?=some x,fun i H=>∃ xs,SqT K H a xs/\xs.length<=i⟩
def Itr(lo:Int)(n:Nat):It:=⟨fun i _=>i<n,fun i H x H'=>H'=H/\x = .int (lo+i),fun i _=>n<=i⟩
theorem aPs{P:Program}{w:World}{K:PySem.W.Frag}{tg:Expr}(a it:Addr):Turn P w K tg (Itl K a) [it] it (fun i h=>h.IsListIter it a i) where
 mem:=by simp
 obj:=fun i h st b hb=>by
  have e:b=it:=by simpa using hb
  subst e
  obtain⟨o,e,c,d⟩:=st
  exact⟨o,e,fun v z=>by rw[d]at z;cases z⟩
 keep:=fun i h h' st k=>st.at fun o e=>k it (by simp) o e
 item:=by
  intro X hP hw hK hc i pins s σ H E I hf st hg
  subst hP hw hK
  obtain⟨xs,x,hq,hx⟩:=hg
  obtain⟨its,rv,p,hz⟩:=I.list hq
  obtain⟨u,hu,ru⟩:=rv.get hx
  obtain⟨f0,f1,f2,f3,f4,f5⟩:=hf it (by simp)
  refine wpAny_pyNext_list_item st p.isList (x:=u) (by simpa using hu) fun h' st' sb=>?_
  have I1:Inv X pins σ H {s with heap:=h'}:=I.turned (t':=s.toks) (fun b o hb e=>(sb.2 b hb).trans e) f0 f1 f3 f4 f5
  obtain⟨o,e,c,d⟩:=id st'
  exact⟨u,rfl,aNi (s:={s with heap:=h'}) e c d (by decide) ⟨x,H,I1,ru,⟨rfl,fun ys hy=>by rw[I.list_inj hy hq];exact hx⟩,st',fun b hb=>(hf b hb).1⟩⟩
 done:=by
  intro X hP hw hK hc i pins s σ H E I hf st hg
  subst hP hw hK
  obtain⟨xs,hq,hx⟩:=hg
  obtain⟨its,rv,p,hz⟩:=I.list hq
  obtain⟨f0,f1,f2,f3,f4,f5⟩:=hf it (by simp)
  have hl:=rv.length
  exact wpAny_pyNext_list_end (I.ok.hd hc) st p.isList (by simp;omega) fun h' eb=>⟨rfl,I.turned (t':=s.toks) (fun b o hb e=>eb b o hb e) f0 f1 f3 f4 f5⟩
 self:=fun _ _ _ _ _ st h=>wpAny_pyIter_listiter st h
theorem aLr{P:Program}{w:World}{K:PySem.W.Frag}{tg:Expr}(a it:Addr):Turn P w K tg (Itt K a) [it] it (fun i h=>h.IsTupleIter it a i) where
 mem:=by simp
 obj:=fun i h st b hb=>by
  have e:b=it:=by simpa using hb
  subst e
  obtain⟨o,e,c,d⟩:=st
  exact⟨o,e,fun v z=>by rw[d]at z;cases z⟩
 keep:=fun i h h' st k=>st.at fun o e=>k it (by simp) o e
 item:=by
  intro X hP hw hK hc i pins s σ H E I hf st hg
  subst hP hw hK
  obtain⟨xs,x,hq,hx⟩:=hg
  obtain⟨its,rv,p,hz⟩:=I.tuple hq
  obtain⟨u,hu,ru⟩:=rv.get hx
  obtain⟨f0,f1,f2,f3,f4,f5⟩:=hf it (by simp)
  refine wpAny_pyNext_tuple_item st (show s.heap.IsTuple a its.toArray from p) (x:=u) (by simpa using hu) fun h' st' sb=>?_
  have I1:Inv X pins σ H {s with heap:=h'}:=I.turned (t':=s.toks) (fun b o hb e=>(sb.2 b hb).trans e) f0 f1 f3 f4 f5
  obtain⟨o,e,c,d⟩:=id st'
  exact⟨u,rfl,aNi (s:={s with heap:=h'}) e c d (by decide) ⟨x,H,I1,ru,⟨rfl,fun ys hy=>by rw[I.tuple_inj hy hq];exact hx⟩,st',fun b hb=>(hf b hb).1⟩⟩
 done:=by
  intro X hP hw hK hc i pins s σ H E I hf st hg
  subst hP hw hK
  obtain⟨xs,hq,hx⟩:=hg
  obtain⟨its,rv,p,hz⟩:=I.tuple hq
  obtain⟨f0,f1,f2,f3,f4,f5⟩:=hf it (by simp)
  have hl:=rv.length
  exact wpAny_pyNext_tuple_end (I.ok.hd hc) st (show s.heap.IsTuple a its.toArray from p) (by simp;omega) fun h' eb=>⟨rfl,I.turned (t':=s.toks) (fun b o hb e=>eb b o hb e) f0 f1 f3 f4 f5⟩
 self:=fun _ _ _ _ _ st h=>wpAny_pyIter_tupleiter st h
theorem aLs{P:Program}{w:World}{K:PySem.W.Frag}{tg:Expr}(it:Addr)(lo:Int)(n:Nat):Turn P w K tg (Itr lo n) [it] it (fun i h=>IsRangeIter h it (lo+(i:Nat)*1) ((n:Int)-(i:Nat)) 1) where
 mem:=by simp
 obj:=fun i h st b hb=>by
  have e:b=it:=by simpa using hb
  subst e
  exact⟨_,st,fun v z=>by
   have z':Data.fields _=Data.cell v:=z
   cases z'⟩
 keep:=fun i h h' st k=>k it (by simp) _ st
 item:=by
  intro X hP hw hK hc i pins s σ H E I hf st hg
  subst hP hw hK
  obtain⟨f0,f1,f2,f3,f4,f5⟩:=hf it (by simp)
  have W:=Walks.range (prog:=X.prog) (w:=X.w) (I.ok.hd hc) it lo 1 n
  refine W.item i s _ _ hg st fun v h' tk hv st' kk=>?_
  obtain⟨t,rfl⟩:=hv
  have I1:Inv X pins σ H {s with heap:=h',toks:=tk}:=I.turned (fun b o hb e=>kk b o (by simpa using hb) e) f0 f1 f3 f4 f5
  refine⟨_,rfl,aNi (s:={s with heap:=h',toks:=tk}) (n := "range_iterator") st' rfl rfl (by decide) ⟨.int (lo+i),H,I1,⟨t,?_⟩,⟨rfl,rfl⟩,st',fun b hb=>(hf b hb).1⟩⟩
  rw[Int.mul_one]
 done:=by
  intro X hP hw hK hc i pins s σ H E I hf st hg
  subst hP hw hK
  obtain⟨f0,f1,f2,f3,f4,f5⟩:=hf it (by simp)
  exact wpAny_pyNext_range_end (I.ok.hd hc) st (by have:n<=i:=hg;omega) fun h' eb=>⟨rfl,I.turned (t':=s.toks) (fun b o hb e=>eb b o hb e) f0 f1 f3 f4 f5⟩
 self:=fun _ _ _ _ _ st h=>wpAny_pyIter_rangeiter st h
end L2
namespace L2
open PySem PySem.Spec PyProof.Rows
section
variable{X:Cx}{tg:Expr}
theorem aJj{pins:List (Addr × Obj)}{σ:St}{H:Hp}{s:Shared}{R:It->Hp->Prop}{E:Value->Shared->Prop}{lo hi:Int}{t u v:Tok}{tk:Nat}(I:Inv X pins σ H s)(h1 : -(2^62)<=lo)(h2:lo<2^62)(h3 : -(2^62)<=hi)(h4:hi<2^62)
  (q:R (Itr lo (hi-lo).toNat) H):wpAny (model X.prog X.w) X.A (pyIter (.ref s.heap.objs.size)) (PIE X pins σ tg R) E {s with heap:=s.heap.push {cls := .type "range", data := .fields #[.int lo t,.int hi u,.int 1 v] },toks:=tk}:=by
 refine wpAny_pyIter_range (IsRange.new ..) (small_one h1 h2 h3 h4) ?_
 have I1:Inv X pins σ H {s with heap:=s.heap.push {cls := .type "range", data := .fields #[.int lo t,.int hi u,.int 1 v] },toks:=tk}:=I.kept fun b o e=>Heap.get?_push_of_some _ e
 refine⟨(s.heap.push {cls := .type "range", data := .fields #[.int lo t,.int hi u,.int 1 v] }).objs.size,[(s.heap.push {cls := .type "range", data := .fields #[.int lo t,.int hi u,.int 1 v] }).objs.size],_,_,H,rfl,
  I1.kept (t':=tk) fun b o e=>Heap.get?_push_of_some _ e,aLs _ lo (hi-lo).toNat,?_,fun b hb=>?_,q⟩
 ·have e1:lo+((0:Nat):Int)*1=lo:=by simp
  have e2:(((hi-lo).toNat:Nat):Int)-((0:Nat):Int)=Builtin.Range.rangeSize lo hi 1:=by rw[rangeSize_one];split<;>omega
  show IsRangeIter _ _ (lo+((0:Nat):Int)*1) ((((hi-lo).toNat:Nat):Int)-((0:Nat):Int)) 1
  rw[e1,e2]
  exact Heap.get?_push_size _ rfl
 ·have e:b=(s.heap.push {cls := .type "range", data := .fields #[.int lo t,.int hi u,.int 1 v] }).objs.size:=by simpa using hb
  subst e
  exact I1.fpOk (Nat.le_refl _) (I1.hok.fresh (Nat.le_refl _))
def bCw(ta:TA):TI:=fun σ H R=>ta σ H fun vs H1=>∃ j:Int,vs=[.int j] /\ -(2^62)<=j/\j<2^62/\R (Itr 0 j.toNat) H1
def bCx(ta:TA):TI:=fun σ H R=>ta σ H fun vs H1=>∃ i j:Int,vs=[.int i,.int j]/\(-(2^62)<=i/\i<2^62 /\ -(2^62)<=j/\j<2^62)/\R (Itr i (j-i).toNat) H1
theorem aPt{a:Expr}{ta:TA}{p pos:Pos}(hg:Gl X "range")(hm:X.mg "range" = none)(ha:PA X [a] ta)(hs:starEach [a] X.env=[(false,eval a X.env)]:=by rfl):PI X tg (.Call (.Name "range" p) [a] [] pos) (bCw ta):=by
 intro pins s σ H R I h
 refine Call_ (zR I hg hm boot_range (PyProof.Rows.callWith_type1 (thn (ha pos pins s σ H _ I h) fun us s1 ⟨vs,H1,I1,r1,q1⟩=>?_) hs rfl))
 obtain⟨j,e,q1,q2,q⟩:=q1
 subst e
 cases r1 with
 | cons r rr =>
  cases rr
  obtain⟨t,rfl⟩:=r
  exact call_range_1 (aJj I1 (by omega) (by omega) q1 q2 (by simpa using q))
theorem aPu{a b:Expr}{ta:TA}{p pos:Pos}(hg:Gl X "range")(hm:X.mg "range" = none)(ha:PA X [a,b] ta)(hs:starEach [a,b] X.env=[(false,eval a X.env),(false,eval b X.env)]:=by rfl)(hs2:starEach [b] X.env=[(false,eval b X.env)]:=by rfl) :
  PI X tg (.Call (.Name "range" p) [a,b] [] pos) (bCx ta):=by
 intro pins s σ H R I h
 refine Call_ (zR I hg hm boot_range (PyProof.Rows.callWith_type1 (thn (ha pos pins s σ H _ I h) fun us s1 ⟨vs,H1,I1,r1,q1⟩=>?_) (by rw[hs,hs2]) (by rw[hs2];rfl)))
 obtain⟨i,j,e,⟨q1,q2,q3,q4⟩,q⟩:=q1
 subst e
 cases r1 with
 | cons r rr =>
  cases rr with
  | cons r' rr =>
   cases rr
   obtain⟨t,rfl⟩:=r
   obtain⟨t',rfl⟩:=r'
   exact call_range_2 (aJj I1 q1 q2 q3 q4 q)
def bGd(wi:TI)(g:TG)(tb:TS):TS:=fun D σ H=>wi σ H fun J H1=>∃ W:Nat->Nat->St->Hp->Prop,(∃ m,W 0 m σ H1)/\∀ i m σ H,W i m σ H ->
 (J.stop i H/\D.nx σ H)\/(J.go i H/\∃ N:St->Hp->Prop,(∀ σ' H',N σ' H'->∃ m',m' < m/\W (i+1) m' σ' H')/\∀ x H',J.yld i H x H'->g x σ H' fun σ2 H2=>tb {D with nx:=N,ct:=N,bk:=D.nx} σ2 H2)
def aHw(fp:List Addr)(h:Heap):List (Addr × Obj):=fp.filterMap fun b=>(h.get? b).map fun o=>(b,o)
theorem tX{fp:List Addr}{h:Heap}{b:Addr}{o:Obj}(hb:b∈fp)(e:h.get? b=some o):(b,o)∈aHw fp h:=List.mem_filterMap.mpr ⟨b,hb,by rw[e];rfl⟩
theorem aPv{fp:List Addr}{h:Heap}{p:Addr × Obj}(hp:p∈aHw fp h):p.1∈fp/\h.get? p.1=some p.2:=by
 obtain⟨b,hb,e⟩:=List.mem_filterMap.mp hp
 cases q:h.get? b with
 | none=>rw[q]at e;cases e
 | some o =>
  rw[q]at e
  have e':(b,o)=p:=Option.some.inj e
  subst e'
  exact⟨hb,q⟩
theorem Inv.pinned{pins:List (Addr × Obj)}{σ:St}{H:Hp}{s:Shared}{fp:List Addr}(I:Inv X pins σ H s)(hf:∀ b∈fp,aAo X pins H b)(ho:∀ b∈fp,∃ o,s.heap.get? b=some o/\∀ v,o.data ≠ .cell v):Inv X (pins++aHw fp s.heap) σ H s :=
 I.pins_of fun p hp=>(List.mem_append.mp hp).elim (fun z=>I.pin p (List.mem_append_right _ z)) fun z=>by
  obtain⟨hb,e⟩:=aPv z
  obtain⟨f0,f1,f2,_⟩:=hf p.1 hb
  obtain⟨o,e',d⟩:=ho p.1 hb
  rw[e]at e';cases e'
  exact⟨e,f0,f1,f2,d⟩
theorem Inv.unpinned{pins pl:List (Addr × Obj)}{σ:St}{H:Hp}{s:Shared}(I:Inv X (pins++pl) σ H s):Inv X pins σ H s:=I.pins_of fun p hp=>I.pin p (List.mem_append_right _ (List.mem_append_left _ hp))
theorem aZl{iter:Expr}{body:List Stmt}{wi:TI}{g:TG}{tb:TS}{pos:Pos}(hp:PassesOwn (model X.prog X.w) X.A X.env X.xe)(hc:X.calm=true)(hi:PI X tg iter wi)(hg:PG X tg g)(hb:PSs X body tb)
  (hs:∀ x,foldedSetIterable iter X.env x=pure x:=by intro _;rfl):PS X (.For tg iter body [] pos) (bGd wi g tb):=by
 intro pins s σ H D I h
 refine wpAny_For (thn (hi pins s σ H _ I h) fun v s1 h1=>thn h1 fun itv s2 h2=>?_) hs
 obtain⟨it,fp,tn,J,H2,e,I2,T,st2,f2,W,⟨m0,w0⟩,turn⟩:=h2
 subst e
 have stat:∀ {H':Hp},(∀ b∈fp,H' b=none)->∀ b∈fp,aAo X pins H' b:=fun hn b hb=>⟨hn b hb,(f2 b hb).2⟩
 refine codeAny_forLoop_any (fun n s'=>∃ i σ' H',Inv X pins σ' H' s'/\tn i s'.heap/\(∀ b∈fp,H' b=none)/\W i n σ' H') ?_ m0 ⟨0,σ,H2,I2,st2,fun b hb=>(f2 b hb).1,w0⟩
 rintro n s3 ⟨i,σ3,H3,I3,st3,fr3,w3⟩
 rcases turn i n σ3 H3 w3 with ⟨stop,qn⟩ | ⟨go,N,hN,step⟩
 ·refine wpAny_passesOwn hp (thn (T.done X rfl rfl rfl hc i pins s3 σ3 H3 X.xe I3 (stat fr3) st3 stop) fun r s4 ⟨hr,I4⟩=>?_)
  subst hr
  exact wpAny_execs_nil ⟨σ3,H3,I4,qn⟩
 ·refine wpAny_passesOwn hp (thn (T.item X rfl rfl rfl hc i pins s3 σ3 H3 X.xe I3 (stat fr3) st3 go) fun r s4 ⟨u,hr,h4⟩=>?_)
  subst hr
  refine wpAny_passesOwn hp (thn h4 fun _ s5 ⟨x,H5,I5,r5,y5,st5,fr5⟩=>?_)
  have I5':=I5.pinned (stat fr5) (T.obj _ _ st5)
  refine wpAny_passesOwn hp (thn (hg _ s5 σ3 H5 x u _ I5' r5 (step x H5 y5)) fun _ s6 ⟨σ6,H6,I6,q6⟩=>?_)
  refine wpAny_passesOwn hp (thn (hb _ s6 σ6 H6 _ I6 q6) fun f s7 q7=>?_)
  have again:∀ {σ7:St} {H7:Hp},Inv X (pins++aHw fp s5.heap) σ7 H7 s7->N σ7 H7->∃ m,m<n/\∃ i σ' H',Inv X pins σ' H' s7/\tn i s7.heap/\(∀ b∈fp,H' b=none)/\W i m σ' H':=fun {σ7 H7} I7 n7=>by
   obtain⟨m',hm,w7⟩:=hN σ7 H7 n7
   refine⟨m',hm,i+1,σ7,H7,I7.unpinned,T.keep _ _ _ st5 fun b hb o e=>(I7.pin (b,o) (List.mem_append_right _ (List.mem_append_right _ (tX hb e)))).1,fun b hb=>?_,w7⟩
   obtain⟨o,e,d⟩:=T.obj _ _ st5 b hb
   exact(I7.pin (b,o) (List.mem_append_right _ (List.mem_append_right _ (tX hb e)))).2.1
  cases f with
  | next=>obtain⟨σ7,H7,I7,n7⟩:=q7;exact again I7 n7
  | cont=>obtain⟨σ7,H7,I7,n7⟩:=q7;exact again I7 n7
  | brk=>obtain⟨σ7,H7,I7,q7⟩:=q7;exact⟨σ7,H7,I7.unpinned,q7⟩
  | ret v=>obtain⟨x7,σ7,H7,I7,r7,q7⟩:=q7;exact⟨x7,σ7,H7,I7.unpinned,r7,q7⟩
end
end L2
namespace L2
open PySem PySem.Spec PyProof.Rows
abbrev R2:=V->V->Hp->VK->Prop
def OpR(X:Cx)(f:Value->Value->Sem Value)(r:R2):Prop :=
 ∀ (pins:List (Addr × Obj)) (s:Shared) (σ:St) (H:Hp) (x y:V) (v u:Value) (Q:VK),Inv X pins σ H s->RelV x v->RelV y u->r x y H Q ->
  wpAny (model X.prog X.w) X.A (f v u) (EP X pins σ Q) X.xe s
def UnR(X:Cx)(f:Value->Sem Value)(r:V->Hp->VK->Prop):Prop :=
 ∀ (pins:List (Addr × Obj)) (s:Shared) (σ:St) (H:Hp) (x:V) (v:Value) (Q:VK),Inv X pins σ H s->RelV x v->r x H Q ->
  wpAny (model X.prog X.w) X.A (f v) (EP X pins σ Q) X.xe s
def nZ(X:Cx)(f:Value)(r:List V->Hp->VK->Prop):Prop :=
 ∀ (pins:List (Addr × Obj)) (s:Shared) (σ:St) (H:Hp) (xs:List V) (us:List Value) (Q:VK),Inv X pins σ H s->Vals xs us->r xs H Q ->
  wpAny (model X.prog X.w) X.A (call f us) (EP X pins σ Q) X.xe s
def tOp(r:R2)(ta tb:TE):TE:=fun σ H Q=>ta σ H fun x H1=>tb σ H1 fun y H2=>r x y H2 Q
def tUn(r:V->Hp->VK->Prop)(ta:TE):TE:=fun σ H Q=>ta σ H fun x H1=>r x H1 Q
def rI(C:Int->Int->Prop)(g:Int->Int->V):R2:=fun x y H Q=>∃ i j,x = .int i/\y = .int j/\C i j/\Q (g i j) H
def rI0(g:Int->Int->V):R2:=fun x y H Q=>∃ i j,x = .int i/\y = .int j/\Q (g i j) H
def rU(g:Int->V):V->Hp->VK->Prop:=fun x H Q=>∃ i,x = .int i/\Q (g i) H
section
variable{X:Cx}{a b c:Expr}{ta tb tc:TE}{pos:Pos}
theorem aZm(ha:PE X a ta)(hb:PE X b tb){pins:List (Addr × Obj)}{s:Shared}{σ:St}{H:Hp}{R:V->V->Hp->Prop}(I:Inv X pins σ H s)
  (h:ta σ H fun x H1=>tb σ H1 fun y H2=>R x y H2) {Q:Value->Shared->Prop} {f:Value->Value->Sem Value}
  (hf:∀ v u s2 x y H2,Inv X pins σ H2 s2->RelV x v->RelV y u->R x y H2->wpAny (model X.prog X.w) X.A (f v u) Q X.xe s2) :
  wpAny (model X.prog X.w) X.A (eval a X.env) (fun v s₁=>wpAny (model X.prog X.w) X.A (eval b X.env) (fun u s₂=>wpAny (model X.prog X.w) X.A (f v u) Q X.xe s₂) X.xe s₁) X.xe s:=by
 refine thn (ha pins s σ H _ I h) fun v s1 ⟨x,H1,I1,r1,q1⟩=>?_
 refine thn (hb pins s1 σ H1 _ I1 q1) fun u s2 ⟨y,H2,I2,r2,q2⟩=>?_
 exact hf v u s2 x y H2 I2 r1 r2 q2
theorem bCy{op:Operator}{r:R2}(ho:OpR X (binaryOp op) r)(ha:PE X a ta)(hb:PE X b tb):PE X (.BinOp a op b pos) (tOp r ta tb):=by
 intro pins s σ H Q I h
 exact wpAny_BinOp (aZm ha hb I h fun v u s2 x y H2 I2 rx ry q=>ho pins s2 σ H2 x y v u Q I2 rx ry q)
theorem bCz{op:UnaryOp}{r:V->Hp->VK->Prop}(ho:UnR X (unaryOp op) r)(ha:PE X a ta):PE X (.UnaryOp op a pos) (tUn r ta):=by
 intro pins s σ H Q I h
 exact UnaryOp_ (thn (ha pins s σ H _ I h) fun v s1 ⟨x,H1,I1,r1,q1⟩=>ho pins s1 σ H1 x v Q I1 r1 q1)
theorem opI{f:Value->Value->Sem Value}{C:Int->Int->Prop}{g:Int->Int->Int}
  (rule:∀ (i j:Int) (t u:Tok) (s:Shared) (Q:Value->Shared->Prop) (E:Value->Shared->Prop),C i j->Q (.int (g i j) s.toks) {s with toks:=s.toks+1}->wpAny (model X.prog X.w) X.A (f (.int i t) (.int j u)) Q E s) :
  OpR X f (rI C fun i j => .int (g i j)):=by
 intro pins s σ H x y v u Q I rx ry h
 obtain⟨i,j,rfl,rfl,hc,q⟩:=h
 obtain⟨t,rfl⟩:=rx
 obtain⟨t',rfl⟩:=ry
 exact rule i j t t' s _ _ hc ⟨.int (g i j),H,I.tok _,⟨_,rfl⟩,q⟩
theorem aS2{f:Value->Value->Sem Value}{g:Int->Int->Int}
  (rule:∀ (i j:Int) (t u:Tok) (s:Shared) (Q:Value->Shared->Prop) (E:Value->Shared->Prop),Q (.int (g i j) s.toks) {s with toks:=s.toks+1}->wpAny (model X.prog X.w) X.A (f (.int i t) (.int j u)) Q E s) :
  OpR X f (rI0 fun i j => .int (g i j)):=by
 intro pins s σ H x y v u Q I rx ry h
 obtain⟨i,j,rfl,rfl,q⟩:=h
 obtain⟨t,rfl⟩:=rx
 obtain⟨t',rfl⟩:=ry
 exact rule i j t t' s _ _ ⟨.int (g i j),H,I.tok _,⟨_,rfl⟩,q⟩
theorem aVv{f:Value->Value->Sem Value}{g:Int->Int->Bool}
  (rule:∀ (i j:Int) (t u:Tok) (s:Shared) (Q:Value->Shared->Prop) (E:Value->Shared->Prop),Q (.bool (g i j)) s->wpAny (model X.prog X.w) X.A (f (.int i t) (.int j u)) Q E s) :
  OpR X f (rI0 fun i j => .bl (g i j)):=by
 intro pins s σ H x y v u Q I rx ry h
 obtain⟨i,j,rfl,rfl,q⟩:=h
 obtain⟨t,rfl⟩:=rx
 obtain⟨t',rfl⟩:=ry
 exact rule i j t t' s _ _ ⟨.bl (g i j),H,I,rfl,q⟩
def bGe(i j:Int):Prop:=0<j/\j<1073741824
def bD0(i j:Int):Prop:=0<=j/\j<=1000000/\i.natAbs<2^64
def aS3(i j:Int):Prop:=(-(2^64)<i/\i<2^64)\/(-(2^64)<j/\j<2^64)
theorem aS3.ok{i j:Int}(h:aS3 i j):IntMulOk i j:=by
 rcases h with ⟨h1,h2⟩ | ⟨h1,h2⟩
 ·exact .of_left (intBits_le_64 h1 h2)
 ·exact .of_right (intBits_le_64 h1 h2)
theorem aLt(k:Nat):(0:Int)<=2^k:=by
 rw[two_pow_cast]
 exact Int.natCast_nonneg _
theorem aZn:OpR X (binaryOp .Add) (rI0 fun i j => .int (i+j)):=aS2 fun _ _ _ _ _ _ _ q=>add_int q
theorem aZo:OpR X (binaryOp .Sub) (rI0 fun i j => .int (i-j)):=aS2 fun _ _ _ _ _ _ _ q=>sub_int q
theorem aZp:OpR X (binaryOp .Mult) (rI aS3 fun i j => .int (i*j)):=opI fun _ _ _ _ _ _ _ hc q=>mul_int q hc.ok
theorem aVw:OpR X (binaryOp .FloorDiv) (rI bGe fun i j => .int (i/j)):=opI fun i j _ _ _ _ _ hc q=>by
 have h1:(0:Int)<j:=hc.1
 have h2:j<1073741824:=hc.2
 exact floordiv_int (by omega) (by rw[Int.fdiv_eq_ediv_of_nonneg i (by omega)];exact q) (.inl (PyProof.noPylong_small (by omega)))
theorem aZq:OpR X (binaryOp .Mod) (rI (fun _ j=>0<j) fun i j => .int (i%j)):=opI fun i j _ _ _ _ _ hc q=>by
 have h1:(0:Int)<j:=hc
 exact mod_int' (by omega) (by rw[Int.fmod_eq_emod_of_nonneg i (by omega)];exact q)
theorem aZr:OpR X (binaryOp .Pow) (rI bD0 fun i j => .int (i^j.toNat)):=opI fun _ _ _ _ _ _ _ hc q=>pow_int_small hc.1 hc.2.1 hc.2.2 q
theorem aZs:OpR X (binaryOp .LShift) (rI bD0 fun i j => .int (i*2^j.toNat)):=opI fun _ _ _ _ _ _ _ hc q=>lshift_int_small hc.1 hc.2.1 hc.2.2 q
theorem aZt:OpR X (binaryOp .RShift) (rI (fun _ j=>0<=j) fun i j => .int (i/2^j.toNat)):=opI fun i j _ _ _ _ _ hc q =>
 rshift_int hc (by rw[Int.fdiv_eq_ediv_of_nonneg i (aLt _)];exact q)
theorem aZu:OpR X (binaryOp .BitAnd) (rI0 fun i j => .int (Builtin.bitAnd i j)):=aS2 fun _ _ _ _ _ _ _ q=>and_int q
theorem bD1:OpR X (binaryOp .BitOr) (rI0 fun i j => .int (Builtin.bitOr i j)):=aS2 fun _ _ _ _ _ _ _ q=>or_int q
theorem aZv:OpR X (binaryOp .BitXor) (rI0 fun i j => .int (Builtin.bitXor i j)):=aS2 fun _ _ _ _ _ _ _ q=>xor_int q
theorem unI{f:Value->Sem Value}{g:Int->Int}
  (rule:∀ (i:Int) (t:Tok) (s:Shared) (Q:Value->Shared->Prop) (E:Value->Shared->Prop),Q (.int (g i) s.toks) {s with toks:=s.toks+1}->wpAny (model X.prog X.w) X.A (f (.int i t)) Q E s) :
  UnR X f (rU fun i => .int (g i)):=by
 intro pins s σ H x v Q I rx h
 obtain⟨i,rfl,q⟩:=h
 obtain⟨t,rfl⟩:=rx
 exact rule i t s _ _ ⟨.int (g i),H,I.tok _,⟨_,rfl⟩,q⟩
theorem aZw:UnR X (unaryOp .USub) (rU fun i => .int (-i)):=unI fun _ _ _ _ _ q=>neg_int q
end
section
variable{X:Cx}{a b c:Expr}{ta tb tc:TE}{pos:Pos}
theorem aS4{pins:List (Addr × Obj)}{σ:St}{H:Hp}{s:Shared}{Q:VK}{k k':Bool}(I:Inv X pins σ H s)(q:Q (.bl k) H)(e:k=k'):EP X pins σ Q (.bool k') s:=by
 subst e
 exact⟨.bl k,H,I,rfl,q⟩
theorem aNj:OpR X (compareOp .Lt) (rI0 fun i j => .bl (decide (i<j))):=aVv fun _ _ _ _ _ _ _ q=>lt_int q
theorem aYn:OpR X (compareOp .LtE) (rI0 fun i j => .bl (decide (i<=j))):=aVv fun _ _ _ _ _ _ _ q=>le_int q
theorem aS5:OpR X (compareOp .Gt) (rI0 fun i j => .bl (decide (j<i))):=aVv fun _ _ _ _ _ _ _ q=>gt_int q
theorem aS6:OpR X (compareOp .GtE) (rI0 fun i j => .bl (decide (j<=i))):=aVv fun _ _ _ _ _ _ _ q=>ge_int q
theorem aPw:OpR X (compareOp .In) (fun x y H Q=>∃ i j,x = .str i/\y = .str j/\Q (.bl (!(Builtin.Str.occurrences j i 0 j.length 1).isEmpty)) H):=by
 intro pins s σ H x y v u Q I rx ry h
 obtain⟨i,j,rfl,rfl,q⟩:=h
 obtain⟨t,rfl⟩:=rx
 obtain⟨t',rfl⟩:=ry
 exact in_str (aS4 I q rfl)
theorem aHx:OpR X (compareOp .NotIn) (fun x y H Q=>∃ i j,x = .str i/\y = .str j/\Q (.bl (!(!(Builtin.Str.occurrences j i 0 j.length 1).isEmpty))) H):=by
 intro pins s σ H x y v u Q I rx ry h
 obtain⟨i,j,rfl,rfl,q⟩:=h
 obtain⟨t,rfl⟩:=rx
 obtain⟨t',rfl⟩:=ry
 exact notIn_str (aS4 I q rfl)
theorem OpR.or{f:Value->Value->Sem Value}{r r':R2}(h:OpR X f r)(h':OpR X f r'):OpR X f (fun x y H Q=>r x y H Q\/r' x y H Q):=by
 intro pins s σ H x y v u Q I rx ry q
 rcases q with q | q
 ·exact h pins s σ H x y v u Q I rx ry q
 ·exact h' pins s σ H x y v u Q I rx ry q
theorem cF(b:Expr){op:CmpOp}(h:op ≠ .In:=by decide)(h2:op ≠ .NotIn:=by decide):behindInMarks op b=false:=by
 have e1:(op==CmpOp.In)=false:=by cases op<;>first | rfl | exact absurd rfl h
 have e2:(op==CmpOp.NotIn)=false:=by cases op<;>first | rfl | exact absurd rfl h2
 cases b<;>simp[behindInMarks,e1,e2]
theorem aVx{op:CmpOp}{r:R2}(ho:OpR X (compareOp op) r)(ha:PE X a ta)(hb:PE X b tb)(hm:behindInMarks op b=false):PE X (.Compare a [op] [b] pos) (tOp r ta tb):=by
 intro pins s σ H Q I h
 exact wpAny_Compare1 (aZm ha hb I h fun v u s2 x y H2 I2 rx ry q=>ho pins s2 σ H2 x y v u Q I2 rx ry q) hm
def bD2(t:TE):TT:=fun σ H Q=>t σ H fun x H'=>∃ k,x = .bl k/\Q k H'
theorem aVy{op:CmpOp}{r:R2}(ho:OpR X (compareOp op) r)(ha:PE X a ta)(hb:PE X b tb)(hm:behindInMarks op b=false):PT X (.Compare a [op] [b] pos) (bD2 (tOp r ta tb)):=by
 intro pins s σ H Q I h
 refine wpAny_isTrue_Compare1 (thn (ha pins s σ H _ I h) fun v s1 ⟨x,H1,I1,r1,q1⟩=>thn (hb pins s1 σ H1 _ I1 q1) fun u s2 ⟨y,H2,I2,r2,q2⟩ =>
  thn (ho pins s2 σ H2 x y v u _ I2 r1 r2 q2) fun c s3 ⟨z,H3,I3,r3,k,e,q3⟩=>?_) hm
 subst e
 cases r3
 exact wpAny_truthy_bool ⟨H3,I3,q3⟩
theorem aBz:(sizeLine:Nat)<2^63:=by rw[sizeLine_eq];decide
theorem aLu:OpR X (binaryOp .Add) (fun x y H Q=>∃ i j,x = .str i/\y = .str j/\i.length+j.length<=sizeLine/\Q (.str (i++j)) H):=by
 intro pins s σ H x y v u Q I rx ry h
 obtain⟨i,j,rfl,rfl,hz,q⟩:=h
 obtain⟨t,rfl⟩:=rx
 obtain⟨t',rfl⟩:=ry
 exact add_str (fun t' tk=>⟨.str (i++j),H,I.tok _,⟨_,rfl⟩,q⟩) hz
theorem vals1{x:V}{us:List Value}(r:Vals [x] us):∃ u,us=[u]/\RelV x u:=by
 cases r with
 | cons r1 r2=>cases r2;exact⟨_,rfl,r1⟩
end
end L2
namespace L2
open PySem PySem.Spec PyProof.Rows
structure ObjM(h:Heap)(x dx C:Addr)(mA:Str->Option Value):Prop where
 obj:h.get? x=some (PySem.W.instObj C dx)
 ns:h.Ns1 dx mA
 ne:dx≠x
theorem aPx{h:Heap}{dx:Addr}{mA:Str->Option Value}(n:h.Ns1 dx mA):∃ od,h.get? dx=some od/\∀ name,PySem.W.lookIn name od=some (mA name):=by
 obtain⟨o,es,ep,ho,hd,hk,_,hm⟩:=n
 refine⟨o,ho,fun name=>?_⟩
 have e:=hm name
 unfold nsFind findBy at e
 rw[<-Array.find?_toList]at e
 unfold PySem.W.lookIn
 rw[hd]
 dsimp only
 split
 ·rename_i y q
  rw[q]at e
  exact congrArg some e
 ·rename_i q
  rw[q]at e
  have a:es.toList.any (·.refKey)=false:=by
   rw[List.any_eq_false]
   intro y hy
   obtain⟨z,t,hkey⟩:=hk y (Array.mem_toList_iff.mp hy)
   simp[DictEntry.refKey,hkey]
  have a':¬ es.toList.any (·.refKey)=true:=by rw[a];exact Bool.false_ne_true
  rw[if_neg a']
  exact congrArg some e
theorem ObjM.look{h:Heap}{x dx C:Addr}{mA:Str->Option Value}(I:ObjM h x dx C mA):∃ od,PySem.W.InstAt h x (PySem.W.instObj C dx) C (some od)/\∀ name,PySem.W.lookIn name od=some (mA name) :=
 let ⟨od,ho,hl⟩:=aPx I.ns
 ⟨od,⟨I.obj,rfl,rfl,ho⟩,hl⟩
section
variable{prog:Program}{w:World}{A:Around}{E:Value->Shared->Prop}{s:Shared}{K:PySem.W.Frag}{x dx C f:Addr}{mA:Str->Option Value}{name:Str}{v:Value}
theorem aVz{expr:Bool}{Q:Value->Shared->Prop}(X:K.In s.heap)(I:ObjM s.heap x dx C mA)(hg:PySem.W.plainGet K C name=true)(hh:PySem.W.hasDictIn K C=true)
  (ha:PySem.W.findIn K (.ref C) name=some none) (hv:mA name=some v) (hv':PySem.W.handedIn v=true) (h:Q v {s with toks:=s.toks+1}) :
  wpAny (model prog w) A (getAttr (.ref x) name expr) Q E s:=by
 obtain⟨od,J,hl⟩:=I.look
 exact PySem.W.get_value X J (PySem.W.plainGet_of hg).1 (PySem.W.findObj_own hh ha rfl (by rw[hl,hv])) hv' h
theorem aS7{pl:Sem Bool}{Q:Value × List Value->Shared->Prop}(X:K.In s.heap)(I:ObjM s.heap x dx C mA)(hg:PySem.W.plainGet K C name=true)
  (hf:PySem.W.findIn K (.ref C) name=some (some (.ref f))) (ht:PySem.W.isFn K (.ref f)=true) (hv:mA name=none) (h:Q (.ref f,[.ref x]) s) :
  wpAny (model prog w) A (getMethod (.ref x) name pl) Q E s:=by
 obtain⟨od,J,hl⟩:=I.look
 exact PySem.W.method_fn X J (PySem.W.plainGet_of hg).1 (PySem.W.plainGet_of hg).2 hf (beq_iff_eq.mp ht) (by show (PySem.W.lookIn name od).map (·.isSome)=some false;rw[hl,hv];rfl) h
theorem aW0{ns:List Str}{Q:Unit->Shared->Prop}(X:K.In s.heap)(I:ObjM s.heap x dx C mA)
  (hs:PySem.W.findIn K (.ref C) "__setattr__" = some (some (.builtin "object.__setattr__"))) (hp:PySem.W.plainOver K C=true) (ht:PySem.W.takerIn K C name=some none) (hh:PySem.W.hasDictIn K C=true)
  (hw:PySem.Within mA ns) (hsz:ns.length<=sizeLine)
  (h:∀ h',ObjM h' x dx C (fun y=>if y=name then some v else mA y)->Heap.SameBut dx s.heap h'->Q () {s with heap:=h',toks:=s.toks+2}) :
  wpAny (model prog w) A (setAttr (.ref x) name v) Q E s:=by
 obtain⟨od,J,hl⟩:=I.look
 refine PySem.W.set_plain X J hs (PySem.W.osa_open (s:={s with toks:=s.toks+1}) (r:=none) X J hp ht fun b=>?_)
 obtain⟨cd,hc,hd'⟩:=PySem.W.any_some hh
 have hx:s.heap.get? x=some ⟨.ref C,some dx,.plain, #[]⟩:=I.obj
 refine wpAny_bind (wpAny_pure (wpAny_bind (wpAny_bind (wpAny_loadPart hx (wpAny_bind (PySem.W.Looks.here (s:={s with toks:=s.toks+1}) (PySem.W.looks_clsIn X hc) ?_))))))
 rw[hd']
 refine wpAny_pure (a:=some dx) (wpAny_bind (wpAny_pure (wpAny_bind ?_)))
 refine wpAny_nsSet1 (s:={s with toks:=s.toks+1}) I.ns fun h' hn2 hs2=>?_
 obtain⟨oD,esD,epD,hoD,hdD,hcD⟩:=hn2.count (PySem.Within.cons name v hw)
 refine wpAny_bind (wpAny_lookBehind hoD (by rw[hdD];exact pastItsLine_dict (Nat.le_trans hcD (by rw[List.length_cons];omega))) ?_)
 exact wpAny_pure (h _ ⟨(hs2.2 _ (Ne.symm I.ne)).trans I.obj,hn2,I.ne⟩ hs2)
theorem aS8{R:Result->Shared->Prop}{vs:List Value}{kw:List (Str × Value)}(X:K.In s.heap)(hm:PySem.W.makesIn K C=true)
  (hi:PySem.W.findIn K (.ref C) "__init__" = some (some (.ref f))) (hf:PySem.W.typeIn K (.ref f)=some (.type "function"))
  (h:codeAny (model prog w) (A.under (.builtin "type.__call__" ⟨.ref C::vs,kw⟩)) (.call (.ref f) ⟨.ref (s.heap.objs.size+1)::vs,kw⟩) (PySem.W.InitBack (s.heap.objs.size+1) R)
   {s with heap:=(s.heap.push PySem.W.emptyDict).push (PySem.W.instObj C s.heap.objs.size)}) :
  codeAny (model prog w) A (.call (.ref C) ⟨vs,kw⟩) R s:=by
 obtain⟨hh,g,d,t,os⟩:=s
 exact PySem.W.make_core (PySem.W.makes_of X hm) (PySem.W.looks_findIn X hi) (fun self=>PySem.W.bind_fn X self hf) (.inl rfl) h
end
def vX(f:Str)(v:V):List (Str × V)->List (Str × V)
 | []=>[(f,v)]
 | (g,x)::r=>if g=f then (g,v)::r else (g,x)::vX f v r
theorem aCr(f g:Str)(v:V):∀ fs:List (Str × V),(vX f v fs).lookup g=if g=f then some v else fs.lookup g
 | []=>by
  show List.lookup g [(f,v)]=_
  by_cases h:g=f
  ·have hb:(g==f)=true:=beq_iff_eq.mpr h
   simp only[List.lookup,hb,if_pos h]
  ·have hb:(g==f)=false:=beq_eq_false_iff_ne.mpr h
   simp only[List.lookup,hb,if_neg h]
 | (k,x)::r=>by
  have ih:=aCr f g v r
  rw[show vX f v ((k,x)::r)=(if k=f then (k,v)::r else (k,x)::vX f v r) from rfl]
  by_cases hk:k=f
  ·rw[if_pos hk]
   by_cases h:g=k
   ·have hb:(g==k)=true:=beq_iff_eq.mpr h
    simp only[List.lookup,hb,if_pos (h.trans hk)]
   ·have hb:(g==k)=false:=beq_eq_false_iff_ne.mpr h
    simp only[List.lookup,hb,if_neg (fun e:g=f=>h (e.trans hk.symm))]
  ·rw[if_neg hk]
   by_cases h:g=k
   ·have hb:(g==k)=true:=beq_iff_eq.mpr h
    simp only[List.lookup,hb,if_neg (fun e:g=f=>hk (h.symm.trans e))]
   ·have hb:(g==k)=false:=beq_eq_false_iff_ne.mpr h
    simp only[List.lookup,hb]
    exact ih
theorem aC0(f:Str)(v:V):∀ fs:List (Str × V),f∈(vX f v fs).map (·.1)/\∀ g,g∈fs.map (·.1)->g∈(vX f v fs).map (·.1)
 | []=>⟨by simp[vX],fun g h=>by simp at h⟩
 | (k,x)::r=>by
  obtain⟨i1,i2⟩:=aC0 f v r
  rw[show vX f v ((k,x)::r)=(if k=f then (k,v)::r else (k,x)::vX f v r) from rfl]
  by_cases hk:k=f
  ·rw[if_pos hk]
   subst hk
   exact⟨by simp,fun g h=>by simpa using h⟩
  ·rw[if_neg hk]
   refine⟨?_,fun g h=>?_⟩
   ·rw[List.map_cons]
    exact List.mem_cons_of_mem _ i1
   ·rw[List.map_cons]at h ⊢
    rcases List.mem_cons.mp h with e | e
    ·exact List.mem_cons.mpr (.inl e)
    ·exact List.mem_cons_of_mem _ (i2 g e)
theorem aCs(f:Str)(v:V):∀ fs:List (Str × V),(vX f v fs).length<=fs.length+1
 | []=>by simp[vX]
 | (k,x)::r=>by
  have ih:=aCs f v r
  rw[show vX f v ((k,x)::r)=(if k=f then (k,v)::r else (k,x)::vX f v r) from rfl]
  by_cases hk:k=f
  ·rw[if_pos hk,List.length_cons,List.length_cons];omega
  ·rw[if_neg hk,List.length_cons,List.length_cons];omega
theorem tV.some_of{v:V}{o:Option Value}(r:tV (some v) o):∃ u,o=some u/\RelV v u:=by
 cases o with
 | none=>exact(show False from r).elim
 | some u=>exact⟨u,rfl,r⟩
theorem tV.none_of{o:Option Value}(r:tV none o):o=none:=by
 cases o with
 | none=>rfl
 | some u=>exact(show False from r).elim
theorem aPy{v:V}{u:Value}(r:RelV v u):PySem.W.handedIn u=true:=by
 cases v with
 | non=>cases (show u=Value.none from r);rfl
 | bl b=>cases (show u=Value.bool b from r);rfl
 | int i=>obtain⟨t,e⟩:=(show ∃ t,u=Value.int i t from r);cases e;rfl
 | str x=>obtain⟨t,e⟩:=(show ∃ t,u=Value.str x t from r);cases e;rfl
 | byt b=>obtain⟨t,e⟩:=(show ∃ t,u=Value.bytes b t from r);cases e;rfl
 | flt b=>obtain⟨t,e⟩:=(show ∃ t,u=Value.float b t from r);cases e;rfl
 | ref a=>cases (show u=Value.ref a from r);rfl
 | ty n=>cases (show u=Value.type n from r);rfl
section
variable{P:Program}{w:World}{H H':Hp}{h h':Heap}{a C dx:Addr}{fs fs':List (Str × V)}
theorem aHy(hok:HOk P w H h)(e:H a=some (.ins C dx fs)):∃ mA,ObjM h a dx C mA/\(∀ f,tV (fs.lookup f) (mA f))/\PySem.Within mA (fs.map (·.1))/\fs.length<=1000/\H dx=some (.own a):=by
 obtain⟨d,z,ne,ob,mA,n,r,q⟩:=(show jN P w H h a (.ins C dx fs) from hok a _ e)
 exact⟨mA,⟨ob,n,ne⟩,r,q,z,d⟩
end
structure Cls(K:PySem.W.Frag)(C:Addr):Prop where
 pg:PySem.W.plainGet K C Str.empty=true
 hd:PySem.W.hasDictIn K C=true
 po:PySem.W.plainOver K C=true
 sa:PySem.W.findIn K (.ref C) "__setattr__" = some (some (.builtin "object.__setattr__"))
theorem Cls.get{K:PySem.W.Frag}{C:Addr}(c:Cls K C)(f:Str):PySem.W.plainGet K C f=true:=c.pg
def jO(K:PySem.W.Frag)(C:Addr)(f:Str):Prop:=PySem.W.findIn K (.ref C) f=some none
theorem jO.taker{K:PySem.W.Frag}{C:Addr}{f:Str}(n:jO K C f):PySem.W.takerIn K C f=some none:=by
 unfold PySem.W.takerIn
 rw[show PySem.W.findIn K (.ref C) f=some none from n]
 rfl
structure Meth(K:PySem.W.Frag)(C:Addr)(m:Str)(f:Addr):Prop where
 at_:PySem.W.findIn K (.ref C) m=some (some (.ref f))
 fn:PySem.W.isFn K (.ref f)=true
 kp:PySem.W.keepIn K (.ref f)=true
section
variable{X:Cx}{pins:List (Addr × Obj)}{σ:St}{H:Hp}{s:Shared}{a C dx:Addr}{fs:List (Str × V)}{f:Str}{v:V}{A:Around}{E:Value->Shared->Prop}
theorem aLv{b:Bool}{Q:Value->Shared->Prop}(I:Inv X pins σ H s)(e:H a=some (.ins C dx fs))(c:Cls X.K C)(n:jO X.K C f)(l:fs.lookup f=some v)
  (h:∀ u s',Inv X pins σ H s'->RelV v u->Q u s'):wpAny (model X.prog X.w) A (getAttr (.ref a) f b) Q E s:=by
 obtain⟨mA,O,r,_,_,_⟩:=aHy I.hok e
 obtain⟨u,hu,ru⟩:=tV.some_of (v:=v) (o:=mA f) (by rw[<-l];exact r f)
 exact aVz I.kIn O (c.get f) c.hd n hu (aPy ru) (h u _ (I.tok _) ru)
theorem aE7{m:Str}{g:Addr}{pl:Sem Bool}{Q:Value × List Value->Shared->Prop}(I:Inv X pins σ H s)(e:H a=some (.ins C dx fs))(c:Cls X.K C)(k:Meth X.K C m g)(l:fs.lookup m=none)
  (h:Q (.ref g,[.ref a]) s):wpAny (model X.prog X.w) A (getMethod (.ref a) m pl) Q E s:=by
 obtain⟨mA,O,r,_,_,_⟩:=aHy I.hok e
 have hn:mA m=none:=tV.none_of (by rw[<-l];exact r m)
 exact aS7 I.kIn O (c.get m) k.at_ k.fn hn h
theorem aLw{y:V}{u:Value}{Q:Unit->Shared->Prop}(I:Inv X pins σ H s)(e:H a=some (.ins C dx fs))(c:Cls X.K C)(n:jO X.K C f)(hl:fs.length<1000)(ry:RelV y u)
  (h:∀ s',Inv X pins σ (upd H a (.ins C dx (vX f y fs))) s'->Q () s'):wpAny (model X.prog X.w) A (setAttr (.ref a) f u) Q E s:=by
 obtain⟨mA,O,r,wi,_,ho⟩:=aHy I.hok e
 have hz:(fs.map (·.1)).length<=sizeLine:=by rw[List.length_map,sizeLine_eq];omega
 refine aW0 I.kIn O c.sa c.po n.taker c.hd wi hz fun h' O' sb=>h _ ?_
 have hd:∃ o,h'.get? dx=some o:=let ⟨o,_,_,e',_⟩:=O'.ns;⟨o,e'⟩
 refine I.write (x:=a) (e:=dx) (by rw[e];exact True.intro) (.inr ho) (fun b q hb z=>(sb.2 b hb).trans z) hd ?_
 refine⟨by rw[bQ O.ne];exact ho,?_,O.ne,O'.obj,_,O'.ns,fun g=>?_,fun g hg=>?_⟩
 ·have:=aCs f y fs;omega
 ·show tV ((vX f y fs).lookup g) (if g=f then some u else mA g)
  rw[aCr]
  by_cases q:g=f
  ·rw[if_pos q,if_pos q];exact ry
  ·rw[if_neg q,if_neg q];exact r g
 ·by_cases q:g=f
  ·rw[q];exact(aC0 f y fs).1
  ·refine(aC0 f y fs).2 g (wi g fun z=>hg ?_)
   show (if g=f then some u else mA g)=none
   rw[if_neg q];exact z
theorem Inv.made(I:Inv X pins σ H s):Inv X pins σ (upd (upd H s.heap.objs.size (.own (s.heap.objs.size+1))) (s.heap.objs.size+1) (.ins C s.heap.objs.size []))
  {s with heap:=(s.heap.push PySem.W.emptyDict).push (PySem.W.instObj C s.heap.objs.size)}:=by
 have e1:(s.heap.push PySem.W.emptyDict).get? s.heap.objs.size=some PySem.W.emptyDict:=Heap.get?_push_size s.heap rfl
 have e2:((s.heap.push PySem.W.emptyDict).push (PySem.W.instObj C s.heap.objs.size)).get? (s.heap.objs.size+1)=some (PySem.W.instObj C s.heap.objs.size):=by
  have:=Heap.get?_push_size (s.heap.push PySem.W.emptyDict) (o:=PySem.W.instObj C s.heap.objs.size) rfl
  rwa [Heap.size_push]at this
 have e3:(s.heap.push PySem.W.emptyDict).Ns s.heap.objs.size (fun _=>none):=⟨PySem.W.emptyDict, #[],_,e1,rfl,(fun e he=>absurd he (by simp)),fun _=>rfl⟩
 have I1:=I.laid (a:=s.heap.objs.size) (o := .own (s.heap.objs.size+1)) (h':=s.heap.push PySem.W.emptyDict) (t':=s.toks) (fun b u q=>Heap.get?_push_of_some _ q) (Nat.le_refl _) ⟨_,e1⟩
 refine I1.laid (a:=s.heap.objs.size+1) (o := .ins C s.heap.objs.size []) (t':=s.toks) (fun b u q=>Heap.get?_push_of_some _ q) (Nat.le_of_eq (Heap.size_push _ _)) ?_
 have ne:s.heap.objs.size≠s.heap.objs.size+1:=Nat.ne_of_lt (Nat.lt_succ_self _)
 refine⟨by rw[bQ ne,cH],Nat.zero_le _,ne,e2,fun _=>none,(Heap.Ns1.of_empty e3).at fun o q=>Heap.get?_push_of_some _ q,fun _=>True.intro,fun y hy=>absurd rfl hy⟩
theorem aW1{prog:Program}{w:World}{env:Env}{e:Expr}{f:Str}{pos:Pos}{s:Shared}{Q:Value->Shared->Prop}(hb:attributeBase e f env (eval e env)=eval e env)
  (h:wpAny (model prog w) A (eval e env) (fun o s₁=>wpAny (model prog w) A (getAttr o f true) Q E s₁) E s):wpAny (model prog w) A (eval (.Attribute e f pos) env) Q E s :=
 Attribute_any_ h (by rw[arm_eval_Attribute,hb])
end
def bGf(K:PySem.W.Frag)(ta:TE)(f:Str):TE:=fun σ H Q=>ta σ H fun x H1=>∃ a C dx fs v,x = .ref a/\H1 a=some (.ins C dx fs)/\Cls K C/\jO K C f/\fs.lookup f=some v/\Q v H1
def bGg(K:PySem.W.Frag)(ta tv:TE)(f:Str):TS:=fun D σ H=>tv σ H fun y H1=>ta σ H1 fun x H2=>∃ a C dx fs,x = .ref a/\H2 a=some (.ins C dx fs)/\Cls K C/\jO K C f/\fs.length<1000 /\
 D.nx σ (upd H2 a (.ins C dx (vX f y fs)))
section
variable{X:Cx}{o e value:Expr}{f:Str}{pos pos' tpos:Pos}{ta tv:TE}
theorem aZx(he:PE X e ta)(hb:attributeBase e f X.env (eval e X.env)=eval e X.env):PE X (.Attribute e f pos) (bGf X.K ta f):=by
 intro pins s σ H Q I h
 refine aW1 hb (thn (he pins s σ H _ I h) fun u s1 ⟨x,H1,I1,rx,a,C,dx,fs,v,ex,ea,c,n,l,q⟩=>?_)
 subst ex
 obtain rfl:u=Value.ref a:=rx
 exact aLv I1 ea c n l fun u' s2 I2 ru=>⟨v,H1,I2,ru,q⟩
theorem aZy(ha:PE X o ta)(hv:PE X value tv)(hs:swapsWith value (some (.Attribute o f pos')) pos.line X.env=pure false):PS X (.Assign [.Attribute o f pos'] value pos) (bGg X.K ta tv f):=by
 intro pins s σ H D I h
 refine plainObj_wpAny_Assign_Attribute (thn (hv pins s σ H _ I h) fun u s1 ⟨y,H1,I1,ry,q⟩=>thn (ha pins s1 σ H1 _ I1 q) fun ov s2 ⟨x,H2,I2,rx,a,C,dx,fs,ex,ea,c,n,l,q2⟩=>?_) hs
 subst ex
 obtain rfl:ov=Value.ref a:=rx
 exact aLw I2 ea c n l ry fun s3 I3=>⟨σ,_,I3,q2⟩
end
section
variable{X:Cx}{pins:List (Addr × Obj)}{σ:St}{H:Hp}{s:Shared}{A:Around}{E:Value->Shared->Prop}{Q:Value->Shared->Prop}{c:Value}{b:Bool}
inductive TyOf (K:PySem.W.Frag) (H:Hp):V->Value->Prop where
 | non:TyOf K H .non (.type "NoneType")
 | bl (x:Bool):TyOf K H (.bl x) (.type "bool")
 | int (i:Int):TyOf K H (.int i) (.type "int")
 | str (x:Str):TyOf K H (.str x) (.type "str")
 | flt (x:UInt64):TyOf K H (.flt x) (.type "float")
 | lst {a:Addr} {xs:List V} (e:H a=some (.lst xs)):TyOf K H (.ref a) (.type "list")
 | frz {a:Addr} {o:Obj} {xs:List V} (e:H a=some (.frz o (.lst xs))):TyOf K H (.ref a) (.type "list")
 | tup {a:Addr} {xs:List V} (e:H a=some (.tup xs)):TyOf K H (.ref a) (.type "tuple")
 | dK {a:Addr} {kvs:List (Key × V)} (e:H a=some (.dK kvs)):TyOf K H (.ref a) (.type "dict")
 | dT {a:Addr} {kvs:List (List Key × V)} (e:H a=some (.dT kvs)):TyOf K H (.ref a) (.type "dict")
 | ins {a C dx:Addr} {fs:List (Str × V)} (e:H a=some (.ins C dx fs)) (cl:Cls K C) (ha:PySem.W.findIn K (.ref C) "__class__" = some (some (.builtin "object.__class__")))
   (hn:PySem.W.specialIn K (.builtin "object.__class__") "__get__" = some (some (.builtin "getset_descriptor.__get__"))) (htk:PySem.W.takesIn K (.builtin "object.__class__")=some true)
   (hm:PySem.W.mroIn K C (.type "object")=some true):TyOf K H (.ref a) (.ref C)
end
end L2
namespace L2
open PySem PySem.Spec PyProof.Rows
structure Room(k:Nat)(A:Around):Prop where
 hd:A.handled=none
 dp:A.depth+3*k+5<recursionLimit
 un:A.units+16*k+200<cLine
theorem Room.mono{j k:Nat}{A:Around}(r:Room k A)(h:j<=k):Room j A:=⟨r.hd,by have:=r.dp;omega,by have:=r.un;omega⟩
theorem Room.deeper{k:Nat}{A:Around}(r:Room (k+1) A)(env:Env):Room k (A.deeper env) :=
 ⟨r.hd,by have:=r.dp;show A.depth+1+3*k+5<_;omega,by have:=r.un;show A.units+3+16*k+200<_;omega⟩
theorem aLx{A:Around}{C:Addr}{us:List Value}{kw:List (Str × Value)}:(A.under (.builtin "type.__call__" ⟨.ref C::us,kw⟩)).depth=A.depth+1:=by
 first | rfl | simp[Around.under,Code.weight,Code.isCreation,Code.isGuard,Code.isCaller,Code.frames,Code.isFrame,guardIds]
theorem aLy{A:Around}{C:Addr}{us:List Value}{kw:List (Str × Value)}:(A.under (.builtin "type.__call__" ⟨.ref C::us,kw⟩)).units=A.units+1:=by
 first | rfl | simp[Around.under,Code.cUnits,Code.frames,Code.isFrame]
theorem Room.make{k:Nat}{A:Around}(r:Room (k+1) A)(C:Addr)(us:List Value)(kw:List (Str × Value)):Room k (A.under (.builtin "type.__call__" ⟨.ref C::us,kw⟩)) :=
 ⟨r.hd,by have:=r.dp;rw[aLx];omega,by have:=r.un;rw[aLy];omega⟩
theorem Room.depth{k:Nat}{A:Around}(r:Room k A):A.depth<recursionLimit:=by have:=r.dp;omega
theorem Room.units{k:Nat}{A:Around}(r:Room k A):A.units+64<cLine:=by have:=r.un;omega
def bGh:TA:=fun _ H Q=>Q [] H
def bD3(ta:TE)(tr:TA):TA:=fun σ H Q=>ta σ H fun x H1=>tr σ H1 fun xs H2=>Q (x::xs) H2
section
variable{X:Cx}{e:Expr}{es:List Expr}{te:TE}{t:TA}{pos:Pos}
theorem jP:PA X [] bGh:=fun _ _ _ _ H Q I h=>Calls.spliced_nil ⟨[],H,I,.nil,h⟩
theorem eQ(ha:PE X e te)(hr:PA X es t)(hs:starEach (e::es) X.env=(false,eval e X.env)::starEach es X.env:=by rfl):PA X (e::es) (bD3 te t):=by
 intro pos pins s σ H Q I h
 rw[hs]
 show wpAny _ _ (spliced ((false,eval e X.env)::backTo pos (starEach es X.env))) _ _ s
 refine Calls.spliced_cons (thn (ha pins s σ H _ I h) fun u s1 ⟨x,H1,I1,r1,q1⟩=>?_)
 exact thn (hr pos pins s1 σ H1 _ I1 q1) fun us s2 ⟨xs,H2,I2,r2,q2⟩=>⟨x::xs,H2,I2,.cons r1 r2,q2⟩
def bGi(t:TA):TE:=fun σ H Q=>t σ H fun xs H1=>xs.length<=sizeLine/\∀ p,H1 p=none->Q (.ref p) (upd H1 p (.tup xs))
def bGj(t:TA):TE:=fun σ H Q=>t σ H fun xs H1=>xs.length<=sizeLine/\∀ p,H1 p=none->Q (.ref p) (upd H1 p (.lst xs))
theorem aZz{x1}(h:PA X es t):PE X (.Tuple es x1 pos) (bGi t):=by
 intro pins s σ H Q I hq
 refine wpAny_Tuple_spliced (thn (h pos pins s σ H _ I hq) fun us s1 ⟨xs,H1,I1,r,z,q⟩=>⟨by rw[<-r.length];exact z,?_⟩)
 have hf:H1 s1.heap.objs.size=none:=I1.hok.fresh (Nat.le_refl _)
 refine⟨.ref s1.heap.objs.size,upd H1 s1.heap.objs.size (.tup xs),I1.laid (t':=s1.toks) (fun b u e=>Heap.get?_push_of_some _ e) (Nat.le_refl _) ?_,rfl,q _ hf⟩
 exact⟨z,us,r,⟨_,Heap.get?_push_size _ rfl,rfl,_,rfl⟩⟩
theorem aS9(h:PA X es t):PE X (.List es pos) (bGj t):=by
 intro pins s σ H Q I hq
 refine wpAny_List_spliced (thn (h pos pins s σ H _ I hq) fun us s1 ⟨xs,H1,I1,r,z,q⟩=>⟨by rw[<-r.length];exact z,?_⟩)
 have hf:H1 s1.heap.objs.size=none:=I1.hok.fresh (Nat.le_refl _)
 refine⟨.ref s1.heap.objs.size,upd H1 s1.heap.objs.size (.lst xs),I1.laid (t':=s1.toks) (fun b u e=>Heap.get?_push_of_some _ e) (Nat.le_refl _) ?_,rfl,q _ hf⟩
 exact⟨z,us,0,r,Heap.get?_push_size _ rfl⟩
end
abbrev Sp:=List V->Hp->VK->XK->Prop
abbrev CXT:=List Env->Hp->Shared->XK->Value->Shared->Prop
structure Env0(P:Program)(w:World)(K:PySem.W.Frag)(mg:Str->Option Value)(base:Heap)(A:Around)(outer:List Env)(s:Shared)(H:Hp):Prop where
 frames:A.frames=some outer
 mod:Mod K mg base
 bs:∀ b o,base.get? b=some o->s.heap.get? b=some o/\H b=none
 bsz:base.objs.size<=s.heap.objs.size
 funs:s.heap.FunFrames base outer
 frf:∀ b∈frs outer,H b=none
 hok:HOk P w H s.heap
 bare:AllBare s.gens
def CE(outer:List Env)(P:Program)(w:World)(H:Hp)(s:Shared)(Q:VK)(u:Value)(s':Shared):Prop :=
 ∃ v H',s'.os=s.os/\AllBare s'.gens/\Un (frs outer) [] H H' s.heap s'.heap/\HOk P w H' s'.heap/\RelV v u/\Q v H'
def CR(CX:CXT)(outer:List Env)(P:Program)(w:World)(H:Hp)(s:Shared)(Q:VK)(E:XK)(r:Result)(s':Shared):Prop :=
 match r with
 | .ok (.ret u)=>CE outer P w H s Q u s'
 | .ok _=>False
 | .error e=>CX outer H s E e s'
structure FnOk(P:Program)(w:World)(K:PySem.W.Frag)(mg:Str->Option Value)(base:Heap)(CX:CXT)(k:Nat)(f:Addr)(fd:FuncData)(ps:List Str)(sp:Sp):Prop where
 len:∀ vs H Q E,sp vs H Q E->vs.length=ps.length
 run:∀ (A:Around) (outer:List Env) (s:Shared) (H:Hp) (args:Args) (us:List Value) (vs:List V) (Q:VK) (E:XK),Room k A->Env0 P w K mg base A outer s H->BindsTo s fd args (ps.zip us)->Vals vs us->sp vs H Q E ->
  codeAny (model P w) A (.call (.ref f) args) (CR CX outer P w H s Q E) s
theorem Env0.make{P:Program}{w:World}{K:PySem.W.Frag}{mg:Str->Option Value}{base:Heap}{A:Around}{outer:List Env}{s:Shared}{H:Hp}(e:Env0 P w K mg base A outer s H)(C:Addr)(us:List Value)(kw:List (Str × Value)) :
  Env0 P w K mg base (A.under (.builtin "type.__call__" ⟨.ref C::us,kw⟩)) outer s H:=⟨by first | exact e.frames | (simpa [Around.under,Code.envs,Code.isFrame,pushEnvs] using e.frames),e.mod,e.bs,e.bsz,e.funs,e.frf,e.hok,e.bare⟩
section
variable{X:Cx}{pins:List (Addr × Obj)}{σ:St}{H:Hp}{s s':Shared}
theorem Inv.env0(I:Inv X pins σ H s):Env0 X.prog X.w X.K X.mg X.base X.A X.stack s H :=
 ⟨I.ok.frames,I.ok.mod,I.bs,Nat.le_trans I.ok.bsz I.sz,I.stack,I.stkFree,I.hok,I.bare⟩
theorem Inv.after{Q:VK}{u:Value}(I:Inv X pins σ H s)(h:CE X.stack X.prog X.w H s Q u s'):EP X pins σ Q u s':=by
 obtain⟨v,H',os,bare,un,hok,r,q⟩:=h
 obtain⟨hh,g,d,t,os'⟩:=s'
 obtain rfl:os'=s.os:=os
 exact⟨v,H',I.call (h':=hh) (g':=g) (d':=d) (t':=t) (ch:=[]) un hok bare (fun b z=>absurd z (by simp)),r,q⟩
end
def bD4(sp:Sp)(dvs:List V)(E:XK)(t:TA):TE:=fun σ H Q=>t σ H fun vs H1=>sp (vs++dvs) H1 Q E
def bD5(C:Addr)(m:Str)(sp:Sp)(dvs:List V)(E:XK)(ta:TE)(t:TA):TE:=fun σ H Q=>ta σ H fun x H1=>∃ a dx fs,x = .ref a/\H1 a=some (.ins C dx fs)/\fs.lookup m=none /\
 t σ H1 fun vs H2=>sp (x::(vs++dvs)) H2 Q E
def bD6(C:Addr)(sp:Sp)(dvs:List V)(E:XK)(t:TA):TE:=fun σ H Q=>t σ H fun vs H1=>∀ x dx,H1 x=none->H1 dx=none->dx≠x ->
 sp (.ref x::(vs++dvs)) (upd (upd H1 dx (.own x)) x (.ins C dx [])) (fun v H2=>v = .non/\Q (.ref x) H2) E
def Binds(K:PySem.W.Frag)(fd:FuncData)(ps:List Str)(ds:List Value):Prop :=
 ∀ (s:Shared) (us:List Value),K.In s.heap->(us++ds).length=ps.length->BindsTo s fd ⟨us,[]⟩ (ps.zip (us++ds))
theorem Binds.all{K:PySem.W.Frag}{fd:FuncData}{ps:List Str}(h:∀ us:List Value,us.length=ps.length->bindArgs fd ⟨us,[]⟩=pure (ps.zip us)):Binds K fd ps []:=fun s us _ hl=>by
 rw[List.append_nil]at hl ⊢
 exact .of_eq (h us hl)
def aC1(CX:CXT)(X:Cx)(E:XK):Prop:=∀ (pins:List (Addr × Obj)) (σ:St) (H:Hp) (s:Shared) (e:Value) (s':Shared),Inv X pins σ H s->CX X.stack H s E e s'->X.xe e s'
section
variable{X:Cx}{CX:CXT}{k:Nat}{f C:Addr}{fd:FuncData}{ps:List Str}{sp:Sp}{dvs:List V}{ds:List Value}{E:XK}{x m:Str}{p pos apos:Pos}{e o:Expr}{es:List Expr}{ta:TE}{t:TA}
theorem aSa{pins:List (Addr × Obj)}{σ:St}{H:Hp}{s:Shared}{Q:VK}{us:List Value}{vs:List V}(F:FnOk X.prog X.w X.K X.mg X.base CX k f fd ps sp)(hr:Room k X.A)(hb:Binds X.K fd ps ds)(hd:Vals dvs ds)(hx:aC1 CX X E)
  (I:Inv X pins σ H s) (r:Vals vs us) (h:sp (vs++dvs) H Q E):wpAny (model X.prog X.w) X.A (call (.ref f) us) (EP X pins σ Q) X.xe s:=by
 have r2:Vals (vs++dvs) (us++ds):=r.append hd
 have hl:(us++ds).length=ps.length:=by rw[<-r2.length];exact F.len _ _ _ _ h
 refine wpAny_call (codeAny_mono (F.run X.A X.stack s H ⟨us,[]⟩ (us++ds) (vs++dvs) Q E hr I.env0 (hb s us I.kIn hl) r2 h) fun r s' hq=>?_)
 cases r with
 | error e=>exact hx pins σ H s e s' I hq
 | ok fl =>
  cases fl with
  | ret u=>exact I.after hq
  | next=>exact False.elim hq
  | brk=>exact False.elim hq
  | cont=>exact False.elim hq
theorem aNk(F:FnOk X.prog X.w X.K X.mg X.base CX k f fd ps sp)(hr:Room k X.A)(hg:Gl X x)(hm:X.mg x=some (.ref f))(hk:PySem.W.keepIn X.K (.ref f)=true)(hb:Binds X.K fd ps ds)(hd:Vals dvs ds)(hx:aC1 CX X E)
  (ha:PA X (e::es) t) (hdb:(x==("__debug__" : Str))=false:=by decide) (he:starEach (e::es) X.env=(false,eval e X.env)::starEach es X.env:=by rfl) (hpl:(backTo pos (starEach es X.env)).any (·.1)=false:=by rfl) :
  PE X (.Call (.Name x p) (e::es) [] pos) (bD4 sp dvs E t):=by
 intro pins s σ H Q I h
 refine wpAny_Call_Name_kw (aDp I hg hm ?_ hdb)
 refine PySem.W.callWith_K (h₀:=X.base) I.ok.mod.kin hk (thn (ha pos pins s σ H _ I h) fun us s1 ⟨vs,H1,I1,r,q⟩=>⟨I1.kIn,?_⟩) he hpl
 exact aSa F hr hb hd hx I1 r q
theorem aNl{pl:Sem Bool}(he:PE X o ta)(c:Cls X.K C)(hm:Meth X.K C m f)(F:FnOk X.prog X.w X.K X.mg X.base CX k f fd ps sp)(hr:Room k X.A)(hb:Binds X.K fd ps ds)(hd:Vals dvs ds)(hx:aC1 CX X E)(ha:PA X (e::es) t)
  (hst:starEach (e::es) X.env=(false,eval e X.env)::starEach es X.env:=by rfl) (hpl:(backTo pos (starEach es X.env)).any (·.1)=false:=by rfl)
  (ht:eval (.Call (.Attribute o m apos) (e::es) [] pos) X.env=(do
   let ov <- eval o X.env
   standAt apos.atName
   let (f,first) <- holding [ov] (getMethod ov m pl)
   callWith pos f first (backTo pos (starEach (e::es) X.env)) (backToKw pos (keywordEach [] X.env))):=by rfl) :
  PE X (.Call (.Attribute o m apos) (e::es) [] pos) (bD5 C m sp dvs E ta t):=by
 intro pins s σ H Q I h
 refine PySem.W.methodCall_KW (pl:=pl) (thn (he pins s σ H _ I h) fun u s1 ⟨x,H1,I1,rx,a,dx,fs,ex,ea,l,q⟩=>?_) ht
 subst ex
 obtain rfl:u=Value.ref a:=rx
 refine aE7 I1 ea c hm l ?_
 refine PySem.W.callWith_K (first:=[.ref a]) (h₀:=X.base) I.ok.mod.kin hm.kp (thn (ha pos pins s1 σ H1 _ I1 q) fun us s2 ⟨vs,H2,I2,r,q2⟩=>⟨I2.kIn,?_⟩) hst hpl
 exact aSa (us := .ref a::us) (vs := .ref a::vs) F hr hb hd hx I2 (.cons rfl r) q2
structure Mk(K:PySem.W.Frag)(C f:Addr):Prop where
 makes:PySem.W.makesIn K C=true
 init:PySem.W.findIn K (.ref C) "__init__" = some (some (.ref f))
 fn:PySem.W.isFn K (.ref f)=true
 kp:PySem.W.keepIn K (.ref C)=true
theorem aSb{pins:List (Addr × Obj)}{σ:St}{H:Hp}{s:Shared}{Q:VK}{us:List Value}{vs:List V}(M:Mk X.K C f)(F:FnOk X.prog X.w X.K X.mg X.base CX k f fd ps sp)(hr:Room (k+1) X.A)(hb:Binds X.K fd ps ds)(hd:Vals dvs ds)
  (hx:aC1 CX X E) (I:Inv X pins σ H s) (r:Vals vs us)
  (h:∀ x dx,H x=none->H dx=none->dx≠x->sp (.ref x::(vs++dvs)) (upd (upd H dx (.own x)) x (.ins C dx [])) (fun v H2=>v = .non/\Q (.ref x) H2) E) :
  wpAny (model X.prog X.w) X.A (call (.ref C) us) (EP X pins σ Q) X.xe s:=by
 have hq:=h (s.heap.objs.size+1) s.heap.objs.size (I.hok.fresh (Nat.le_succ _)) (I.hok.fresh (Nat.le_refl _)) (Nat.ne_of_lt (Nat.lt_succ_self _))
 have I2:=Inv.made (C:=C) I
 have r2:Vals (V.ref (s.heap.objs.size+1)::(vs++dvs)) (Value.ref (s.heap.objs.size+1)::(us++ds)) := .cons rfl (r.append hd)
 have hl:(Value.ref (s.heap.objs.size+1)::us++ds).length=ps.length:=by
  have e:=r2.length
  rw[F.len _ _ _ _ hq]at e
  exact e.symm
 refine wpAny_call (aS8 (f:=f) I.kIn M.makes M.init (beq_iff_eq.mp M.fn) (codeAny_mono (F.run _ X.stack _ _ ⟨Value.ref (s.heap.objs.size+1)::us,[]⟩ (Value.ref (s.heap.objs.size+1)::(us++ds)) _ _ E (hr.make C us [])
  (I2.env0.make C us []) (hb _ (Value.ref (s.heap.objs.size+1)::us) I2.kIn hl) r2 hq) fun r s' hq' => ?_))
 cases r with
 | error e=>exact hx pins σ _ _ e s' I2 hq'
 | ok fl =>
  cases fl with
  | ret u =>
   obtain⟨v,H',I3,rv,ev,q3⟩:=I2.after hq'
   subst ev
   exact⟨rv,⟨V.ref (s.heap.objs.size+1),H',I3,rfl,q3⟩⟩
  | next=>exact False.elim hq'
  | brk=>exact False.elim hq'
  | cont=>exact False.elim hq'
theorem aW2(M:Mk X.K C f)(F:FnOk X.prog X.w X.K X.mg X.base CX k f fd ps sp)(hr:Room (k+1) X.A)(hg:Gl X x)(hm:X.mg x=some (.ref C))(hb:Binds X.K fd ps ds)(hd:Vals dvs ds)(hx:aC1 CX X E)
  (ha:PA X (e::es) t) (hdb:(x==("__debug__" : Str))=false:=by decide) (he:starEach (e::es) X.env=(false,eval e X.env)::starEach es X.env:=by rfl) (hpl:(backTo pos (starEach es X.env)).any (·.1)=false:=by rfl) :
  PE X (.Call (.Name x p) (e::es) [] pos) (bD6 C sp dvs E t):=by
 intro pins s σ H Q I h
 refine wpAny_Call_Name_kw (aDp I hg hm ?_ hdb)
 refine PySem.W.callWith_K (h₀:=X.base) I.ok.mod.kin M.kp (thn (ha pos pins s σ H _ I h) fun us s1 ⟨vs,H1,I1,r,q⟩=>⟨I1.kIn,?_⟩) he hpl
 exact aSb M F hr hb hd hx I1 r q
end
section
variable{X:Cx}{CX:CXT}{k:Nat}{f C:Addr}{fd:FuncData}{ps ks:List Str}{sp:Sp}{E:XK}{x m:Str}{p pos apos kpos:Pos}{e o:Expr}{es:List Expr}{kws:List Keyword}{te ta:TE}{t tk:TA}{nm:Option Str}
variable{g:List Value->List Value->List Value}{gV:List V->List V->List V}
end
structure FnScope(N P:List Str)(sc:Scope):Prop where
 kind:sc.kind = .function
 co:sc.isCoroutine=false
 gen:sc.isGenerator=false
 nd:N.Nodup
 pre:N.take P.length=P
 par:∀ x∈P,sc.names.lookup x=some .local\/sc.names.lookup x=some .cell
 nofree:∀ y∈sc.names,y.2 ≠ .free
theorem aGn{kindOf:Str->Option NameKind}{x:Str}:∀ {binds:List (Str × Value)} {m:Str->Option Value},(∀ v,(x,v) ∉ binds)->bindL kindOf binds m x=m x
 | [],_,_=>rfl
 | (n,v)::r,m,h=>by
  unfold bindL
  rw[aGn fun w hw=>h w (List.mem_cons_of_mem _ hw)]
  split
  ·have:x≠n:=by rintro rfl;exact h v List.mem_cons_self
   simp[this]
  ·rfl
theorem aGo{kindOf:Str->Option NameKind}{x:Str}:∀ {binds:List (Str × Value)} {m:Str->Option Value},(∀ v,(x,v) ∉ binds)->bindC kindOf binds m x=m x
 | [],_,_=>rfl
 | (n,v)::r,m,h=>by
  unfold bindC
  rw[aGo fun w hw=>h w (List.mem_cons_of_mem _ hw)]
  split
  ·rfl
  ·have:x≠n:=by rintro rfl;exact h v List.mem_cons_self
   simp[this]
theorem aGp{kindOf:Str->Option NameKind}{x:Str}{v:Value}:∀ {P:List Str} {vs:List Value} {i:Nat} {m:Str->Option Value},P.Nodup->P[i]?=some x->vs[i]?=some v->kindOf x=some .local ->
  bindL kindOf (P.zip vs) m x=some v
 | [],_,_,_,_,h,_,_=>by simp at h
 | _::_,[],_,_,_,_,h,_=>by simp at h
 | p::P,w::vs,0,m,nd,h1,h2,hk=>by
  simp at h1 h2;subst h1;subst h2
  show bindL kindOf ((p,w)::P.zip vs) m p=_
  unfold bindL
  rw[aGn fun v hv=>(List.nodup_cons.mp nd).1 (List.of_mem_zip hv).1,if_pos hk]
  simp
 | p::P,w::vs,i+1,m,nd,h1,h2,hk=>by
  show bindL kindOf ((p,w)::P.zip vs) m x=_
  unfold bindL
  exact aGp (i:=i) (List.nodup_cons.mp nd).2 (by simpa using h1) (by simpa using h2) hk
theorem aGq{kindOf:Str->Option NameKind}{x:Str}{v:Value}:∀ {P:List Str} {vs:List Value} {i:Nat} {m:Str->Option Value},P.Nodup->P[i]?=some x->vs[i]?=some v->kindOf x≠some .local ->
  bindC kindOf (P.zip vs) m x=some v
 | [],_,_,_,_,h,_,_=>by simp at h
 | _::_,[],_,_,_,_,h,_=>by simp at h
 | p::P,w::vs,0,m,nd,h1,h2,hk=>by
  simp at h1 h2;subst h1;subst h2
  show bindC kindOf ((p,w)::P.zip vs) m p=_
  unfold bindC
  rw[aGo fun v hv=>(List.nodup_cons.mp nd).1 (List.of_mem_zip hv).1,if_neg hk]
  simp
 | p::P,w::vs,i+1,m,nd,h1,h2,hk=>by
  show bindC kindOf ((p,w)::P.zip vs) m x=_
  unfold bindC
  exact aGq (i:=i) (List.nodup_cons.mp nd).2 (by simpa using h1) (by simpa using h2) hk
def start(N:List Str)(vs:List V):St:=vs.map some++List.replicate (N.length-vs.length) none
def aAp(CX:CXT)(P:Program)(w:World)(K:PySem.W.Frag)(mg:Str->Option Value)(base:Heap)(N:List Str)(qual:Str)(scope:Scope)(f:Addr)(cd:Value)(A:Around)(outer:List Env)(s:Shared)(H:Hp)(E:XK):Cx where
 prog:=P
 w:=w
 K:=K
 mg:=mg
 base:=base
 A:=A.deeper (envOfC qual scope s.heap.objs.size f cd)
 N:=N
 s₀:=s
 H₀:=H
 env:=envOfC qual scope s.heap.objs.size f cd
 outer:=outer
 stack:=envOfC qual scope s.heap.objs.size f cd::outer
 ex:=[]
 calm:=true
 fn:=fun _=>true
 pn:=[]
 xe:=fun e s'=>wpAny (model P w) (A.deeper (envOfC qual scope s.heap.objs.size f cd)) (leaving (envOfC qual scope s.heap.objs.size f cd) e) (fun _ s''=>CX outer H s E e s'') (fun e' s''=>CX outer H s E e' s'') s'
theorem aJk{sc:Scope}{n:Nat}{x:Str}(h:sc.names.lookup x=some .cell):∃ c,(cellsFrom n sc.names []).lookup x=some c:=by
 have q:=PySem.W.cellsFrom_some sc.names n [] (.inl h)
 exact Option.isSome_iff_exists.mp q
theorem aPz{CX:CXT}{P:Program}{w:World}{K:PySem.W.Frag}{mg:Str->Option Value}{base:Heap}{N ps:List Str}{qual:Str}{scope:Scope}{f:Addr}{cd:Value}{A:Around}{outer:List Env}{s s1:Shared}{H:Hp}{E:XK}{us:List Value}{vs:List V}
  (S:FnScope N ps scope) (hd:A.handled=none) (e0:Env0 P w K mg base A outer s H) (hl:vs.length=ps.length) (r:Vals vs us)
  (x:InCallC s s.heap.objs.size (bindL (envOfC qual scope s.heap.objs.size f cd).kindOf (ps.zip us) fun _=>none) (cellsFrom (s.heap.objs.size+1) scope.names []) (bindC (envOfC qual scope s.heap.objs.size f cd).kindOf (ps.zip us) fun _=>none) s1) :
  Inv (aAp CX P w K mg base N qual scope f cd A outer s H E) [] (start N vs) H s1:=by
 have hpl:ps.length<=N.length:=by have:=congrArg List.length S.pre;rw[List.length_take]at this;omega
 obtain⟨h1,tk,rfl,hk⟩:=x.done
 have noA:∀ b:Addr,b ∉ (aAp CX P w K mg base N qual scope f cd A outer s H E).ex:=fun b z=>absurd (show b∈([]:List Addr) from z) (by simp)
 refine⟨⟨e0.mod,S.kind,rfl,rfl,Nat.le_refl _,fun y z c h1 h2=>?_,fun y hy=>?_,fun y c _ h=>?_,fun _=>hd,Around.frames_deeper e0.frames,.inr ⟨rfl,rfl⟩,fun b z=>absurd z (noA b),e0.bs,e0.bsz,fun b _ _=>noA b,fun b z=>absurd z (noA b),e0.funs,e0.frf⟩,
  rfl,e0.bare,Un.kept hk,⟨_,x.toInCall.ns,fun i y v h1 h2 h3=>?_⟩,fun y c h=>⟨_,x.cell y c h⟩,e0.hok.fresh (Nat.le_refl _),fun y c h=>?_,fun p hp=>absurd (show p∈([]:List (Addr × Obj)) from hp) (by simp),e0.hok.kept hk,?_⟩
 ·exact name_of_addr x.apart (PySem.mem_of_lookup h1) (PySem.mem_of_lookup h2)
 ·have hy:scope.names.lookup y=some .cell\/scope.names.lookup y=some .free:=hy
  rcases hy with hy | hy
  ·exact aJk hy
  ·exact absurd rfl (S.nofree _ (PySem.mem_of_lookup hy))
 ·exact Nat.le_of_lt (x.above y c (PySem.mem_of_lookup h))
 ·have hi:i<vs.length:=by
   unfold start at h2
   by_cases hi:i<vs.length
   ·exact hi
   ·rw[List.getElem?_append_right (by simpa using hi)]at h2
    rw[List.getElem?_replicate]at h2
    split at h2<;>cases h2
  have ha:vs[i]?=some v:=by
   unfold start at h2
   rw[List.getElem?_append_left (by simpa using hi),List.getElem?_map]at h2
   cases e:vs[i]? with
   | none=>rw[e]at h2;cases h2
   | some a=>rw[e]at h2;cases h2;rfl
  obtain⟨u,hu,rv⟩:=r.get ha
  have hp:ps[i]?=some y:=by
   rw[<-S.pre,List.getElem?_take_of_lt (by omega)];exact h1
  have ndP:ps.Nodup:=by rw[<-S.pre];exact S.nd.sublist (List.take_sublist _ _)
  refine⟨u,rv,?_⟩
  rcases S.par y (List.mem_of_getElem? hp) with k | k
  ·exact .inl ⟨k,aGp ndP hp hu k⟩
  ·obtain⟨c,e⟩:=aJk (n:=s.heap.objs.size+1) k
   refine .inr ⟨.inl k,c,e,?_⟩
   have q:=x.cell y c e
   rw[aGq ndP hp hu (by show scope.names.lookup y≠_;rw[k];decide)]at q
   exact q
 ·exact e0.hok.fresh (Nat.le_of_lt (x.above y c (PySem.mem_of_lookup h)))
 ·unfold start
  show _=N.length
  rw[List.length_append,List.length_map,List.length_replicate]
  omega
theorem aSc{CX:CXT}{P:Program}{w:World}{K:PySem.W.Frag}{mg:Str->Option Value}{base:Heap}{k:Nat}{f:Addr}{name qual:Str}{params:Arguments}{body:List Stmt}{scope:Scope}{dV kV doc pm cdv ct oc:Value}{an od:Option Addr}
  {osl:Array (Option Value)} {N ps:List Str} {sp:Sp} (lk:K.lookup f=some ⟨oc,od,.func (PySem.W.fnOf name qual params body scope dV kV doc pm an cdv ct),osl⟩) (hcd:PySem.W.codeIn K cdv qual=true) (S:FnScope N ps scope)
  (len:∀ vs H Q E,sp vs H Q E->vs.length=ps.length)
  (hbody:∀ (A:Around) (outer:List Env) (s:Shared) (H:Hp) (vs:List V) (Q:VK) (E:XK),Room k (A.deeper (envOfC qual scope s.heap.objs.size f cdv))->sp vs H Q E ->
   ∃ t,PSs (aAp CX P w K mg base N qual scope f cdv A outer s H E) body t/\t {nx:=fun _ H'=>Q .non H',rt:=Q} (start N vs) H) :
  FnOk P w K mg base CX (k+1) f (PySem.W.fnOf name qual params body scope dV kV doc pm an cdv ct) ps sp:=by
 refine⟨len,fun A outer s H args us vs Q E hr e0 hb r hsp=>?_⟩
 have hl:=len _ _ _ _ hsp
 have KX:K.In s.heap:=e0.mod.kin.keeps fun b o e=>(e0.bs b o e).1
 have lim:s.heap.NoLimit:=e0.mod.nolimit.keeps fun b o e=>(e0.bs b o e).1
 have hkind:∀ y∈ps.zip us,scope.names.lookup y.1=some .local\/(scope.names.lookup y.1=some .cell/\((cellsFrom (s.heap.objs.size+1) scope.names []).lookup y.1).isSome=true):=fun⟨n,v⟩ hy=>by
  rcases S.par n (List.of_mem_zip hy).1 with q | q
  ·exact .inl q
  ·exact .inr ⟨q,PySem.W.cellsFrom_some _ _ _ (.inl q)⟩
 refine codeAny_call_function hr.depth (KX _ _ lk) rfl S.co S.gen rfl (PySem.W.codeRec_of KX hcd) (hb _ _ _ _ ?_)
 refine wpAny_newFunctionEnv_cells S.kind hkind fun env he s1 x=>?_
 subst he
 refine⟨lim.keeps x.toInCall.keep,codeAny_func ?_⟩
 obtain⟨t,ht,hq⟩:=hbody A outer s H vs Q E (hr.deeper _) hsp
 have I:Inv (aAp CX P w K mg base N qual scope f cdv A outer s H E) [] (start N vs) H s1:=aPz S hr.hd e0 hl r x
 refine wpAny_mono (ht [] s1 (start N vs) H _ I hq) (fun fl s' hs=>?_) fun e s' hs=>hs
 have fin:∀ {σ':St} {H':Hp} {v:V} {u:Value},Inv (aAp CX P w K mg base N qual scope f cdv A outer s H E) [] σ' H' s'->RelV v u->Q v H'->CE outer P w H s Q u s' :=
  fun {σ' H' v u} J rv q=>⟨v,H',J.os,J.bare,J.base,J.hok,rv,q⟩
 cases fl with
 | ret u =>
  obtain⟨v,σ',H',J,rv,q⟩:=hs
  exact fin J rv q
 | next =>
  obtain⟨σ',H',J,q⟩:=hs
  exact fin (v:=V.non) (u:=Value.none) J rfl q
 | brk =>
  obtain⟨_,_,_,q⟩:=hs
  exact False.elim q
 | cont =>
  obtain⟨_,_,_,q⟩:=hs
  exact False.elim q
end L2
namespace L2
open PySem PySem.Spec PyProof.Rows
section
variable{X:Cx}{x:Str}{p pos:Pos}{e:Expr}{es:List Expr}{t:TA}{id T:String}{r:List V->Hp->VK->Prop}
def tCB(r:List V->Hp->VK->Prop)(t:TA):TE:=fun σ H Q=>t σ H fun vs H1=>r vs H1 Q
theorem rZ(hc:nZ X (.builtin id) r)(hg:Gl X x)(hm:X.mg x=none)(hv:bootBuiltins x=some (.builtin id))(ha:PA X (e::es) t)(hn:x ≠ "__name__" := by decide)(hdb:(x==("__debug__" : Str))=false:=by decide)
  (he:starEach (e::es) X.env=(false,eval e X.env)::starEach es X.env:=by rfl) (hpl:(backTo pos (starEach es X.env)).any (·.1)=false:=by rfl):PE X (.Call (.Name x p) (e::es) [] pos) (tCB r t):=by
 intro pins s σ H Q I h
 refine wpAny_Call_Name_kw (zR I hg hm hv ?_ hn hdb)
 exact PyProof.Rows.callWith_builtin1 (thn (ha pos pins s σ H _ I h) fun us s1 ⟨vs,H1,I1,r1,q1⟩=>hc pins s1 σ H1 vs us Q I1 r1 q1) he hpl
theorem aC2(hc:nZ X (.type T) r)(hg:Gl X x)(hm:X.mg x=none)(hv:bootBuiltins x=some (.type T))(ha:PA X (e::es) t)(hn:x ≠ "__name__" := by decide)(hdb:(x==("__debug__" : Str))=false:=by decide)
  (he:starEach (e::es) X.env=(false,eval e X.env)::starEach es X.env:=by rfl) (hpl:(backTo pos (starEach es X.env)).any (·.1)=false:=by rfl):PE X (.Call (.Name x p) (e::es) [] pos) (tCB r t):=by
 intro pins s σ H Q I h
 refine wpAny_Call_Name_kw (zR I hg hm hv ?_ hn hdb)
 exact PyProof.Rows.callWith_type1 (thn (ha pos pins s σ H _ I h) fun us s1 ⟨vs,H1,I1,r1,q1⟩=>hc pins s1 σ H1 vs us Q I1 r1 q1) he hpl
end
end L2
namespace HT
open PySem PyProof.Rows
section
open PySem.SeqAt
open PySem.AutoSeq1 (wpAny_loadPart')
open PySem.MeetsSeq PySem.MeetsSeq2 PySem.MeetsSeq3
end
section
variable{prog:Program}{w:World}{A:Around}{E:Value->Shared->Prop}{s:Shared}
def sIx(n d:Nat):Option Int->Nat
 | none=>d
 | some v=>if v<0 then (v+(n:Int)).toNat else min v.toNat n
theorem sIx_none(n d:Nat):sIx n d none=d:=rfl
theorem sIx_nat(n d k:Nat):sIx n d (some (k:Int))=min k n:=by
 show (if (k:Int)<0 then ((k:Int)+(n:Int)).toNat else min (k:Int).toNat n)=min k n
 rw[if_neg (by omega),Int.toNat_natCast]
end
end HT
namespace L2
open PySem PySem.Spec PyProof.Rows
abbrev TO:=St->Hp->(Option Int->Hp->Prop)->Prop
def PO(X:Cx)(e:Option Expr)(t:TO):Prop :=
 ∀ (pins:List (Addr × Obj)) (s:Shared) (σ:St) (H:Hp) (Q:Option Int->Hp->Prop),Inv X pins σ H s->t σ H Q ->
  wpAny (model X.prog X.w) X.A (evalPart e X.env) (fun u s'=>∃ o H',Inv X pins σ H' s'/\IsPart u o/\Q o H') X.xe s
def aW3:TO:=fun _ H Q=>Q none H
def bD7(t:TE):TO:=fun σ H Q=>t σ H fun x H1=>∃ i,x = .int i/\Q (some i) H1
section
variable{X:Cx}{e:Expr}{te:TE}{lo hi:Option Expr}{tl th:TO}{pos p2:Pos}
theorem aW4:PO X none aW3:=by
 intro pins s σ H Q I h
 rw[evalPart_none]
 exact wpAny_pure ⟨none,H,I,.none,h⟩
theorem aW5(h:PE X e te):PO X (some e) (bD7 te):=by
 intro pins s σ H Q I hw
 rw[evalPart_some]
 refine thn (h pins s σ H _ I hw) fun u s1 ⟨x,H1,I1,r1,q1⟩=>?_
 obtain⟨i,rfl,q⟩:=q1
 obtain⟨t,rfl⟩:=r1
 exact⟨some i,H1,I1,.int i t,q⟩
def SlR(X:Cx)(r:V->Option Int->Option Int->Hp->VK->Prop):Prop :=
 ∀ (pins:List (Addr × Obj)) (s:Shared) (σ:St) (H:Hp) (x:V) (v vl vu:Value) (lo hi:Option Int) (sl:Addr) (Q:VK),Inv X pins σ H s->RelV x v->s.heap.IsSliceOf sl vl vu .none->IsPart vl lo->IsPart vu hi->r x lo hi H Q ->
  ∃ T id,typeLookup (.type T) "__getitem__" = pure (some (.builtin id))/\s.TypeIs v T/\wpAny (model X.prog X.w) X.A (getItem v (.ref sl)) (EP X pins σ Q) X.xe s
theorem SlR.or{r r':V->Option Int->Option Int->Hp->VK->Prop}(h:SlR X r)(h':SlR X r'):SlR X (fun x lo hi H Q=>r x lo hi H Q\/r' x lo hi H Q):=by
 intro pins s σ H x v vl vu lo hi sl Q I rx hs pl pu q
 rcases q with q | q
 ·exact h pins s σ H x v vl vu lo hi sl Q I rx hs pl pu q
 ·exact h' pins s σ H x v vl vu lo hi sl Q I rx hs pl pu q
def tSl(r:V->Option Int->Option Int->Hp->VK->Prop)(te:TE)(tl th:TO):TE:=fun σ H Q=>te σ H fun x H1=>tl σ H1 fun l H2=>th σ H2 fun u H3=>r x l u H3 Q
theorem aJl{r:V->Option Int->Option Int->Hp->VK->Prop}(hr:SlR X r)(he:PE X e te)(hl:PO X lo tl)(hu:PO X hi th):PE X (.Subscript e (.Slice lo hi none p2) pos) (tSl r te tl th):=by
 intro pins s σ H Q I h
 refine Subscript_ (thn (he pins s σ H _ I h) fun v s1 ⟨x,H1,I1,r1,q1⟩=>?_)
 refine wpAny_Slice (thn (hl pins s1 σ H1 _ I1 q1) fun vl s2 ⟨l,H2,I2,pl,q2⟩=>thn (hu pins s2 σ H2 _ I2 q2) fun vu s3 ⟨u,H3,I3,pu,q3⟩=>?_)
 rw[evalPart_none]
 refine wpAny_pure ?_
 have I4:Inv X pins σ H3 {s3 with heap:=s3.heap.push {cls := .type "slice", data := .fields #[vl,vu,.none] } }:=I3.kept (t':=s3.toks) fun b ob q=>Heap.get?_push_of_some _ q
 obtain⟨T,id,hT,ht,hg⟩:=hr pins {s3 with heap:=s3.heap.push {cls := .type "slice", data := .fields #[vl,vu,.none] } } σ H3 x v vl vu l u s3.heap.objs.size Q I4 r1 (Heap.IsSliceOf.new ..) pl pu q3
 show wpAny (model X.prog X.w) X.A (subscriptTail e (.Slice lo hi none p2) v (.ref s3.heap.objs.size)) (EP X pins σ Q) X.xe {s3 with heap:=s3.heap.push {cls := .type "slice", data := .fields #[vl,vu,.none] } }
 exact tail_any (ops:=[.ref s3.heap.objs.size,v]) ht hT hg (by with_unfolding_all rfl)
def aQ0(xs:List V)(lo hi:Option Int):List V:=(xs.drop (HT.sIx xs.length 0 lo)).take (HT.sIx xs.length xs.length hi-HT.sIx xs.length 0 lo)
theorem aJm(xs:List V)(lo hi:Option Int):(aQ0 xs lo hi).length<=xs.length:=by
 unfold aQ0
 rw[List.length_take,List.length_drop]
 omega
end
end L2
namespace L2
open PySem PySem.Spec PyProof.Rows
def ixN(n:Nat)(i:Int):Option Nat:=if 0<=i then (if i<n then some i.toNat else none) else if -(n:Int)<=i then some (i+n).toNat else none
def atI{α:Type}(xs:List α)(i:Int):Option α:=(ixN xs.length i).bind fun j=>xs[j]?
theorem aNm{n:Nat}{i:Int}{j:Nat}(h:ixN n i=some j):seqIndex? i n=some j/\j<n /\ -(n:Int)<=i/\i<n:=by
 unfold ixN at h
 by_cases h0:0<=i
 ·rw[if_pos h0]at h
  by_cases h1:i<n
  ·rw[if_pos h1]at h
   have e:i.toNat=j:=Option.some.inj h
   exact⟨by rw[seqIndex_of h0 h1,e],by omega,by omega,h1⟩
  ·rw[if_neg h1]at h;cases h
 ·rw[if_neg h0]at h
  by_cases h1 : -(n:Int)<=i
  ·rw[if_pos h1]at h
   have e:(i+n).toNat=j:=Option.some.inj h
   exact⟨by rw[seqIndex_neg (by omega) h1,e],by omega,h1,by omega⟩
  ·rw[if_neg h1]at h;cases h
theorem aHz{α:Type}{xs:List α}{i:Int}{v:α}(h:atI xs i=some v):∃ j,seqIndex? i xs.length=some j/\xs[j]?=some v/\j<xs.length /\ -(xs.length:Int)<=i/\i<xs.length:=by
 unfold atI at h
 cases e:ixN xs.length i with
 | none=>rw[e]at h;cases h
 | some j =>
  rw[e]at h
  obtain⟨h1,h2,h3,h4⟩:=aNm e
  exact⟨j,h1,h,h2,h3,h4⟩
theorem atI_nat{α:Type}{xs:List α}{j:Nat}{v:α}(h:xs[j]?=some v):atI xs (j:Int)=some v:=by
 have hj:j<xs.length:=(List.getElem?_eq_some_iff.mp h).1
 have e:ixN xs.length (j:Int)=some j:=by
  unfold ixN
  rw[if_pos (by omega),if_pos (by omega)];simp
 unfold atI;rw[e];exact h
theorem atI_last{α:Type}(xs:List α)(v:α):atI (xs++[v]) (-1)=some v:=by
 have hl:(xs++[v]).length=xs.length+1:=by simp
 have e:ixN (xs++[v]).length (-1)=some xs.length:=by
  unfold ixN
  rw[hl,if_neg (by decide),if_pos (by omega)]
  congr 1
  omega
 unfold atI
 rw[e]
 show (xs++[v])[xs.length]?=some v
 simp
def aI0(b:Expr):Prop:=∀ o i,subscripted b false o i=operate [o,i] (getItem o i)
def IxR(X:Cx)(r:R2):Prop :=
 ∀ (value slice:Expr) (pins:List (Addr × Obj)) (s:Shared) (σ:St) (H:Hp) (x y:V) (v u:Value) (Q:VK),Inv X pins σ H s->RelV x v->RelV y u->r x y H Q ->
  subscripted slice false v u=operate [v,u] (getItem v u)->wpAny (model X.prog X.w) X.A (subscriptTail value slice v u) (EP X pins σ Q) X.xe s
def MtR(X:Cx)(id:String)(r:V->List V->Hp->VK->Prop):Prop :=
 ∀ (pins:List (Addr × Obj)) (s:Shared) (σ:St) (H:Hp) (x:V) (xs:List V) (v:Value) (us:List Value) (Q:VK),Inv X pins σ H s->RelV x v->Vals xs us->r x xs H Q ->
  wpAny (model X.prog X.w) X.A (call (.builtin id) (v::us)) (EP X pins σ Q) X.xe s
section
variable{X:Cx}{a b:Expr}{ta tb:TE}{pos:Pos}
theorem IxR.or{r r':R2}(h:IxR X r)(h':IxR X r'):IxR X (fun x y H Q=>r x y H Q\/r' x y H Q):=by
 intro value slice pins s σ H x y v u Q I rx ry q hs
 rcases q with q | q
 ·exact h value slice pins s σ H x y v u Q I rx ry q hs
 ·exact h' value slice pins s σ H x y v u Q I rx ry q hs
theorem aYo{r:R2}(hr:IxR X r)(ha:PE X a ta)(hb:PE X b tb)(hs:aI0 b):PE X (.Subscript a b pos) (tOp r ta tb):=by
 intro pins s σ H Q I h
 exact Subscript_ (aZm ha hb I h fun v u s2 x y H2 I2 rx ry q=>hr a b pins s2 σ H2 x y v u Q I2 rx ry q (hs _ _))
def bD8(K:PySem.W.Frag):R2:=fun x y H Q=>∃ p xs i v,x = .ref p/\y = .int i/\SqL K H p xs/\atI xs i=some v/\Q v H
def bD9(K:PySem.W.Frag):R2:=fun x y H Q=>∃ p xs i v,x = .ref p/\y = .int i/\SqT K H p xs/\atI xs i=some v/\Q v H
def bDa:R2:=fun x y H Q=>∃ z i c,x = .str z/\y = .int i/\z.length<=sizeLine/\atI z.cps.toList i=some c/\Q (.str ⟨#[c]⟩) H
theorem aW6:IxR X (bD8 X.K):=by
 intro value slice pins s σ H x y v u Q I rx ry h hs
 obtain⟨p,xs,i,z,rfl,rfl,hq,he,q⟩:=h
 cases rx
 obtain⟨t,rfl⟩:=ry
 obtain⟨its,r,pl,hz⟩:=I.list hq
 obtain⟨j,h1,h2,h3,h4,h5⟩:=aHz he
 obtain⟨w,ew,rw'⟩:=r.get h2
 have hl:=r.length
 have hn:=aBz
 have fin:EP X pins σ Q w s:=⟨z,H,I,rw',q⟩
 by_cases h0:0<=i
 ·have hj:i.toNat=j:=by
   rw[seqIndex_of h0 h5]at h1
   exact Option.some.inj h1
  exact item_listR pl.isList h0 (by omega) (by rw[hj];simpa using ew) fin hs
 ·have hj:(i+(its.toArray.size:Int)).toNat=j:=by
   rw[seqIndex_neg (by omega) h4]at h1
   rw[List.size_toArray,<-hl]
   exact Option.some.inj h1
  exact subscriptTail_builtinR (x:=w) pl.isList.typeIs slot_list_getitem.lookup
   (wpAny_getItem_list_neg (Q:=fun r s'=>r=w/\EP X pins σ Q r s') pl.isList (by omega) (by rw[List.size_toArray] <;> omega) (by omega) (by rw[hj];simpa using ew) ⟨rfl,fin⟩) hs
theorem bA0:IxR X (bD9 X.K):=by
 intro value slice pins s σ H x y v u Q I rx ry h hs
 obtain⟨p,xs,i,z,rfl,rfl,hq,he,q⟩:=h
 cases rx
 obtain⟨t,rfl⟩:=ry
 obtain⟨its,r,pl,hz⟩:=I.tuple hq
 obtain⟨j,h1,h2,h3,h4,h5⟩:=aHz he
 obtain⟨w,ew,rw'⟩:=r.get h2
 have hl:=r.length
 have hn:=aBz
 have fin:EP X pins σ Q w s:=⟨z,H,I,rw',q⟩
 exact subscriptTail_builtinR (x:=w) pl.typeIs slot_tuple_getitem.lookup
  (getItem_tuple (j:=j) (Q:=fun r s'=>r=w/\EP X pins σ Q r s') pl (by omega) (by omega) (by rw[List.size_toArray,<-hl];exact h1) (by simpa using ew) ⟨rfl,fin⟩) hs
theorem bA1:IxR X bDa:=by
 intro value slice pins s σ H x y v u Q I rx ry h hs
 obtain⟨z,i,c,rfl,rfl,hz,he,q⟩:=h
 obtain⟨t,rfl⟩:=rx
 obtain⟨t',rfl⟩:=ry
 obtain⟨j,h1,h2,h3,h4,h5⟩:=aHz he
 have hl:z.cps.toList.length=z.length:=by simp[Str.length]
 rw[hl]at h1 h4 h5
 have hn:=aBz
 exact tail_any (typeIs_str s z t) slot_str_getitem.lookup (getItem_str (c:=c) (by
  have e1:decide (i < -(2^63:Int))=false:=decide_eq_false (by omega)
  have e2:decide (i ≥ 2^63)=false:=decide_eq_false (by omega)
  rw[e1,e2,Bool.or_false]) (by rw[h1];simpa using h2) ⟨.str ⟨#[c]⟩,H,I.tok _,⟨_,rfl⟩,q⟩) hs
def rIx(K:PySem.W.Frag):R2:=fun x y H Q=>bD8 K x y H Q\/bD9 K x y H Q\/bDa x y H Q
theorem aSd:IxR X (rIx X.K):=aW6.or (bA0.or bA1)
theorem aLz(its:List Value)(n j:Nat)(u:Value):Obj.mapSeq (·.setIfInBounds j u) {cls := .type "list", data := .seq its.toArray n}={cls := .type "list", data := .seq (its.set j u).toArray n}:=by
 simp[Obj.mapSeq]
theorem Inv.lst{pins:List (Addr × Obj)}{σ:St}{H:Hp}{s:Shared}{p:Addr}{xs:List V}(I:Inv X pins σ H s)(h:H p=some (.lst xs)) :
  ∃ (its:List Value) (n:Nat),Vals xs its/\s.heap.get? p=some {cls := .type "list", data := .seq its.toArray n}/\xs.length<=sizeLine:=by
 obtain⟨z,its,n,r,e⟩:=I.hok p _ h
 exact⟨its,n,r,e,z⟩
theorem Inv.lstUpd{pins:List (Addr × Obj)}{σ:St}{H:Hp}{s:Shared}{p:Addr}{xs ys:List V}{its its':List Value}{n n':Nat}{f:Obj->Obj}(I:Inv X pins σ H s)(h:H p=some (.lst xs))
  (ho:s.heap.get? p=some {cls := .type "list", data := .seq its.toArray n}) (hf:f {cls := .type "list", data := .seq its.toArray n}={cls := .type "list", data := .seq its'.toArray n'}) (r:Vals ys its') (hz:ys.length<=sizeLine) (t:Nat) :
  Inv X pins σ (upd H p (.lst ys)) {s with heap:=s.heap.update p f,toks:=t}:=by
 have e:(s.heap.update p f).get? p=some {cls := .type "list", data := .seq its'.toArray n'}:=by
  rw[Heap.get?_update_self f ho (by rw[hf] <;> rfl),hf]
 refine I.write (x:=p) (e:=p) (by rw[h];trivial) (.inl rfl) (fun b u hb q=>(Heap.get?_update_other _ _ (Ne.symm hb)).trans q) ⟨_,e⟩ ?_
 exact⟨hz,its',n',r,e⟩
def bDb:V->V->V->Hp->(Hp->Prop)->Prop:=fun o i v H Q=>∃ p xs k j,o = .ref p/\i = .int k/\H p=some (.lst xs)/\ixN xs.length k=some j/\Q (upd H p (.lst (xs.set j v)))
theorem set_list:aZi X bDb:=by
 intro pins s σ H o i v ov iv u Q I ro ri rv h
 obtain⟨p,xs,k,j,rfl,rfl,hp,hj,q⟩:=h
 cases ro
 obtain⟨t,rfl⟩:=ri
 obtain⟨its,n,r,ho,hz⟩:=I.lst hp
 obtain⟨h1,h2,h3,h4⟩:=aNm hj
 have hl:=r.length
 have hn:=aBz
 have I':Inv X pins σ (upd H p (.lst (xs.set j v))) {s with heap:=s.heap.update p (Obj.mapSeq (·.setIfInBounds j u))} :=
  I.lstUpd hp ho (aLz its n j u) (r.set rv j) (by rw[List.length_set];exact hz) s.toks
 by_cases h0:0<=k
 ·have hk:k.toNat=j:=by
   rw[seqIndex_of h0 h4]at h1
   exact Option.some.inj h1
  exact PySem.W.ki_setAt ho h0 (by omega) (by rw[List.size_toArray,<-hl];exact h4) (by rw[hk];exact⟨_,I',q⟩)
 ·have hk:(k+(its.toArray.size:Int)).toNat=j:=by
   rw[seqIndex_neg (by omega) h3]at h1
   rw[List.size_toArray,<-hl]
   exact Option.some.inj h1
  exact PySem.W.ki_setBack ho (by omega) (by rw[List.size_toArray,<-hl];exact h3) (by omega) (by rw[hk];exact⟨_,I',q⟩)
theorem aI1(lo hi:Option Int)(n:Nat):(sliceBounds lo hi none n).1=((HT.sIx n 0 lo:Nat):Int)/\(sliceBounds lo hi none n).2.1=((HT.sIx n n hi:Nat):Int)/\(sliceBounds lo hi none n).2.2=1:=by
 refine⟨?_,?_,rfl⟩
 ·cases lo with
  | none=>simp[sliceBounds,HT.sIx]
  | some i =>
   simp only[sliceBounds,HT.sIx,Option.getD_none,show (1:Int)>0 by decide,if_true]
   by_cases h:i<0
   ·simp only[h,if_true] <;> omega
   ·simp only[h,if_false] <;> omega
 ·cases hi with
  | none=>simp[sliceBounds,HT.sIx]
  | some i =>
   simp only[sliceBounds,HT.sIx,Option.getD_none,show (1:Int)>0 by decide,if_true]
   by_cases h:i<0
   ·simp only[h,if_true] <;> omega
   ·simp only[h,if_false] <;> omega
theorem aGg(its:List Value)(lo hi:Option Int):slicePick its.toArray lo hi none=((its.drop (HT.sIx its.length 0 lo)).take (HT.sIx its.length its.length hi-HT.sIx its.length 0 lo)).toArray:=by
 obtain⟨h1,h2,h3⟩:=aI1 lo hi its.toArray.size
 unfold slicePick
 rw[h1,h2,h3]
 simp only[sliceRange_one,pick_run,List.size_toArray] <;> rfl
def bGk(K:PySem.W.Frag):V->Option Int->Option Int->Hp->VK->Prop:=fun x lo hi H Q=>∃ a xs,x = .ref a/\SqL K H a xs/\∀ p,H p=none->Q (.ref p) (upd H p (.lst (aQ0 xs lo hi)))
theorem aNn:SlR X (bGk X.K):=by
 intro pins s σ H x v vl vu lo hi sl Q I rx hs pl pu h
 obtain⟨a,xs,rfl,hx,q⟩:=h
 cases rx
 obtain⟨its,r,ht,hz⟩:=I.list hx
 have hlen:=r.length
 refine⟨"list", _,slot_list_getitem.lookup,ht.isList.typeIs,?_⟩
 refine wpAny_getItem_list_slice ht.isList hs pl pu .none (by simp) ?_ (by rw[List.size_toArray] <;> omega)
 rw[aGg,<-hlen]
 refine⟨.ref s.heap.objs.size,_,I.laid (t':=s.toks) (o := .lst (aQ0 xs lo hi)) (fun b ob q=>Heap.get?_push_of_some _ q) (Nat.le_refl _) ?_,rfl,q _ (I.hok.fresh (Nat.le_refl _))⟩
 exact⟨Nat.le_trans (aJm xs lo hi) hz,_,0,(r.drop (HT.sIx xs.length 0 lo)).take (HT.sIx xs.length xs.length hi-HT.sIx xs.length 0 lo),Heap.get?_push_size _ rfl⟩
theorem aI2:nZ X (.builtin "len") (fun xs H Q=>∃ p ys,xs=[.ref p]/\(SqL X.K H p ys\/SqT X.K H p ys)/\Q (.int ys.length) H):=by
 intro pins s σ H xs us Q I r h
 obtain⟨p,ys,rfl,hq,q⟩:=h
 obtain⟨u,rfl,rx⟩:=vals1 r
 cases rx
 have hn:=aBz
 rcases hq with hq | hq
 ·obtain⟨its,r',pl,hz⟩:=I.list hq
  have hlen:=r'.length
  exact Calls.call_len_list pl.isList (by simp only[List.size_toArray] <;> omega) ⟨.int ys.length,H,I.tok _,⟨s.toks+1,by rw[List.size_toArray,hlen]⟩,q⟩
 ·obtain⟨its,r',pl,hz⟩:=I.tuple hq
  have hlen:=r'.length
  exact len_tuple pl (by simp only[List.size_toArray] <;> omega) ⟨.int ys.length,H,I.tok _,⟨s.toks+1,by rw[List.size_toArray,hlen]⟩,q⟩
theorem aI3:nZ X (.builtin "len") (fun xs H Q=>∃ z,xs=[.str z]/\z.length<=sizeLine/\Q (.int z.length) H):=by
 intro pins s σ H xs us Q I r h
 obtain⟨z,rfl,hz,q⟩:=h
 obtain⟨u,rfl,t,rfl⟩:=vals1 r
 have hn:=aBz
 exact len_str (by omega) ⟨.int z.length,H,I.tok _,⟨_,rfl⟩,q⟩
theorem nZ.or{f:Value}{r r':List V->Hp->VK->Prop}(h:nZ X f r)(h':nZ X f r'):nZ X f (fun xs H Q=>r xs H Q\/r' xs H Q):=by
 intro pins s σ H xs us Q I rs q
 rcases q with q | q
 ·exact h pins s σ H xs us Q I rs q
 ·exact h' pins s σ H xs us Q I rs q
def tyV(K:PySem.W.Frag)(T:String)(x:V)(H:Hp):Prop:=match x with
 | .str _=>T = "str"
 | .int _=>T = "int"
 | .ref p=>(T = "list" /\ ∃ xs,SqL K H p xs)\/(T = "tuple" /\ ∃ o,K.lookup p=some o/\o.cls = .type "tuple" /\ o.dict=none) \/
   (T = "dict" /\ ((∃ kvs,H p=some (.dK kvs))\/∃ kvs,H p=some (.dT kvs)))\/(T = "set" /\ ∃ S n,H p=some (.set S n))
 | _=>False
theorem aSe{pins:List (Addr × Obj)}{σ:St}{H:Hp}{s:Shared}{T:String}{x:V}{v:Value}(I:Inv X pins σ H s)(r:RelV x v)(ty:tyV X.K T x H) :
  s.TypeIs v T/\∀ a,v = .ref a->∃ ob,s.heap.get? a=some ob/\ob.dict=none:=by
 cases x with
 | str z =>
  obtain⟨t,rfl⟩:=r
  cases (show T = "str" from ty)
  exact⟨typeIs_str s z t,fun _ e=>nomatch e⟩
 | int i =>
  obtain⟨t,rfl⟩:=r
  cases (show T = "int" from ty)
  exact⟨typeIs_int s i t,fun _ e=>nomatch e⟩
 | ref p =>
  cases r
  rcases ty with ⟨rfl,xs,hq⟩ | ⟨rfl,o,hk,hc,hd⟩ | ⟨rfl,hk⟩ | ⟨rfl,S,n,hk⟩
  ·obtain⟨its,_,pl,_⟩:=I.list hq
   refine⟨pl.isList.typeIs,fun a e=>?_⟩
   cases e
   obtain⟨o,n,e,c,hd,_⟩:=pl
   exact⟨o,e,hd⟩
  ·refine⟨⟨o,I.kIn p o hk,hc⟩,fun a e=>?_⟩
   cases e
   exact⟨o,I.kIn _ o hk,hd⟩
  ·have z:∃ o,s.heap.get? p=some o/\o.ExactDict:=by
    rcases hk with ⟨kvs,hk⟩ | ⟨kvs,hk⟩
    ·obtain⟨_,_,_,_,o,_,_,e,ex,_⟩:=I.hok p _ hk
     exact⟨o,e,ex⟩
    ·obtain⟨_,_,_,_,o,_,_,e,ex,_⟩:=I.hok p _ hk
     exact⟨o,e,ex⟩
   obtain⟨o,e,ex⟩:=z
   refine⟨⟨o,e,ex.1⟩,fun a e2=>?_⟩
   cases e2
   exact⟨o,e,ex.2.1⟩
  ·obtain⟨o,_,_,_,e,ex,_⟩:=I.hok p _ hk
   refine⟨⟨o,e,ex.1⟩,fun a e2=>?_⟩
   cases e2
   exact⟨o,e,ex.2.1⟩
 | _=>exact False.elim ty
def bGl(K:PySem.W.Frag)(T:String)(r:V->List V->Hp->VK->Prop)(to:TE):TE:=fun σ H Q=>to σ H fun x H1=>tyV K T x H1/\r x [] H1 Q
def tBM(K:PySem.W.Frag)(T:String)(r:V->List V->Hp->VK->Prop)(to:TE)(t:TA):TE:=fun σ H Q=>to σ H fun x H1=>tyV K T x H1/\t σ H1 fun xs H2=>r x xs H2 Q
variable{o e:Expr}{es:List Expr}{to:TE}{t:TA}{name:Str}{apos cpos:Pos}{T id:String}{r:V->List V->Hp->VK->Prop}
theorem bA2(pa:PlainAttrs T)(slot:Slot T name id)(hty:typeOf (.builtin id)=pure (.type "method_descriptor"))(hm:MtR X id r)(ho:PE X o to)
  (hbase:attributeBase o name X.env (eval o X.env)=eval o X.env:=by rfl) (hline:(apos.endLine==cpos.line)=true:=by rfl):PE X (.Call (.Attribute o name apos) [] [] cpos) (bGl X.K T r to):=by
 intro pins s σ H Q I h
 refine wpAny_Call_method0_late hbase hline (thn (ho pins s σ H _ I h) fun v s1 ⟨x,H1,I1,r1,ty,q1⟩=>?_)
 obtain⟨h1,h2⟩:=aSe I1 r1 ty
 exact⟨T,id,pa,slot,hty,h1,h2,Calls.callWith_builtin rfl (PySem.evalArgs_none (hm pins s1 σ H1 x [] v [] Q I1 r1 .nil q1))⟩
theorem aNo(pa:PlainAttrs T)(slot:Slot T name id)(hty:typeOf (.builtin id)=pure (.type "method_descriptor"))(hm:MtR X id r)(ho:PE X o to)(ha:PA X (e::es) t)
  (hbase:attributeBase o name X.env (eval o X.env)=eval o X.env:=by rfl)
  (hfew:((backTo cpos (starEach (e::es) X.env)).all (fun x => !x.1)&&(backToKw cpos (keywordEach [] X.env)).all (fun x=>x.1.isSome)
   && decide ((e::es).length+([]:List Keyword).length+(if ([]:List Keyword).isEmpty then 0 else 1)<30))=true:=by rfl)
  (hline:(apos.endLine==cpos.line)=true:=by rfl) (hs:starEach (e::es) X.env=(false,eval e X.env)::starEach es X.env:=by rfl) (hplain:(backTo cpos (starEach es X.env)).any (·.1)=false:=by rfl) :
  PE X (.Call (.Attribute o name apos) (e::es) [] cpos) (tBM X.K T r to t):=by
 intro pins s σ H Q I h
 refine wpAny_Call_method_late hbase hfew hline rfl (thn (ho pins s σ H _ I h) fun v s1 ⟨x,H1,I1,r1,ty,q1⟩=>?_)
 obtain⟨h1,h2⟩:=aSe I1 r1 ty
 refine⟨T,id,pa,slot,hty,h1,h2,?_⟩
 have hA:=ha cpos pins s1 σ H1 _ I1 q1
 rw[hs]at hA ⊢
 refine Calls.callWith_builtin (by show (false||(backTo cpos (starEach es X.env)).any (·.1))=false;rw[hplain] <;> rfl) (Calls.evalArgs_plain ?_)
 exact thn hA fun us s2 ⟨vs,H2,I2,r2,q2⟩=>hm pins s2 σ H2 x vs v us Q I2 r1 r2 q2
end
end L2
namespace L2
open PySem PySem.Spec PyProof.Rows
def MtM(X:Cx)(id:String)(r:V->List V->Hp->VK->Prop):Prop :=
 ∀ (pins:List (Addr × Obj)) (s:Shared) (σ:St) (H:Hp) (x:V) (xs:List V) (v:Value) (us:List Value) (Q:VK),Inv X pins σ H s->RelV x v->Vals xs us->r x xs H Q ->
  wpAny (model X.prog X.w) X.A (call (.builtin id) (v::us)) (EP X pins σ Q) X.xe s
theorem Vals.one:∀ {x:V} {us:List Value},Vals [x] us->∃ u,us=[u]/\RelV x u
 | _,_,.cons r .nil=>⟨_,rfl,r⟩
theorem Vals.two:∀ {x y:V} {us:List Value},Vals [x,y] us->∃ u v,us=[u,v]/\RelV x u/\RelV y v
 | _,_,_,.cons r (.cons q .nil)=>⟨_,_,rfl,r,q⟩
theorem Vals.zero:∀ {us:List Value},Vals [] us->us=[]
 | _,.nil=>rfl
section
variable{X:Cx}{pins:List (Addr × Obj)}{σ:St}{H:Hp}{s:Shared}{l b:Addr}{xs ys zs:List V}
theorem Inv.lset{its its':List Value}{n:Nat}{f:Array Value->Array Value}{t':Nat}(I:Inv X pins σ H s)(hH:H l=some (.lst xs))
  (e:s.heap.get? l=some {cls := .type "list", data := .seq its.toArray n}) (hf:f its.toArray=its'.toArray) (hv:Vals ys its') (hz:ys.length<=sizeLine) :
  Inv X pins σ (upd H l (.lst ys)) {s with heap:=s.heap.update l (Obj.mapSeq f),toks:=t'}:=by
 have q:=PySem.IsL.update e f
 rw[hf]at q
 refine I.write (x:=l) (e:=l) (by rw[hH];exact trivial) (.inl rfl) (fun b' u hb hu=>(Heap.get?_update_other s.heap (Obj.mapSeq f) (Ne.symm hb)).trans hu) ⟨_,q⟩ ?_
 exact⟨hz,its',_,hv,q⟩
theorem Inv.lnew{its:List Value}{t':Nat}(I:Inv X pins σ H s)(hv:Vals ys its)(hz:ys.length<=sizeLine) :
  Inv X pins σ (upd H s.heap.objs.size (.lst ys)) {s with heap:=s.heap.push {cls := .type "list", data := .seq its.toArray},toks:=t'} :=
 I.laid (fun _ _ q=>Heap.get?_push_of_some _ q) (Nat.le_refl _) ⟨hz,its,0,hv,Heap.get?_push_size _ rfl⟩
theorem Inv.fresh(I:Inv X pins σ H s):H s.heap.objs.size=none:=I.hok.fresh (Nat.le_refl _)
theorem Inv.lstM(I:Inv X pins σ H s)(hH:H l=some (.lst xs)):xs.length<=sizeLine/\∃ (its:List Value) (n:Nat),Vals xs its/\xs.length=its.length/\s.heap.get? l=some {cls := .type "list", data := .seq its.toArray n}:=by
 obtain⟨z,its,n,r,e⟩:=I.hok l _ hH
 exact⟨z,its,n,r,r.length,e⟩
theorem aSf{n:Nat}(h:n<=sizeLine):Builtin.List.listTooLong n=false:=by
 unfold Builtin.List.listTooLong
 exact decide_eq_false (by omega)
end
section
variable{X:Cx}
def aW7:V->List V->Hp->VK->Prop:=fun x vs H Q=>∃ l xs y,x = .ref l/\vs=[y]/\H l=some (.lst xs)/\xs.length<sizeLine/\Q .non (upd H l (.lst (xs++[y])))
theorem aQ1:MtM X "list.append" aW7:=by
 intro pins s σ H x vs v us Q I rx rv h
 obtain⟨l,xs,y,rfl,rfl,hH,hz,q⟩:=h
 cases rx
 obtain⟨u,rfl,ru⟩:=rv.one
 obtain⟨z,its,n,r,hl,e⟩:=I.lstM hH
 refine call_meets F.slot_list_append ⟨_,e,rfl⟩ F.entry_list_append (F.args_list_append_2 _ _) (PySem.list_append l its.toArray n u (by rw[List.size_toArray];omega)) ⟨e,?_⟩
 refine⟨.non,_,I.lset (its':=its++[u]) hH e (by simp) (r.append (.cons ru .nil)) ?_,rfl,q⟩
 rw[List.length_append,List.length_singleton]
 omega
def aW8:V->List V->Hp->VK->Prop:=fun x vs H Q=>∃ l b xs zs,x = .ref l/\vs=[.ref b]/\H l=some (.lst xs)/\H b=some (.lst zs)/\xs.length+zs.length<=sizeLine/\Q .non (upd H l (.lst (xs++zs)))
theorem aQ2:MtM X "list.extend" aW8:=by
 intro pins s σ H x vs v us Q I rx rv h
 obtain⟨l,b,xs,zs,rfl,rfl,hH,hB,hz,q⟩:=h
 cases rx
 obtain⟨u,rfl,ru⟩:=rv.one
 cases ru
 obtain⟨z,its,n,r,hl,e⟩:=I.lstM hH
 obtain⟨z2,its2,n2,r2,hl2,e2⟩:=I.lstM hB
 have hsz:its.toArray.size+its2.toArray.size<=sizeLine:=by rw[List.size_toArray,List.size_toArray];omega
 have hlong:¬ (!its.toArray.isEmpty&&Builtin.List.listTooLong (its.toArray.size+its2.toArray.size))=true:=by
  rw[aSf hsz,Bool.and_false]
  exact Bool.false_ne_true
 refine call_meets F.slot_list_extend ⟨_,e,rfl⟩ F.entry_list_extend (F.args_list_extend_2 _ _)
  (AutoSeq1.list_extend_list_list_0 l its.toArray n b its2.toArray n2 hlong (by rw[List.size_toArray];omega) (by omega)) ⟨e,e2,?_⟩
 refine⟨.non,_,I.lset (its':=its++its2) hH e (by simp) (r.append r2) ?_,rfl,q⟩
 rw[List.length_append]
 omega
end
section
variable{prog:Program}{w:World}{A:Around}{E:Value->Shared->Prop}{s:Shared}
end
section
variable{X:Cx}
end
end L2
namespace Att
open PySem PySem.W PySem.Calls PyProof.Rows
theorem aDh{P:Params}{h:Heap}:∀ (ns:List Int) (vs:List Value),WellAll P h vs (ns.map WData.int)->IntsAre vs ns:=by
 intro ns
 induction ns with
 | nil =>
  intro vs w
  rw[List.map_nil]at w
  cases w
  exact .nil
 | cons n ns ih =>
  intro vs w
  rw[List.map_cons]at w
  cases w with
  | cons a b =>
   cases a
   exact .cons _ _ (ih _ b)
theorem aQ3{l:OpenLaw}{n:Nat}(hn:l.most=some n){P:Params}{h:Heap}{args:List WData}{vals:List Value}
  (hpre:l.row.toRowW.claim.pre args=true) (hwl:WellAll P h vals args) :
  ∃ a vs ns,vals=[Value.ref a]/\args=[WData.list (ns.map WData.int)]/\h.get? a=some {cls := .type "list", data := .seq vs.toArray}/\IntsAre vs ns/\ns.length<=n:=by
 have hsh:WShape.hasAll [] args [.list .int]=true:=(pre_splitW hpre).1
 have hc:l.pre.holds [] {args:=args}=true:=(pre_splitW hpre).2
 obtain⟨d,r,rfl,h1,h2⟩:=hasAllW_cons hsh
 obtain rfl:=hasAllW_nil h2
 obtain⟨xs,rfl,h3⟩:=hasW_list h1
 obtain⟨ns,rfl⟩:=items_int h3
 have hlen:ns.length<=n:=by
  unfold OpenLaw.pre at hc
  have h4:(WTm.not (.lt (.lit (.int (n:Int))) (.len (.arg 0)))).holds [] {args:=[.list (ns.map .int)] }=true:=by
   have h4:=(holds_andW hc).1
   rw[hn]at h4
   exact h4
  have h5:=condW_of h4 (w_not (w_lt w_lit (w_len_list (w_arg rfl))))
  rw[List.length_map]at h5
  refine Nat.le_of_not_lt fun q=>?_
  have q':(n:Int)<((ns.length:Nat):Int):=by omega
  first
   | (rw[decide_eq_true q']at h5;exact absurd h5 (by decide))
   | (simp at h5;omega)
 cases hwl with
 | cons w1 w2 =>
  cases w2
  cases w1 with
  | list ho hall=>exact⟨_,_,ns,rfl,rfl,ho,aDh ns _ hall,hlen⟩
theorem aQ4(l:OpenLaw)(args:List WData):l.row.toRowW.claim.post args (.bool true) args=true :=
 postW_of (r:=l.row.toRowW) (X:=(true==true))
  (show WShape.has [] (.bool true) .bool=true by first | rfl | decide | simp[WShape.has,WShape.arms,WShape.armsAll])
  (show (WTm.eq .res (.lit (.bool true))).value [] {args:=args,res:=some (.bool true),after:=args}=some (.bool (true==true)) from w_eq_bool (w_res rfl) w_lit) rfl
theorem attach_call{l:OpenLaw}{n:Nat}{q:Program}{loose:List Str}{XP:(Str->Option Value)->Heap->Prop}{YP:World->Heap->Prop}{d:DefRec}
  (hn:l.most=some n) (hdf:d.params.defaults=[])
  (call:∀ (w:World) (s₀ s₁:Shared) (mg mb:Str->Option Value) (fa:Addr) (o:Obj) (pm cd doc:Value) (a:Addr) (vs:List Value) (ns:List Int),
   Ground q loose [] XP w s₀ mg mb s₁.heap->YP w s₁.heap ->
   s₁.heap.get? fa=some o->o.data = .func (docDef d.name d.params d.body d.scope pm cd doc)->s₁.heap.CodeRec cd d.name->mg d.name=some (.ref fa) ->
   s₁.heap.get? a=some {cls := .type "list", data := .seq vs.toArray}->IntsAre vs ns->ns.length<=n->s₁.gens = #[] ->
   codeAny (model l.prog w) callerA (.call (.ref fa) ⟨[.ref a],[]⟩) (fun r s'=>r = .ok (.ret (.bool true))/\OldK s₁.heap s'.heap/\s'.os=s₁.os/\AllBare s'.gens) s₁) :
  WalkO q loose XP YP l.row.toRowW d [] (fun f vs=>PySem.call f vs):=by
 intro w s₀ s₁ mg mb G Y fa o pm cd doc dV kV ho hd hcd hD hmg hg args vals as hpre hlay hrd hwl hlo
 obtain rfl:dV = .none:=Dflts.none hD hdf
 obtain rfl:kV = .none:=Dflts.noKw hD
 obtain⟨a,vs,ns,rfl,rfl,hobj,hints,hlen⟩:=aQ3 hn hpre hwl
 refine enter_call (codeAny_mono (call w s₀ s₁ mg mb fa o pm cd doc a vs ns G Y ho (fd_plain hd) hcd hmg hobj hints hlen hg) fun r s' hq=>?_)
 obtain⟨rfl,h2,h3,h4⟩:=hq
 exact⟨.inl ⟨.bool true,.bool true,[],rfl,fun _=>rfl,.bool true,aQ4 l _,fun _=>⟨List.Pairwise.nil,fun _ hm=>(nomatch hm)⟩⟩,h2,h3,h4⟩
section
variable{prog:Program}{w:World}{A:Around}{E:Value->Shared->Prop}{s:Shared}{K:Frag}
end
end Att
namespace L2
open PySem PySem.Spec PyProof.Rows
theorem vals_ints:∀ {vs:List Value} {ns:List Int},IntsAre vs ns->Vals (ns.map V.int) vs
 | _,_,.nil => .nil
 | _,_,.cons n t h => .cons ⟨t,rfl⟩ (vals_ints h)
def Only(H:Hp):Prop:=∀ b,H b=none\/∃ o xs,H b=some (.frz o (.lst xs))
theorem aSg{P:Program}{w:World}{K:PySem.W.Frag}{mg mb:Str->Option Value}{CX:CXT}{k:Nat}{fa a:Addr}{fd:FuncData}{x:Str}{sp:Sp}{s₁:Shared}{vs:List Value}{ns:List Int}
  (KX:K.In s₁.heap) (hns:s₁.heap.Ns mainGlobals mg) (hb:s₁.heap.Ns builtinsNs mb) (hbb:∀ x:Str,x ≠ "__name__" -> mb x=bootBuiltins x) (hlim:s₁.heap.NoLimit) (hg:s₁.gens = #[])
  (ha:s₁.heap.get? a=some {cls := .type "list", data := .seq vs.toArray}) (hi:IntsAre vs ns) (hl:ns.length<=sizeLine) (hr:Room k callerA)
  (F:∀ base:Heap,K.In base->base.Ns mainGlobals mg->FnOk P w K mg base CX k fa fd [x] sp) (hbind:∀ (s:Shared) (u:Value),BindsTo s fd ⟨[u],[]⟩ [(x,u)])
  (hsp:∀ H:Hp,Only H->SqL K H a (ns.map V.int)->sp [.ref a] H (fun v _=>v = .bl true) fun _ _ _=>False)
  (hCX:∀ H e s',CX [] H s₁ (fun _ _ _=>False) e s'->False) :
  codeAny (model P w) callerA (.call (.ref fa) ⟨[.ref a],[]⟩) (fun r s'=>r = .ok (.ret (.bool true))/\OldK s₁.heap s'.heap/\s'.os=s₁.os/\AllBare s'.gens) s₁:=by
 have rv:=vals_ints hi
 have lenV:=hi.length
 have core:∀ H:Hp,Only H->SqL K H a (ns.map V.int)->HOk P w H s₁.heap->(∀ b,H b≠none->b=a)->(H a≠none->K.lookup a=none) ->
   codeAny (model P w) callerA (.call (.ref fa) ⟨[.ref a],[]⟩) (fun r s'=>r = .ok (.ret (.bool true))/\OldK s₁.heap s'.heap/\s'.os=s₁.os/\AllBare s'.gens) s₁:=by
  intro H hO hS hok hA hK
  have base_of:∀ {b:Addr} {o:Obj},s₁.heap.get? b=some o->H b=none->(aHu s₁.heap H).get? b=some o:=fun e n=>aRx e n
  have noA:∀ {b:Addr} {o:Obj} {es:Array DictEntry} {ep:Nat},s₁.heap.get? b=some o->o.data = .dict es ep->H b=none:=fun {b o es ep} e d=>by
   cases q:H b with
   | none=>rfl
   | some u =>
    have e':b=a:=hA b (by rw[q];simp)
    subst e'
    rw[ha]at e;cases e
    have d':Data.seq vs.toArray _=Data.dict es ep:=d
    cases d'
  have nsK:∀ {b:Addr} {m:Str->Option Value},s₁.heap.Ns b m->(aHu s₁.heap H).Ns b m:=fun {b m} ⟨o,es,ep,e,d,r⟩=>⟨o,es,ep,base_of e (noA e d),d,r⟩
  have hKb:K.In (aHu s₁.heap H):=fun b o e=>base_of (KX b o e) (by
   cases q:H b with
   | none=>rfl
   | some u =>
    have e':b=a:=hA b (by rw[q];simp)
    subst e'
    rw[hK (by rw[q];simp)]at e;cases e)
  have hM:Mod K mg (aHu s₁.heap H):=⟨hKb,nsK hns,⟨mb,nsK hb,hbb⟩,let ⟨mc,h1,h2⟩:=hlim;⟨mc,nsK h1,h2⟩⟩
  have e0:Env0 P w K mg (aHu s₁.heap H) callerA [] s₁ H:=⟨rfl,hM,fun b o e=>aVp e,Nat.le_of_eq (aPr _ _),trivial,fun b hb=>absurd (show b∈([]:List Addr) from hb) (by simp),hok,.of_eq hg⟩
  refine codeAny_mono ((F _ hKb (nsK hns)).run callerA [] s₁ H ⟨[.ref a],[]⟩ [.ref a] [.ref a] _ _ hr e0 (hbind s₁ (.ref a)) (.cons rfl .nil) (hsp H hO hS)) fun r s' h=>?_
  cases r with
  | error e=>exact(hCX H e s' h).elim
  | ok fl =>
   cases fl with
   | next=>exact False.elim h
   | brk=>exact False.elim h
   | cont=>exact False.elim h
   | ret u =>
    obtain⟨v,H',os,bare,un,hok',r',q⟩:=h
    have q':v = .bl true:=q
    subst q'
    obtain rfl:u=Value.bool true:=r'
    refine⟨rfl,OldK.of_keep fun b o e=>?_,os,bare⟩
    cases q:H b with
    | none=>exact un.keep b o e q (by intro z;exact absurd (show b∈([]:List Addr) from z) (by simp)) (by simp)
    | some u =>
     rcases hO b with z | ⟨ob,xs,z⟩
     ·rw[q]at z;cases z
     ·have z2:=un.frzs b ob _ z
      obtain⟨e1,_⟩:=hok b _ z
      obtain⟨e2,_⟩:=hok' b _ z2
      rw[e]at e1;cases e1
      exact e2
 cases hk:K.lookup a with
 | some o =>
  have e:=KX a o hk
  rw[ha]at e
  cases e
  refine core (fun _=>none) (fun _ => .inl rfl) (.inr ⟨_,vs.toArray,_,hk,rfl,rfl,rfl,by rw[List.size_toArray,lenV];exact hl,by simpa using rv⟩) (fun b u z=>by have z':(none:Option HO)=some u:=z;cases z') (fun b z=>absurd rfl z) fun z=>absurd rfl z
 | none =>
  refine core (fun b=>if b=a then some (.frz {cls := .type "list", data := .seq vs.toArray} (.lst (ns.map V.int))) else none) (fun b=>?_) (.inl (.inr ⟨{cls := .type "list", data := .seq vs.toArray},if_pos rfl⟩)) (fun b u z=>?_) (fun b z=>?_) fun _=>hk
  ·by_cases hb:b=a
   ·exact .inr ⟨_,_,if_pos hb⟩
   ·exact .inl (if_neg hb)
  ·by_cases hb:b=a
   ·have z':=(if_pos hb).symm.trans z
    cases z'
    subst hb
    exact⟨ha,by rw[List.length_map];exact hl,vs,_,rv,ha⟩
   ·have z':=(if_neg hb).symm.trans z
    cases z'
  ·by_cases hb:b=a
   ·exact hb
   ·exact absurd (if_neg hb) z
end L2
namespace L2
open PySem PySem.Spec PyProof.Rows
theorem walk_of{l:PySem.W.OpenLaw}{n k:Nat}{q:Program}{loose:List Str}{XP:(Str->Option Value)->Heap->Prop}{YP:World->Heap->Prop}{d:DefRec}{K:Params->PySem.W.Frag}{CX:World->CXT}{sp:World->Sp}{x:Str}
  (hn:l.most=some n) (hn2:n<=sizeLine) (hdf:d.params.defaults=[]) (hr:Room k callerA)
  (hY:∀ (w:World) (h:Heap),YP w h->(K w.params).In h)
  (F:∀ (w:World) (mg:Str->Option Value) (fa:Addr) (h:Heap),(K w.params).In h->h.Ns mainGlobals mg->mg d.name=some (.ref fa) ->
   ∃ fd:FuncData,(∀ (s:Shared) (u:Value),BindsTo s fd ⟨[u],[]⟩ [(x,u)]) /\
    ∀ base:Heap,(K w.params).In base->base.Ns mainGlobals mg->FnOk l.prog w (K w.params) mg base (CX w) k fa fd [x] (sp w))
  (hsp:∀ (w:World) (H:Hp) (a:Addr) (ns:List Int),ns.length<=n->Only H->SqL (K w.params) H a (ns.map V.int)->sp w [.ref a] H (fun v _=>v = .bl true) fun _ _ _=>False)
  (hCX:∀ (w:World) (H:Hp) (s:Shared) (e:Value) (s':Shared),CX w [] H s (fun _ _ _=>False) e s'->False) :
  PySem.W.WalkO q loose XP YP l.row.toRowW d [] (fun f vs=>PySem.call f vs):=by
 refine Att.attach_call hn hdf fun w s₀ s₁ mg mb fa o pm cd doc a vs ns G Y ho hd hcd hmg hobj hints hlen hg=>?_
 have KX:=hY w _ Y
 obtain⟨fd,hb,hF⟩:=F w mg fa _ KX G.T.g hmg
 exact aSg KX G.T.g G.T.b G.T.builtins G.T.nolimit hg hobj hints (Nat.le_trans hlen hn2) hr hF hb (fun H hO hS=>hsp w H a ns hlen hO hS) fun H e s'=>hCX w H s₁ e s'
end L2
namespace L2
open PySem PySem.Spec PyProof.Rows
def fL(s:Stmt):Arguments:=match s with
 | .FunctionDef _ a _ _ _ _ _ _ _ _=>a
 | _=>{posonlyargs:=[],args:=[],vararg:=none,kwonlyargs:=[],kw_defaults:=[],kwarg:=none,defaults:=[] }
def dB(s:Stmt):List Stmt:=match s with
 | .FunctionDef _ _ b _ _ _ _ _ _ _=>b
 | _=>[]
def aG(s:Stmt):Scope:=match s with
 | .FunctionDef _ _ _ _ _ _ sc _ _ _=>sc
 | _=>{kind := .function,names:=[],isGenerator:=false,isCoroutine:=false}
abbrev CX0:CXT:=fun _ _ _ _ _ _=>False
abbrev E0:XK:=fun _ _ _=>False
theorem aJn{X:Cx}:aC1 CX0 X E0:=fun _ _ _ _ _ _ _ h=>h.elim
structure Fun(K:PySem.W.Frag)(x qual:Str)(st:Stmt)(f:Addr)(fd:FuncData):Prop where
 ex:∃ (oc:Value) (od:Option Addr) (kV doc pm:Value) (an:Option Addr) (cdv ct:Value) (osl:Array (Option Value)),
  fd=PySem.W.fnOf x qual (fL st) (dB st) (aG st) .none kV doc pm an cdv ct/\K.lookup f=some ⟨oc,od,.func fd,osl⟩/\PySem.W.codeIn K cdv qual=true
 kp:PySem.W.keepIn K (.ref f)=true
section
variable{P:Program}{w:World}{K:PySem.W.Frag}{mg:Str->Option Value}{base:Heap}
theorem Fun.ok{x qual:Str}{st:Stmt}{f:Addr}{fd:FuncData}{N ps:List Str}{k:Nat}{sp:Sp}(F:Fun K x qual st f fd)(S:FnScope N ps (aG st))(len:∀ vs H Q E,sp vs H Q E->vs.length=ps.length)
  (hbody:∀ (cdv:Value) (A:Around) (outer:List Env) (s:Shared) (H:Hp) (vs:List V) (Q:VK) (E:XK),Room k (A.deeper (envOfC qual (aG st) s.heap.objs.size f cdv))->sp vs H Q E ->
   ∃ t,PSs (aAp CX0 P w K mg base N qual (aG st) f cdv A outer s H E).nox (dB st) t/\t {nx:=fun _ H'=>Q .non H',rt:=Q} (start N vs) H):FnOk P w K mg base CX0 (k+1) f fd ps sp:=by
 obtain⟨oc,od,kV,doc,pm,an,cdv,ct,osl,rfl,lk,hcd⟩:=F.ex
 refine aSc lk hcd S len fun A outer s H vs Q E hr hsp=>?_
 obtain⟨t,h,q⟩:=hbody cdv A outer s H vs Q E hr hsp
 exact⟨t,h.nox,q⟩
theorem Fun.binds{x qual:Str}{st:Stmt}{f:Addr}{fd:FuncData}{ps:List Str}(F:Fun K x qual st f fd)
  (h:∀ (kV doc pm:Value) (an:Option Addr) (cdv ct:Value) (us:List Value),us.length=ps.length->bindArgs (PySem.W.fnOf x qual (fL st) (dB st) (aG st) .none kV doc pm an cdv ct) ⟨us,[]⟩=pure (ps.zip us)):Binds K fd ps []:=by
 obtain⟨oc,od,kV,doc,pm,an,cdv,ct,osl,rfl,lk,hcd⟩:=F.ex
 exact .all (h kV doc pm an cdv ct)
theorem bA3{x qual:Str}{st:Stmt}{f:Addr}{oc:Value}{od an:Option Addr}{osl:Array (Option Value)}{kV doc pm cdv ct:Value}(l:K.lookup f=some ⟨oc,od,.func (PySem.W.fnOf x qual (fL st) (dB st) (aG st) .none kV doc pm an cdv ct),osl⟩)
  (c:PySem.W.codeIn K cdv qual=true) (k:PySem.W.keepIn K (.ref f)=true):Fun K x qual st f (PySem.W.fnOf x qual (fL st) (dB st) (aG st) .none kV doc pm an cdv ct):=⟨⟨oc,od,kV,doc,pm,an,cdv,ct,osl,rfl,l,c⟩,k⟩
end
section
variable{X:Cx}
theorem pv(i:Nat){x:Str}{pos:Pos}(hN:X.N[i]?=some x:=by rfl)(hv:Vis X.env.scope x:=by first | exact Or.inl rfl | exact Or.inr (Or.inl rfl) | exact Or.inr (Or.inr rfl))(hd:(x==("__debug__" : Str))=false:=by decide)
  (hcd:(x==("__classdict__" : Str))=false:=by decide):PE X (.Name x pos) (bCm i):=tW hN hv hd hcd
end
def bA(H H':Hp):Prop:=∀ b o,H b=some o->H' b=some o
theorem bA.refl(H:Hp):bA H H:=fun _ _ h=>h
theorem bA.trans{H H1 H2:Hp}(a:bA H H1)(b:bA H1 H2):bA H H2:=fun c o h=>b c o (a c o h)
theorem bA.seq{K:PySem.W.Frag}{H H':Hp}{a:Addr}{xs:List V}(e:bA H H')(h:SqL K H a xs):SqL K H' a xs:=by
 rcases h with (h | ⟨o,h⟩) | h
 ·exact .inl (.inl (e _ _ h))
 ·exact .inl (.inr ⟨o,e _ _ h⟩)
 ·exact .inr h
end L2
namespace L2
open PySem PySem.Spec PyProof.Rows
section
variable{κ:Type}[DecidableEq κ]
def aAq(kvs:List (κ × V))(k:κ):Option V:=(kvs.find? fun kv=>decide (kv.1=k)).map (·.2)
def putK(kvs:List (κ × V))(k:κ)(v:V):List (κ × V) :=
 if (kvs.any fun kv=>decide (kv.1=k))=true then kvs.map (fun kv=>if kv.1=k then (kv.1,v) else kv) else kvs++[(k,v)]
theorem wC{p:κ × V}{r:List (κ × V)}{k:κ}(e:p.1=k):aAq (p::r) k=some p.2:=by simp[aAq,List.find?_cons,e]
theorem wF{p:κ × V}{r:List (κ × V)}{k:κ}(e:¬ p.1=k):aAq (p::r) k=aAq r k:=by simp[aAq,List.find?_cons,e]
theorem aJo(k:κ):∀ kvs:List (κ × V),(kvs.any fun kv=>decide (kv.1=k))=(aAq kvs k).isSome
 | []=>rfl
 | p::r=>by
  rw[List.any_cons]
  by_cases e:p.1=k
  ·simp only[wC e,decide_eq_true e,Bool.true_or,Option.isSome_some]
  ·rw[wF e,decide_eq_false e,Bool.false_or];exact aJo k r
theorem wG(kvs:List (κ × V))(k:κ)(v:V):(putK kvs k v).length<=kvs.length+1:=by
 unfold putK
 split
 ·rw[List.length_map];omega
 ·rw[List.length_append,List.length_cons,List.length_nil];omega
theorem tV.isSome_eq{o:Option V}{u:Option Value}(r:tV o u):o.isSome=u.isSome:=by
 cases o with
 | none=>cases u with
  | none=>rfl
  | some _=>exact(show False from r).elim
 | some _=>cases u with
  | none=>exact(show False from r).elim
  | some _=>rfl
theorem tV.getD{o:Option V}{u:Option Value}{d:V}{d':Value}(r:tV o u)(rd:RelV d d'):RelV (o.getD d) (u.getD d'):=by
 cases o with
 | none=>cases u with
  | none=>exact rd
  | some _=>exact(show False from r).elim
 | some _=>cases u with
  | none=>exact(show False from r).elim
  | some _=>exact r
theorem KV.val{kvs:List (κ × V)}{vs:List (κ × Value)}(r:KV kvs vs)(k:κ):tV (aAq kvs k) (valueAt vs k):=by
 unfold KV at r
 induction r with
 | nil=>exact True.intro
 | @cons p q ps qs h t ih =>
  obtain⟨h1,h2⟩:=h
  by_cases e:p.1=k
  ·have e':q.1=k:=h1.symm.trans e
   have b:valueAt (q::qs) k=some q.2:=by simp[valueAt,List.find?_cons,e']
   rw[wC e,b];exact h2
  ·have e':¬ q.1=k:=fun z=>e (h1.trans z)
   have b:valueAt (q::qs) k=valueAt qs k:=by simp[valueAt,List.find?_cons,e']
   rw[wF e,b];exact ih
theorem KV.any{kvs:List (κ × V)}{vs:List (κ × Value)}(r:KV kvs vs)(k:κ):(kvs.any fun kv=>decide (kv.1=k))=vs.any fun kv=>decide (kv.1=k):=by
 unfold KV at r
 induction r with
 | nil=>rfl
 | cons h t ih=>rw[List.any_cons,List.any_cons,ih,h.1]
theorem KV.repl{kvs:List (κ × V)}{vs:List (κ × Value)}(r:KV kvs vs)(k:κ){y:V}{u:Value}(ry:RelV y u) :
  KV (kvs.map fun kv=>if kv.1=k then (kv.1,y) else kv) (vs.map fun kv=>if kv.1=k then (kv.1,u) else kv):=by
 unfold KV at r ⊢
 induction r with
 | nil=>exact .nil
 | @cons p q ps qs h t ih =>
  rw[List.map_cons,List.map_cons]
  refine .cons ?_ ih
  obtain⟨h1,h2⟩:=h
  by_cases e:p.1=k
  ·rw[if_pos e,if_pos (h1.symm.trans e)];exact⟨h1,ry⟩
  ·rw[if_neg e,if_neg (fun z=>e (h1.trans z))];exact⟨h1,h2⟩
theorem KV.put{kvs:List (κ × V)}{vs:List (κ × Value)}(r:KV kvs vs)(k:κ){y:V}{u:Value}(ry:RelV y u):KV (putK kvs k y) (stored vs k u):=by
 unfold putK stored
 rw[r.any k]
 by_cases e:(vs.any fun kv=>decide (kv.1=k))=true
 ·rw[if_pos e,if_pos e];exact r.repl k ry
 ·rw[if_neg e,if_neg e];exact Paired.snoc r ⟨rfl,ry⟩
theorem KV.length{kvs:List (κ × V)}{vs:List (κ × Value)}(r:KV kvs vs):kvs.length=vs.length:=Paired.length r
end
theorem aE8{P:Program}{w:World}{k:Key}{u:Value}(r:RelV (kV k) u):(fK P w).is k u=true:=by
 cases k with
 | inl i=>obtain⟨t,e⟩:=(show ∃ t,u=Value.int i t from r);subst e;exact aJg P w i t
 | inr x=>obtain⟨t,e⟩:=(show ∃ t,u=Value.str x t from r);subst e;exact aJh P w x t
theorem aGr{P:Program}{w:World}:∀ {ks:List Key} {us:List Value},Vals (ks.map kV) us->ItemsAre (fK P w) ks us
 | [],_,r=>by rw[List.map_nil]at r;cases r;exact .nil
 | k::ks,_,r=>by
  rw[List.map_cons]at r
  cases r with
  | cons h t=>exact .cons (aE8 h) (aGr t)
abbrev KT(H:Hp):List (List Key × V)->List (List Key × Addr × Value)->Prop:=Paired fun p q=>p.1=q.1/\H q.2.1=some (.tup (p.1.map kV))/\RelV p.2 q.2.2
theorem KT.val{H:Hp}{kvs:List (List Key × V)}{xs:List (List Key × Addr × Value)}(r:KT H kvs xs)(k:List Key):tV (aAq kvs k) ((atKey xs k).map (·.2)):=by
 induction r with
 | nil=>exact True.intro
 | @cons p q ps qs h t ih =>
  obtain⟨h1,_,h2⟩:=h
  by_cases e:p.1=k
  ·have e':q.1=k:=h1.symm.trans e
   have b:atKey (q::qs) k=some q.2:=by simp[atKey,List.find?_cons,e']
   rw[wC e,b];exact h2
  ·have e':¬ q.1=k:=fun z=>e (h1.trans z)
   have b:atKey (q::qs) k=atKey qs k:=by simp[atKey,List.find?_cons,e']
   rw[wF e,b];exact ih
theorem KT.repl{H:Hp}{kvs:List (List Key × V)}{xs:List (List Key × Addr × Value)}(r:KT H kvs xs)(k:List Key){y:V}{u:Value}(ry:RelV y u) :
  KT H (kvs.map fun kv=>if kv.1=k then (kv.1,y) else kv) (xs.map (putAt k u)):=by
 induction r with
 | nil=>exact .nil
 | @cons p q ps qs h t ih =>
  rw[List.map_cons,List.map_cons]
  refine .cons ?_ ih
  obtain⟨h1,h2,h3⟩:=h
  unfold putAt
  by_cases e:p.1=k
  ·rw[if_pos e,if_pos (h1.symm.trans e)];exact⟨h1,h2,ry⟩
  ·rw[if_neg e,if_neg (fun z=>e (h1.trans z))];exact⟨h1,h2,h3⟩
theorem KT.put{H:Hp}{kvs:List (List Key × V)}{xs:List (List Key × Addr × Value)}(r:KT H kvs xs)(k:List Key){b:Addr}{y:V}{u:Value}(hb:H b=some (.tup (k.map kV)))(ry:RelV y u) :
  KT H (putK kvs k y) (storedH xs k b u):=by
 have e:(kvs.any fun kv=>decide (kv.1=k))=(atKey xs k).isSome:=by
  rw[aJo,(r.val k).isSome_eq,Option.isSome_map]
 unfold putK storedH
 rw[e]
 by_cases q:(atKey xs k).isSome=true
 ·rw[if_pos q,if_pos q];exact r.repl k ry
 ·rw[if_neg q,if_neg q];exact Paired.snoc r ⟨rfl,hb,ry⟩
theorem KT.keeps{H H':Hp}{kvs:List (List Key × V)}{xs:List (List Key × Addr × Value)}(r:KT H kvs xs)(ht:∀ b ys,H b=some (.tup ys)->H' b=some (.tup ys)):KT H' kvs xs :=
 Paired.mapP r fun _ _ z=>⟨z.1,ht _ _ z.2.1,z.2.2⟩
section
variable{P:Program}{w:World}{H:Hp}{h:Heap}{a:Addr}
theorem aYp{u:HO}(ok:HOk P w H h)(e:Rd H a u):jN P w H h a u:=e.ok ok
theorem aCt{kvs:List (Key × V)}(ok:HOk P w H h)(e:Rd H a (.dK kvs)):kvs.length<=sizeLine/\(a==sysModules)=false/\∃ vs,KV kvs vs/\h.DictOf (fK P w) a vs :=
 show jN P w H h a (.dK kvs) from aYp ok e
theorem aYq{kvs:List (Key × V)}(ok:HOk P w H h)(e:H a=some (.dK kvs)):kvs.length<=sizeLine/\(a==sysModules)=false/\∃ vs,KV kvs vs/\h.DictOf (fK P w) a vs:=aCt ok (.inl e)
theorem aC3{ks:List Key}(ok:HOk P w H h)(e:H a=some (.tup (ks.map kV))):(tupleKind (fK P w)).is h ks a:=by
 obtain⟨_,its,r,o,h1,h2,n,h3⟩:=(show jN P w H h a (.tup (ks.map kV)) from ok a _ e)
 exact⟨o,its.toArray,n,h1,h2,h3,by simpa using aGr r⟩
theorem aE9{kvs:List (List Key × V)}(ok:HOk P w H h)(e:Rd H a (.dT kvs)):kvs.length<=sizeLine/\(a==sysModules)=false /\
  ∃ xs,KT H kvs xs/\h.DictOfH (tupleKind (fK P w)) a xs:=by
 obtain⟨z,y,xs,r,o,es,ep,h1,h2,h3,h4,h5⟩:=(show jN P w H h a (.dT kvs) from aYp ok e)
 refine⟨z,y,xs,r,o,es,ep,h1,h2,h3,h4,fun x hx=>?_,h5⟩
 have all:∀ {l:List (List Key × V)} {m:List (List Key × Addr × Value)},KT H l m->∀ x∈m,(tupleKind (fK P w)).is h x.1 x.2.1:=by
  intro l m q
  induction q with
  | nil=>intro x hx;exact nomatch hx
  | @cons p q ps qs hq t ih =>
   intro x hx
   rcases List.mem_cons.mp hx with e | hx
   ·subst e
    exact aC3 ok (by rw[<-hq.1];exact hq.2.1)
   ·exact ih x hx
 exact all r x hx
theorem bDc{kvs:List (List Key × V)}(ok:HOk P w H h)(e:H a=some (.dT kvs)):kvs.length<=sizeLine/\(a==sysModules)=false /\
  ∃ xs,KT H kvs xs/\h.DictOfH (tupleKind (fK P w)) a xs:=aE9 ok (.inl e)
end
def yS(H:Hp)(a:Addr)(y:V)(r:Option V):Prop :=
 (∃ kvs k,Rd H a (.dK kvs)/\y=kV k/\r=aAq kvs k)\/∃ kvs k b,Rd H a (.dT kvs)/\y = .ref b/\H b=some (.tup (k.map kV))/\r=aAq kvs k
def aI4(H:Hp)(a:Addr)(y v:V)(H':Hp):Prop :=
 (∃ kvs k,H a=some (.dK kvs)/\y=kV k/\kvs.length<sizeLine/\H'=upd H a (.dK (putK kvs k v))) \/
 ∃ kvs k b,H a=some (.dT kvs)/\y = .ref b/\H b=some (.tup (k.map kV))/\kvs.length<sizeLine/\H'=upd H a (.dT (putK kvs k v))
theorem yS.k{H:Hp}{a:Addr}{kvs:List (Key × V)}{k:Key}(e:H a=some (.dK kvs)):yS H a (kV k) (aAq kvs k) := .inl ⟨kvs,k,.inl e,rfl,rfl⟩
theorem yS.t{H:Hp}{a b:Addr}{kvs:List (List Key × V)}{k:List Key}(e:H a=some (.dT kvs))(eb:H b=some (.tup (k.map kV))):yS H a (.ref b) (aAq kvs k) := .inr ⟨kvs,k,b,.inl e,rfl,eb,rfl⟩
theorem aI4.k{H:Hp}{a:Addr}{kvs:List (Key × V)}{k:Key}{v:V}(e:H a=some (.dK kvs))(hl:kvs.length<sizeLine):aI4 H a (kV k) v (upd H a (.dK (putK kvs k v))) := .inl ⟨kvs,k,e,rfl,hl,rfl⟩
theorem aI4.t{H:Hp}{a b:Addr}{kvs:List (List Key × V)}{k:List Key}{v:V}(e:H a=some (.dT kvs))(eb:H b=some (.tup (k.map kV)))(hl:kvs.length<sizeLine) :
  aI4 H a (.ref b) v (upd H a (.dT (putK kvs k v))) := .inr ⟨kvs,k,b,e,rfl,eb,hl,rfl⟩
section
variable{X:Cx}{pins:List (Addr × Obj)}{σ:St}{H:Hp}{s:Shared}{a:Addr}{y v:V}{u r:Value}{o:Option V}{A:Around}{E:Value->Shared->Prop}
theorem Inv.big(I:Inv X pins σ H s):sysModules<s.heap.objs.size:=by
 have h:mainGlobals<s.heap.objs.size:=(I.mod.glob.keeps I.bk).lt
 exact Nat.lt_trans (by decide) h
theorem aQ5{Q:Value->Shared->Prop}(hu:A.units+1<cLine)(I:Inv X pins σ H s)(g:yS H a y (some v))(ry:RelV y u)(h:∀ w' s',Inv X pins σ H s'->RelV v w'->Q w' s') :
  wpAny (model X.prog X.w) A (getItem (.ref a) u) Q E s:=by
 rcases g with ⟨kvs,k,e,ey,l⟩ | ⟨kvs,k,b,e,ey,eb,l⟩
 ·subst ey
  obtain⟨z,hd,vs,rel,dd⟩:=aCt I.hok e
  obtain⟨w',hw,rw'⟩:=tV.some_of (v:=v) (o:=valueAt vs k) (by rw[l];exact rel.val k)
  exact wpAny_getItem_of (aE8 ry) dd.mapOf hw (h w' _ (I.tok _) rw')
 ·subst ey
  cases (show u=Value.ref b from ry)
  obtain⟨z,hd,xs,rel,dd⟩:=aE9 I.hok e
  obtain⟨w',hw,rw'⟩:=tV.some_of (v:=v) (o:=(atKey xs k).map (·.2)) (by rw[l];exact rel.val k)
  obtain⟨p,hp,hp2⟩:=Option.map_eq_some_iff.mp hw
  refine wpAny_getItem_heap (tupleKind_room_in1 hu) (aC3 I.hok eb) dd hp ?_
  rw[hp2]
  exact h w' _ (I.tok _) rw'
theorem bGm{Q:Value->Shared->Prop}(hu:A.units+1<cLine)(I:Inv X pins σ H s)(g:yS H a y o)(ry:RelV y u)(h:∀ s',Inv X pins σ H s'->Q (.bool o.isSome) s') :
  wpAny (model X.prog X.w) A (compareOp .In u (.ref a)) Q E s:=by
 rcases g with ⟨kvs,k,e,ey,l⟩ | ⟨kvs,k,b,e,ey,eb,l⟩
 ·subst ey
  obtain⟨z,hd,vs,rel,dd⟩:=aCt I.hok e
  refine wpAny_in_of (aE8 ry) hd dd.mapOf ?_
  rw[<-(rel.val k).isSome_eq,<-l]
  exact h _ (I.tok _)
 ·subst ey
  cases (show u=Value.ref b from ry)
  obtain⟨z,hd,xs,rel,dd⟩:=aE9 I.hok e
  refine wpAny_in_heap (tupleKind_room_in1 hu) (aC3 I.hok eb) hd dd ?_
  have q:=(rel.val k).isSome_eq
  rw[Option.isSome_map]at q
  rw[<-q,<-l]
  exact h _ (I.tok _)
theorem aW9{Q:Value->Shared->Prop}(hu:A.units+1<cLine)(I:Inv X pins σ H s)(g:yS H a y o)(ry:RelV y u)(h:∀ s',Inv X pins σ H s'->Q (.bool (!o.isSome)) s') :
  wpAny (model X.prog X.w) A (compareOp .NotIn u (.ref a)) Q E s:=by
 rcases g with ⟨kvs,k,e,ey,l⟩ | ⟨kvs,k,b,e,ey,eb,l⟩
 ·subst ey
  obtain⟨z,hd,vs,rel,dd⟩:=aCt I.hok e
  refine wpAny_notIn_of (aE8 ry) hd dd.mapOf ?_
  rw[<-(rel.val k).isSome_eq,<-l]
  exact h _ (I.tok _)
 ·subst ey
  cases (show u=Value.ref b from ry)
  obtain⟨z,hd,xs,rel,dd⟩:=aE9 I.hok e
  refine wpAny_notIn_heap (tupleKind_room_in1 hu) (aC3 I.hok eb) hd dd ?_
  have q:=(rel.val k).isSome_eq
  rw[Option.isSome_map]at q
  rw[<-q,<-l]
  exact h _ (I.tok _)
theorem aI5{h':Heap}{t':Nat}{ob:HO}(I:Inv X pins σ H s)(mu:Mut (H a))(hs:Heap.SameBut a s.heap h')(he:∃ q,h'.get? a=some q)(new:jN X.prog X.w (upd H a ob) h' a ob) :
  Inv X pins σ (upd H a ob) {s with heap:=h',toks:=t'} :=
 I.write (x:=a) (e:=a) mu (.inl rfl) (fun b q hb z=>(hs.2 b hb).trans z) he new
theorem aSh{P:Program}{w:World}{H':Hp}{h':Heap}{kvs:List (Key × V)}{vs:List (Key × Value)}(z:kvs.length<=sizeLine)(hd:(a==sysModules)=false)(rel:KV kvs vs)(dd:h'.DictOf (fK P w) a vs) :
  jN P w H' h' a (.dK kvs):=⟨z,hd,vs,rel,dd⟩
theorem aQ6{H':Hp}{Q:Unit->Shared->Prop}(hu:A.units+1<cLine)(I:Inv X pins σ H s)(g:aI4 H a y v H')(ry:RelV y u)(rv:RelV v r)(h:∀ s',Inv X pins σ H' s'->Q () s') :
  wpAny (model X.prog X.w) A (setItem (.ref a) u r) Q E s:=by
 rcases g with ⟨kvs,k,e,ey,l,eH⟩ | ⟨kvs,k,b,e,ey,eb,l,eH⟩
 ·subst ey eH
  obtain⟨z,hd,vs,rel,dd⟩:=aYq I.hok e
  have hz:vs.length<=sizeLine:=by rw[<-rel.length];exact z
  have hl:(putK kvs k v).length<=sizeLine:=by have:=wG kvs k v;omega
  refine wpAny_setItem_pairs (hsz:=hz) (aE8 ry) dd fun h' dd' hs=>h _ ?_
  have he:∃ q,h'.get? a=some q:=let ⟨q,_,_,hq,_⟩:=dd';⟨q,hq⟩
  exact aI5 I (by rw[e];exact True.intro) hs he (aSh hl hd (rel.put k rv) dd')
 ·subst ey eH
  cases (show u=Value.ref b from ry)
  obtain⟨z,hd,xs,rel,dd⟩:=bDc I.hok e
  have hz:xs.length<=sizeLine:=by rw[<-Paired.length rel];exact z
  have hl:(putK kvs k v).length<=sizeLine:=by have:=wG kvs k v;omega
  refine wpAny_setItem_heap (hsz:=hz) (tupleKind_room_in1 hu) (aC3 I.hok eb) dd fun h' dd' hs=>h _ ?_
  obtain⟨q,es,ep,hq,h2,h3,h4,_,h5⟩:=dd'
  refine aI5 I (by rw[e];exact True.intro) hs ⟨q,hq⟩ ⟨hl,hd,_,(rel.put k eb rv).keeps fun c ys ec=>?_,q,es,ep,hq,h2,h3,h4,h5⟩
  rw[bQ (bCl ec e (fun z=>nomatch z))]
  exact ec
end
section
variable{X:Cx}{pins:List (Addr × Obj)}{σ:St}{H:Hp}{s:Shared}{a:Addr}{kvs:List (Key × V)}{k:Key}{u:Value}{A:Around}{E:Value->Shared->Prop}
theorem bDd{Q:Value->Shared->Prop}(I:Inv X pins σ H s)(e:Rd H a (.dK kvs))(h:∀ t s',Inv X pins σ H s'->Q (.int kvs.length t) s'):wpAny (model X.prog X.w) A (call (.builtin "len") [.ref a]) Q E s:=by
 obtain⟨z,hd,vs,rel,dd⟩:=aCt I.hok e
 refine call_len_dict hd dd (by rw[<-rel.length];rw[sizeLine_eq]at z;omega) ?_
 rw[<-rel.length]
 exact h _ _ (I.tok _)
end
theorem aJp{X:Cx}{pins:List (Addr × Obj)}{σ:St}{H:Hp}{s:Shared}{a:Addr}{y:V}{o:Option V}(I:Inv X pins σ H s)(g:yS H a y o):s.TypeIs (.ref a) "dict" := by
 rcases g with ⟨kvs,k,e,_,_⟩ | ⟨kvs,k,b,e,_,_,_⟩
 ·obtain⟨_,_,vs,_,dd⟩:=aCt I.hok e
  exact dd.typeIs
 ·obtain⟨_,_,xs,_,dd⟩:=aE9 I.hok e
  exact dd.typeIs
def sDPut(td ty tv:TE):TS:=fun D σ H=>tv σ H fun v H1=>td σ H1 fun x H2=>ty σ H2 fun y H3=>∃ a H4,x = .ref a/\aI4 H3 a y v H4/\D.nx σ H4
section
variable{X:Cx}{o i e value:Expr}{pos pos' tpos:Pos}{td ty tv:TE}
end
theorem aJq{P:Program}{w:World}{H:Hp}(h:Heap)(hb:sysModules<h.objs.size):jN P w H (h.push {cls := .type "dict", data := .dict #[] }) h.objs.size (.dK []) :=
 ⟨Nat.zero_le _,beq_eq_false_iff_ne.mpr (Ne.symm (Nat.ne_of_lt hb)),[],.nil,Heap.DictOf.new h⟩
def bA4:TE:=fun _ H Q=>∀ p,H p=none->Q (.ref p) (upd H p (.dK []))
section
variable{X:Cx}{pos:Pos}
theorem aSi:PE X (.Dict [] [] pos) bA4:=fun pins s σ H Q I h =>
 wpAny_Dict_empty ⟨.ref s.heap.objs.size,_,I.laid (a:=s.heap.objs.size) (o := .dK []) (t':=s.toks) (fun _ _ q=>Heap.get?_push_of_some _ q) (Nat.le_refl _) (aJq s.heap I.big),rfl,h _ (I.hok.fresh (Nat.le_refl _))⟩
end
def aM0:List (TE × TE)->St->Hp->(List (V × V)->Hp->Prop)->Prop
 | [],_,H,Q=>Q [] H
 | (tk,tv)::r,σ,H,Q=>tk σ H fun x H1=>tv σ H1 fun y H2=>aM0 r σ H2 fun ps H3=>Q ((x,y)::ps) H3
abbrev VV:List (V × V)->List (Value × Value)->Prop:=Paired fun p q=>RelV p.1 q.1/\RelV p.2 q.2
def PPs(X:Cx)(pos:Pos)(keys:List (Option Expr))(values:List Expr)(trs:List (TE × TE)):Prop :=
 ∀ (pins:List (Addr × Obj)) (s:Shared) (σ:St) (H:Hp) (Q:List (V × V)->Hp->Prop),Inv X pins σ H s->aM0 trs σ H Q ->
  wpAny (model X.prog X.w) X.A (evalPairs (pairTrees keys values X.env pos)) (fun vs s'=>∃ ps H',Inv X pins σ H' s'/\VV ps vs/\Q ps H') X.xe s
theorem aWa{X:Cx}{pos:Pos}:PPs X pos [] [] []:=fun pins s σ H Q I h=>pairTrees_nil_walk ⟨[],H,I,.nil,h⟩
theorem aSj{X:Cx}{pos:Pos}{k v:Expr}{ks:List (Option Expr)}{vs:List Expr}{tk tv:TE}{trs:List (TE × TE)}(hk:PE X k tk)(hv:PE X v tv)(hr:PPs X pos ks vs trs) :
  PPs X pos (some k::ks) (v::vs) ((tk,tv)::trs):=fun pins s σ H Q I h =>
 pairTrees_cons_walk (thn (hk pins s σ H _ I h) fun u s1 ⟨x,H1,I1,rx,q1⟩=>thn (hv pins s1 σ H1 _ I1 q1) fun w2 s2 ⟨y,H2,I2,ry,q2⟩ =>
  thn (hr pins s2 σ H2 _ I2 q2) fun ws s3 ⟨ps,H3,I3,rel,q3⟩=>⟨(x,y)::ps,H3,I3,.cons ⟨rx,ry⟩ rel,q3⟩)
def aC4(kvs more:List (Key × V)):List (Key × V):=more.foldl (fun acc kv=>putK acc kv.1 kv.2) kvs
theorem KV.merge:∀ {more:List (Key × V)} {rs:List (Key × Value)} {kvs:List (Key × V)} {vs:List (Key × Value)},KV more rs->KV kvs vs->KV (aC4 kvs more) (merged vs rs):=by
 intro more rs kvs vs r
 unfold KV at r
 induction r generalizing kvs vs with
 | nil=>intro q;exact q
 | @cons p q ps qs h t ih =>
  intro r0
  have e:KV (putK kvs p.1 p.2) (stored vs q.1 q.2):=by
   have:=r0.put p.1 h.2
   rw[<-h.1];exact this
  exact ih e
theorem yV:∀ (more kvs:List (Key × V)),(aC4 kvs more).length<=kvs.length+more.length
 | [],kvs=>by show kvs.length<=kvs.length+0;omega
 | p::r,kvs=>by
  have h1:=yV r (putK kvs p.1 p.2)
  have h2:=wG kvs p.1 p.2
  show (aC4 (putK kvs p.1 p.2) r).length<=_
  rw[List.length_cons];omega
theorem aEa{P:Program}{w:World}:∀ {kvs:List (Key × V)} {ws:List (Value × Value)},VV (kvs.map fun kv=>(kV kv.1,kv.2)) ws->∃ rs,Carries (fK P w) ws rs/\KV kvs rs
 | [],_,r=>by rw[List.map_nil]at r;cases r;exact⟨[],True.intro,.nil⟩
 | p::kvs,_,r=>by
  rw[List.map_cons]at r
  cases r with
  | @cons a b as bs h t =>
   obtain⟨rs,c,q⟩:=aEa (P:=P) (w:=w) t
   obtain⟨b1,b2⟩:=b
   exact⟨(p.1,b2)::rs,⟨aE8 h.1,rfl,c⟩,.cons ⟨rfl,h.2⟩ q⟩
def bDe(trs:List (TE × TE)):TE:=fun σ H Q=>∀ p,H p=none->aM0 trs σ (upd H p (.dK [])) fun ps H2=>H2 p=some (.dK [])/\∃ kvs:List (Key × V),ps=kvs.map (fun kv=>(kV kv.1,kv.2))/\kvs.length<=15/\Q (.ref p) (upd H2 p (.dK (aC4 [] kvs)))
theorem aWb{X:Cx}{pos:Pos}{keys:List (Option Expr)}{values:List Expr}{trs:List (TE × TE)}(h:PPs X pos keys values trs)(hall:keys.all (·.isSome)=true)(hl:keys.length=values.length)(h0:keys≠[])
  (h15:keys.length<=15):PE X (.Dict keys values pos) (bDe trs):=by
 intro pins s σ H Q I q
 have hn:=I.hok.fresh (Nat.le_refl s.heap.objs.size)
 have I1:=I.laid (a:=s.heap.objs.size) (o := .dK []) (h':=s.heap.push {cls := .type "dict", data := .dict #[] }) (t':=s.toks) (fun _ _ q=>Heap.get?_push_of_some _ q) (Nat.le_refl _) (aJq s.heap I.big)
 refine wpAny_Dict_walk (knd:=fK X.prog X.w) hall hl h0 h15 (thn (h pins _ σ _ _ I1 (q _ hn)) fun ws s2 ⟨ps,H2,I2,rel,e,kvs,ep,lk,q2⟩=>?_)
 subst ep
 obtain⟨rs,c,rk⟩:=aEa (P:=X.prog) (w:=X.w) rel
 obtain⟨z,hd,vs0,r0,dd⟩:=aYq I2.hok e
 cases r0
 refine⟨rs,c,dd,fun h' dd' hs=>⟨.ref s.heap.objs.size,_,?_,rfl,q2⟩⟩
 have hz:(aC4 [] kvs).length<=sizeLine:=by
  have h1:=yV kvs []
  rw[List.length_nil]at h1
  rw[sizeLine_eq];omega
 have he:∃ q,h'.get? s.heap.objs.size=some q:=let ⟨q,_,_,hq,_⟩:=dd';⟨q,hq⟩
 exact aI5 I2 (by rw[e];exact True.intro) hs he (aSh hz hd (rk.merge .nil) dd')
structure M1(X:Cx)(o:Expr)(m:Str)(apos:Pos)(e:Expr)(cpos:Pos):Prop where
 base:attributeBase o m X.env (eval o X.env)=eval o X.env
 few:((backTo cpos (starEach [e] X.env)).all (fun x => !x.1)&&(backToKw cpos (keywordEach [] X.env)).all (fun x=>x.1.isSome)
  && decide (([e]:List Expr).length+([]:List Keyword).length+(if ([]:List Keyword).isEmpty then 0 else 1)<30))=true
 line:(apos.endLine==cpos.line)=true
 trees:backTo cpos (starEach [e] X.env)=[(false,eval e X.env)]
def IsD(H:Hp)(a:Addr):Prop:=(∃ kvs,Rd H a (.dK kvs))\/∃ kvs,Rd H a (.dT kvs)
theorem bA5{X:Cx}{pins:List (Addr × Obj)}{σ:St}{H:Hp}{s:Shared}{a:Addr}(I:Inv X pins σ H s)(d:IsD H a) :
  s.TypeIs (.ref a) "dict" /\ (∀ b,Value.ref a = .ref b->∃ ob,s.heap.get? b=some ob/\ob.dict=none)/\(a==sysModules)=false:=by
 rcases d with ⟨kvs,e⟩ | ⟨kvs,e⟩
 ·obtain⟨_,hd,vs,_,dd⟩:=aCt I.hok e
  refine⟨dd.typeIs,fun b q=>?_,hd⟩
  cases q
  obtain⟨ob,_,_,h1,h2,_⟩:=dd
  exact⟨ob,h1,h2.2.1⟩
 ·obtain⟨_,hd,xs,_,dd⟩:=aE9 I.hok e
  refine⟨dd.typeIs,fun b q=>?_,hd⟩
  cases q
  obtain⟨ob,_,_,h1,h2,_⟩:=dd
  exact⟨ob,h1,h2.2.1⟩
section
variable{X:Cx}{pins:List (Addr × Obj)}{σ:St}{H:Hp}{s:Shared}{a:Addr}{y d:V}{u r:Value}{o:Option V}{A:Around}{E:Value->Shared->Prop}
theorem bA6{Q:Value->Shared->Prop}(hu:A.units+1<cLine)(I:Inv X pins σ H s)(g:yS H a y o)(ry:RelV y u)(h:∀ w' s',Inv X pins σ H s'->RelV (o.getD .non) w'->Q w' s') :
  wpAny (model X.prog X.w) A (call (.builtin "dict.get") [.ref a,u]) Q E s:=by
 rcases g with ⟨kvs,k,e,ey,l⟩ | ⟨kvs,k,b,e,ey,eb,l⟩
 ·subst ey
  obtain⟨z,hd,vs,rel,dd⟩:=aCt I.hok e
  refine call_meetsIn PySem.F.slot_dict_get dd.typeIs PySem.F.entry_dict_get (PySem.F.args_dict_get_2 _ _) (meets_dict_get (fK X.prog X.w) a (aE8 ry) hd) ⟨_,dd.mapOf,h _ _ (I.tok _) ?_⟩
  rw[l]
  exact(rel.val k).getD rfl
 ·subst ey
  cases (show u=Value.ref b from ry)
  obtain⟨z,hd,xs,rel,dd⟩:=aE9 I.hok e
  refine call_meetsIn PySem.F.slot_dict_get dd.typeIs PySem.F.entry_dict_get (PySem.F.args_dict_get_2 _ _) (meetsH_dict_get (tupleKind (fK X.prog X.w)) a b hd) ⟨tupleKind_room_in1 hu,k,xs,aC3 I.hok eb,dd,h _ _ (I.tok _) ?_⟩
  rw[l]
  exact(rel.val k).getD rfl
end
def bA7(td ty:TE):TE:=fun σ H Q=>td σ H fun x H1=>∃ a,x = .ref a/\IsD H1 a/\ty σ H1 fun y H2=>∃ o,yS H2 a y o/\Q (o.getD .non) H2
section
variable{X:Cx}{o e f:Expr}{apos cpos:Pos}{td ty tx:TE}
theorem aSk(hu:X.A.units+1<cLine)(ho:PE X o td)(he:PE X e ty)(m:M1 X o "get" apos e cpos):PE X (.Call (.Attribute o "get" apos) [e] [] cpos) (bA7 td ty):=by
 intro pins s σ H Q I h
 refine wpAny_Call_method m.base m.few m.line PySem.F.plainAttrs_dict PySem.F.slot_dict_get PySem.F.type_dict_get (thn (ho pins s σ H _ I h) fun u s1 ⟨x,H1,I1,rx,a,ex,d,q1⟩=>?_)
 subst ex
 obtain rfl:u=Value.ref a:=rx
 obtain⟨t1,t2,_⟩:=bA5 I1 d
 refine⟨t1,t2,?_⟩
 rw[m.trees]
 refine Calls.callWith_builtin rfl (Calls.evalArgs_plain (Calls.spliced_cons (thn (he pins s1 σ H1 _ I1 q1) fun iv s2 ⟨y,H2,I2,ry,ov,g,q2⟩=>Calls.spliced_nil ?_)))
 exact bA6 hu I2 g ry fun w' s3 I3 rw'=>⟨_,H2,I3,rw',q2⟩
end
section
variable{X:Cx}{pins:List (Addr × Obj)}{σ:St}{H:Hp}{s:Shared}{a:Addr}{kvs:List (Key × V)}{A:Around}{E:Value->Shared->Prop}
end
section
variable{X:Cx}{pins:List (Addr × Obj)}{σ:St}{H:Hp}{s:Shared}{a:Addr}{y:V}{u:Value}{A:Around}{E:Value->Shared->Prop}
end
end L2
set_option maxHeartbeats 1000000
open PySem.W (Frag findIn mroIn clsIn specialIn takesIn nsIn notCls keepIn kia_one fnOf codeIn excIn mg_of OpenLaw isFn mg_none_of WalkO InK)
open List (foldl_cons mem_cons_self mem_cons_of_mem map_cons getD_eq_getElem?_getD length_cons length_append length_singleton drop_zero take_length length_nil length_map cons_append filter_cons_of_pos filter_cons_of_neg length_range getElem?_cons_succ append_nil zip_cons_cons nil_append length_filter_le length_set mem_cons not_mem_nil sum_cons any_cons forIn_nil forIn_cons lookup_cons)
open Nat (zero_le mod_lt strongRecOn testBit_or zero_testBit eq_of_testBit_eq le_add_right testBit_and le_succ not_lt_zero)
open Array (ext' getElem?_toList getD_eq_getD_getElem? toList_push)
open Int (toNat_natCast emod_nonneg emod_lt_of_pos)
open Option (getD_some map_some)
open Bool (or_eq_true and_eq_true)
variable{α β:Type}{c n np i m r j q x1 ep:Nat}{b:Bool}{l z is rk ks:List Nat}{a C fa T I A_Machine X_NoLoop X_NoRoom X_NoWord:PySem.Addr}{tg e elt:PySem.Expr}{op:PySem.CmpOp}{x qual name:PySem.Str}{E Q Qf:PySem.Value->PySem.Shared->Prop}{v:L2.V}{S:List (List Nat)}{s:PySem.Shared}{al:Nat->Bool}{acc:List (Nat × List Nat)}{h h' base h0:PySem.Heap}{B A fp:List PySem.Addr}{ns:List Int}{o:L2.HO}{w:PySem.World}{H H' H1 H0:L2.Hp}{vs dvs:List L2.V}{Dn:L2.Ends}{X Y:L2.Cx}{es elts:List PySem.Expr}{pos p0 pos' p2 p1 apos cpos px:PySem.Pos}{gv:Int->Int->L2.V}{fd:PySem.FuncData}{ps N loose:List PySem.Str}{sm:PySem.Stmt}{items:Array PySem.Value}{M:PySem.Model}{env:PySem.Env}{body:List PySem.Stmt}{P prog:PySem.Program}{mg:PySem.Str->Option PySem.Value}{scope:PySem.Scope}{pins:List (PySem.Addr × PySem.Obj)}{te:L2.TE}{tt:L2.TT}{pl:PySem.Sem Bool}{dV oc:PySem.Value}{osl:Array (Option PySem.Value)}{sp:L2.Sp}{outer fl:List PySem.Env}{tl bmB:List PySem.Value}{newId:String}{t_LETTERS t_MOST_ROOMS t_MOST_LETTERS:PySem.Tok}{XP:(PySem.Str->Option PySem.Value)->PySem.Heap->Prop}
namespace Pu
inductive D where
 | non | bl (b:Bool) | int (i:Int) | str (s:List Nat) | tup (xs:List D) | lst (xs:List D)
 | dct (t:Bool) (ks vs:List D)
 | ins (c:String) (ns:List String) (xs:List D)
 | exn (c:String) (ns:List String) (xs:List D)
 | fn (f:String)
inductive R (α:Type) where
 | ok (a:α) | exc (x:D) | bad
@[inline] def R.bind{α β:Type}(r:R α)(f:α->R β):R β:=match r with
 | .ok a=>f a
 | .exc x => .exc x
 | .bad => .bad
theorem R.ok_of{r:R α}{f:α->R β}{b:β}(h:r.bind f = .ok b):∃ a,r = .ok a/\f a = .ok b:=by
 cases r with
 | ok a=>exact⟨a,rfl,h⟩
 | exc x=>exact nomatch h
 | bad=>exact nomatch h
noncomputable section
open Classical in
def aJ{α:Type}(c:Prop)(r:R α):R α:=if c then r else .bad
theorem aF{c:Prop}{r:R α}(h:c):aJ c r=r:=if_pos h
theorem aK{c:Prop}{r:R α}{a:α}(h:aJ c r = .ok a):c/\r = .ok a:=by
 unfold aJ at h
 split at h
 ·exact⟨by assumption,h⟩
 ·exact nomatch h
inductive OK where
 | l | d (t:Bool) (ks:List D) | i (n:Nat) (c:String) (ns:List String)
def ofK:OK->List D->D
 | .l,xs => .lst xs
 | .d t ks,xs => .dct t ks xs
 | .i _ c ns,xs => .ins c ns xs
inductive Sl where
 | v (d:D) | o (k:OK) (xs:List D)
abbrev PSt:=List (Option Sl)
abbrev Ex:=PSt->R D
inductive Fl where
 | nx (st:PSt) | rt (d:D) | bk (st:PSt) | ct (st:PSt)
abbrev Bd:=PSt->R Fl
@[irreducible] def big:Nat:=10000000
theorem oK:big=10000000:=by unfold big;rfl
theorem eU(h:n<=10000000):n<=big:=by rw[oK];exact h
theorem aEb(h:n<10000000):n<big:=by rw[oK];exact h
theorem tY{n:Int}(h:n<=10000000):n<=(big:Int):=by rw[oK];exact h
theorem aDr{n:Int}(h : -10000000<=n) : -(big:Int)<=n:=by rw[oK];exact h
def sIx(n d:Nat):Option Int->Nat
 | none=>d
 | some v=>if v<0 then (v+(n:Int)).toNat else min v.toNat n
def ixN(n:Nat)(i:Int):Option Nat:=if 0<=i then (if i<n then some i.toNat else none) else if -(n:Int)<=i then some (i+n).toNat else none
def atI{α:Type}(xs:List α)(i:Int):Option α:=(ixN xs.length i).bind fun j=>xs[j]?
def cut{α:Type}(xs:List α)(lo hi:Option Int):List α:=(xs.drop (sIx xs.length 0 lo)).take (sIx xs.length xs.length hi-sIx xs.length 0 lo)
def ofO{α:Type}:Option α->R α
 | some a => .ok a
 | none => .bad
abbrev Op2:=D->D->R D
def mV:Op2
 | .int i,.int j => .ok (.int (i+j))
 | .str x,.str y=>aJ (x.length+y.length<=big) (.ok (.str (x++y)))
 | .lst x,.lst y=>aJ (x.length+y.length<=big) (.ok (.lst (x++y)))
 | _,_ => .bad
def aI6:Op2
 | .int i,.int j => .ok (.int (i-j))
 | _,_ => .bad
def aCu:Op2
 | .int i,.int j=>aJ (0<j/\j<1073741824) (.ok (.int (i/j)))
 | _,_ => .bad
def rA:Op2
 | .int i,.int j=>aJ (0<j) (.ok (.int (i%j)))
 | _,_ => .bad
def aSl:Op2
 | .int i,.int j=>aJ (0<=j/\j<=1000000/\i.natAbs<18446744073709551616) (.ok (.int (i^j.toNat)))
 | _,_ => .bad
def aDi:D->R D
 | .int i => .ok (.int (-i))
 | _ => .bad
def aSm:D->Bool
 | .int _=>true
 | .str _=>true
 | _=>false
def keyOk(t:Bool)(d:D):Bool:=match d with
 | .int _ => !t
 | .str _ => !t
 | .tup xs=>t&&xs.all aSm
 | _=>false
mutual
def eqK:D->D->Bool
 | .int i,.int j=>i==j
 | .str x,.str y=>x==y
 | .tup x,.tup y=>aM1 x y
 | _,_=>false
def aM1:List D->List D->Bool
 | [],[]=>true
 | a::x,b::y=>eqK a b&&aM1 x y
 | _,_=>false
end
def rB(ks vs:List D)(k:D):Option D:=((ks.zip vs).find? fun p=>eqK p.1 k).map (·.2)
def oM(ks:List D)(k:D):Bool:=ks.any fun x=>eqK x k
def pI(ks:List D)(k:D):List D:=if oM ks k=true then ks else ks++[k]
def sE(ks vs:List D)(k v:D):List D:=if oM ks k=true then (ks.zip vs).map (fun p=>if eqK p.1 k=true then v else p.2) else vs++[v]
def dIx:Op2
 | .dct t ks vs,k=>aJ (keyOk t k=true) (ofO (rB ks vs k))
 | .lst x,.int i=>ofO (atI x i)
 | .tup x,.int i=>ofO (atI x i)
 | .str x,.int i=>aJ (x.length<=big) (ofO ((atI x i).map fun c => .str [c]))
 | _,_ => .bad
mutual
def eqD:D->D->Bool
 | .non,.non=>true
 | .bl a,.bl b=>a==b
 | .bl a,.int j=>(if a then (1:Int) else 0)==j
 | .int i,.bl b=>i==(if b then (1:Int) else 0)
 | .int i,.int j=>i==j
 | .str x,.str y=>x==y
 | .tup x,.tup y=>gA x y
 | .lst x,.lst y=>gA x y
 | _,_=>false
def gA:List D->List D->Bool
 | [],[]=>true
 | a::x,b::y=>eqD a b&&gA x y
 | _,_=>false
end
mutual
def dep:D->Nat
 | .tup x=>fP x+1
 | .lst x=>fP x+1
 | .non=>0
 | .bl _=>0
 | .int _=>0
 | .str _=>0
 | .dct _ _ _=>0
 | .ins _ _ _=>0
 | .exn _ _ _=>0
 | .fn _=>0
def fP:List D->Nat
 | []=>0
 | a::x=>max (dep a) (fP x)
end
mutual
def plain:D->Bool
 | .tup x=>eV x
 | .lst x=>eV x
 | .non=>true
 | .bl _=>true
 | .int _=>true
 | .str _=>true
 | .dct _ _ _=>false
 | .ins _ _ _=>false
 | .exn _ _ _=>false
 | .fn _=>false
def eV:List D->Bool
 | []=>true
 | a::x=>plain a&&eV x
end
def dEq:Op2:=fun a b=>aJ (dep a<=64/\plain a=true/\plain b=true) (.ok (.bl (eqD a b)))
def dNe:Op2:=fun a b=>aJ (dep a<=64/\plain a=true/\plain b=true) (.ok (.bl (!eqD a b)))
def dLe:Op2
 | .int i,.int j => .ok (.bl (decide (i<=j)))
 | _,_ => .bad
def dGt:Op2
 | .int i,.int j => .ok (.bl (decide (j<i)))
 | _,_ => .bad
def dGe:Op2
 | .int i,.int j => .ok (.bl (decide (j<=i)))
 | _,_ => .bad
def fC:D->R D
 | .dct false ks _ => .ok (.int ks.length)
 | .lst x => .ok (.int x.length)
 | .tup x => .ok (.int x.length)
 | .str x=>aJ (x.length<=big) (.ok (.int x.length))
 | _ => .bad
def aEc:D->Bool
 | .ins _ _ _=>false
 | .exn _ _ _=>false
 | .fn _=>false
 | _=>true
def isN:D->Bool
 | .non=>true
 | _=>false
def bA8:D->Bool
 | .str _=>true
 | _=>false
def aQ7:D->Bool
 | .bl _=>true
 | _=>false
def isIn:D->Bool
 | .bl _=>true
 | .int _=>true
 | _=>false
def bA9:D->Bool
 | .tup _=>true
 | _=>false
def bDf:D->Bool
 | .dct _ _ _=>true
 | _=>false
def aQ8:D->Bool
 | .lst _=>true
 | _=>false
def jR(x y:List Nat)(lo:Nat):Option Nat:=(List.range' lo (x.length+1-lo)).find? fun i=>decide (i+y.length<=x.length)&&((x.drop i).take y.length==y)
def rC:Option Nat->Int
 | some i=>i
 | none => -1
def rD(x y:List Nat):List Nat:=(((x.dropWhile fun c=>y.contains c).reverse).dropWhile fun c=>y.contains c).reverse
abbrev Mop:=D->List D->R D
def aGs:Mop
 | .str x,[.str y] => .ok (.int (rC (jR x y 0)))
 | .str x,[.str y,.int i]=>aJ (0<=i) (.ok (.int (rC (jR x y i.toNat))))
 | _,_ => .bad
def aEd:Mop
 | .str x,[.str y]=>aJ (x.length<=big) (.ok (.str (rD x y)))
 | _,_ => .bad
def inD(x:D)(ys:List D):Bool:=ys.any fun y=>eqD y x
def dIn:D->D->R D
 | k,.dct t ks _=>aJ (keyOk t k=true) (.ok (.bl (oM ks k)))
 | x,.lst ys=>aJ (fP ys<=60/\plain x=true/\eV ys=true) (.ok (.bl (inD x ys)))
 | x,.tup ys=>aJ (fP ys<=60/\plain x=true/\eV ys=true) (.ok (.bl (inD x ys)))
 | .str x,.str y => .ok (.bl (jR y x 0).isSome)
 | _,_ => .bad
def mW:D->D->R D
 | k,.dct t ks _=>aJ (keyOk t k=true) (.ok (.bl (!oM ks k)))
 | x,.lst ys=>aJ (fP ys<=60/\plain x=true/\eV ys=true) (.ok (.bl (!inD x ys)))
 | x,.tup ys=>aJ (fP ys<=60/\plain x=true/\eV ys=true) (.ok (.bl (!inD x ys)))
 | .str x,.str y => .ok (.bl (!(jR y x 0).isSome))
 | _,_ => .bad
def aB(i:Nat):Ex:=fun st=>match st[i]? with
 | some (some (.v d)) => .ok d
 | _ => .bad
def dR(i:Nat):Ex:=fun st=>match st[i]? with
 | some (some (.v d)) => .ok d
 | some (some (.o k xs)) => .ok (ofK k xs)
 | _ => .bad
def eC(d:D):Ex:=fun _ => .ok d
def e2(op:Op2)(f g:Ex):Ex:=fun st=>(f st).bind fun x=>(g st).bind fun y=>op x y
def e1(op:D->R D)(f:Ex):Ex:=fun st=>(f st).bind op
def eB(p:D->Bool)(f:Ex):Ex:=fun st=>(f st).bind fun x=>aJ (aEc x=true) (.ok (.bl (p x)))
def onB{α:Type}(d:D)(f:Bool->R α):R α:=match d with
 | .bl b=>f b
 | _ => .bad
theorem tZ{d:D}{f:Bool->R α}{a:α}(h:onB d f = .ok a):∃ b,d = .bl b/\f b = .ok a:=by
 cases d<;>first | exact⟨_,rfl,h⟩ | exact nomatch h
def pJ(f g:Ex):Ex:=fun st=>(f st).bind fun x=>onB x fun b=>if b=true then g st else .ok (.bl false)
def eOr(f g:Ex):Ex:=fun st=>(f st).bind fun x=>onB x fun b=>if b=true then .ok (.bl true) else g st
def pK(f:Ex):Ex:=fun st=>(f st).bind fun x=>onB x fun b => .ok (.bl (!b))
abbrev Exs:=PSt->R (List D)
def aX:Exs:=fun _ => .ok []
def aC(f:Ex)(r:Exs):Exs:=fun st=>(f st).bind fun x=>(r st).bind fun xs => .ok (x::xs)
def aQ9(r:Exs):Ex:=fun st=>(r st).bind fun xs=>aJ (xs.length<=big) (.ok (.tup xs))
def qG(r:Exs):Ex:=fun st=>(r st).bind fun xs=>aJ (xs.length<=big) (.ok (.lst xs))
def aP(p:List D->R D)(r:Exs):Ex:=fun st=>(r st).bind p
def eMt(m:Mop)(f:Ex)(r:Exs):Ex:=fun st=>(f st).bind fun x=>(r st).bind fun xs=>m x xs
def inI(d:D){α:Type}(f:Int->R α):R α:=match d with
 | .int i=>f i
 | _ => .bad
theorem aEe{d:D}{f:Int->R α}{a:α}(h:inI d f = .ok a):∃ i,d = .int i/\f i = .ok a:=by
 cases d<;>first | exact⟨_,rfl,h⟩ | exact nomatch h
abbrev ExO:=PSt->R (Option Int)
def aGt:ExO:=fun _ => .ok none
def yW(f:Ex):ExO:=fun st=>(f st).bind fun x=>inI x fun i => .ok (some i)
def dSl(x:D)(lo hi:Option Int):R D:=match x with
 | .lst xs => .ok (.lst (cut xs lo hi))
 | .str xs=>aJ (xs.length<=big) (.ok (.str (cut xs lo hi)))
 | _ => .bad
def eSl(f:Ex)(lo hi:ExO):Ex:=fun st=>(f st).bind fun x=>(lo st).bind fun l=>(hi st).bind fun h=>dSl x l h
abbrev ItE:=PSt->R (List D)
def itE(f:Ex):ItE:=fun st=>(f st).bind fun x=>match x with
 | .lst xs => .ok xs
 | .tup xs => .ok xs
 | .str xs=>aJ (xs.length<=big) (.ok (xs.map fun c => .str [c]))
 | _ => .bad
def gB(lo:Int)(n:Nat):List D:=(List.range n).map fun(k:Nat) => .int (lo+(k:Int))
def uA(f:Ex):ItE:=fun st=>(f st).bind fun x=>inI x fun j=>aJ (-(big:Int)<=j/\j<=(big:Int)) (.ok (gB 0 j.toNat))
def aWc(f g:Ex):ItE:=fun st=>(f st).bind fun x=>(g st).bind fun y=>inI x fun i=>inI y fun j=>aJ (-(big:Int)<=i/\i<=(big:Int) /\ -(big:Int)<=j/\j<=(big:Int)) (.ok (gB i (j-i).toNat))
abbrev Tg:=D->PSt->R PSt
def tgN(i:Nat):Tg:=fun d st => .ok (st.set i (some (.v d)))
def rE:List Nat->List D->PSt->R PSt
 | [],[],st => .ok st
 | i::is,d::ds,st=>rE is ds (st.set i (some (.v d)))
 | _,_,_ => .bad
def tgT(is:List Nat):Tg:=fun d st=>match d with
 | .tup xs=>rE is xs st
 | .lst xs=>rE is xs st
 | _ => .bad
def oV(tg:Tg)(c f:Ex)(st:PSt):List D->R (List D)
 | [] => .ok []
 | d::ds=>(tg d st).bind fun s1=>(c s1).bind fun x=>onB x fun b=>if b=true then (f s1).bind fun y=>(oV tg c f st ds).bind fun ys => .ok (y::ys) else oV tg c f st ds
def clr(is:List Nat)(st:PSt):PSt:=is.foldl (fun s i=>s.set i none) st
def cR(is:List Nat)(tg:Tg)(it:ItE)(c f:Ex):Ex:=fun st=>(it st).bind fun xs=>aJ (xs.length<=big) ((oV tg c f (clr is st) xs).bind fun ys => .ok (.lst ys))
def fD:Ex:=fun _ => .ok (.bl true)
def aEf(r:R Fl)(f:PSt->R Fl):R Fl:=r.bind fun x=>match x with
 | .nx st=>f st
 | .rt d => .ok (.rt d)
 | .bk st => .ok (.bk st)
 | .ct st => .ok (.ct st)
def eE:Bd:=fun st => .ok (.nx st)
def bN(a b:Bd):Bd:=fun st=>aEf (a st) b
def dU(i:Nat)(f:Ex):Bd:=fun st=>(f st).bind fun d => .ok (.nx (st.set i (some (.v d))))
def pL(i:Nat)(f:Ex):Bd:=fun st=>(f st).bind fun d=>match d with
 | .lst xs => .ok (.nx (st.set i (some (.o .l xs))))
 | _ => .bad
def bAa(tg:Tg)(f:Ex):Bd:=fun st=>(f st).bind fun d=>(tg d st).bind fun s1 => .ok (.nx s1)
def aC5(i:Nat)(f:Ex):Bd:=fun st=>(f st).bind fun d=>match st[i]? with
 | some (some (.o .l xs))=>aJ (xs.length<big) (.ok (.nx (st.set i (some (.o .l (xs++[d]))))))
 | _ => .bad
def aSn(i:Nat)(g f:Ex):Bd:=fun st=>(f st).bind fun d=>(g st).bind fun x=>inI x fun j=>match st[i]? with
 | some (some (.o .l xs))=>(ofO (ixN xs.length j)).bind fun k => .ok (.nx (st.set i (some (.o .l (xs.set k d)))))
 | _ => .bad
def aSo(i:Nat)(f:Ex):Bd:=fun st=>(f st).bind fun d=>match d with
 | .lst ys=>(match st[i]? with
  | some (some (.o .l xs))=>aJ (xs.length+ys.length<=big) (.ok (.nx (st.set i (some (.o .l (xs++ys))))))
  | _ => .bad)
 | _ => .bad
def aNp(i:Nat)(t:Bool):Bd:=fun st => .ok (.nx (st.set i (some (.o (.d t []) []))))
def sDPut(i:Nat)(g f:Ex):Bd:=fun st=>(f st).bind fun d=>(g st).bind fun k=>match st[i]? with
 | some (some (.o (.d t ks) vs))=>aJ (keyOk t k=true/\vs.length<big) (.ok (.nx (st.set i (some (.o (.d t (pI ks k)) (sE ks vs k d))))))
 | _ => .bad
def aGu(i:Nat)(c f:String)(e:Ex):Bd:=fun st=>(e st).bind fun d=>match st[i]? with
 | some (some (.o (.i n c' ns) xs))=>aJ (c'=c/\f ∉ ns/\ns.length<900) (.ok (.nx (st.set i (some (.o (.i n c' (ns++[f])) (xs++[d]))))))
 | _ => .bad
def iQ(c f:String):D->R D
 | .ins c' ns xs=>aJ (c'=c) (ofO ((ns.zip xs).lookup f))
 | _ => .bad
def sH(c m:String)(p:List D->R D)(dv:List D)(f:Ex)(r:Exs):Ex:=fun st=>(f st).bind fun x=>(r st).bind fun xs=>match x with
 | .ins c' ns _=>aJ (c'=c/\m ∉ ns) (p (x::(xs++dv)))
 | _ => .bad
def aM2:Bd:=fun _ => .bad
def fz1(st:PSt)(i:Nat):PSt:=match st[i]? with
 | some (some (.o k xs))=>st.set i (some (.v (ofK k xs)))
 | _=>st
def sFz(is:List Nat)(b:Bd):Bd:=fun st=>b (is.foldl fz1 st)
def dO(f:Ex):Bd:=fun st=>(f st).bind fun d => .ok (.rt d)
def aQa(f:Ex):Bd:=fun st=>(f st).bind fun _ => .ok (.nx st)
def sIf(c:Ex)(a b:Bd):Bd:=fun st=>(c st).bind fun x=>onB x fun q=>if q=true then a st else b st
def forR(tg:Tg)(body:Bd):List D->PSt->R Fl
 | [],st => .ok (.nx st)
 | d::ds,st=>(tg d st).bind fun s1=>(body s1).bind fun x=>match x with
  | .nx s2=>forR tg body ds s2
  | .ct s2=>forR tg body ds s2
  | .bk s2 => .ok (.nx s2)
  | .rt v => .ok (.rt v)
def wH(tg:Tg)(it:ItE)(body:Bd):Bd:=fun st=>(it st).bind fun xs=>forR tg body xs st
def jQ(c:Ex)(body:Bd):Nat->PSt->R Fl
 | 0,_ => .bad
 | n+1,st=>(c st).bind fun x=>onB x fun q=>if q=true then (body st).bind fun x=>(match x with
  | .nx s2=>jQ c body n s2
  | .ct s2=>jQ c body n s2
  | .bk s2 => .ok (.nx s2)
  | .rt v => .ok (.rt v)) else .ok (.nx st)
def aEg(n:Nat)(c:Ex)(body:Bd):Bd:=fun st=>jQ c body n st
def cT(np n:Nat)(b:Bd)(ds:List D):R D :=
 aJ (ds.length=np) ((b (ds.map (fun d=>some (.v d))++List.replicate (n-np) none)).bind fun x=>match x with
  | .nx _ => .ok .non
  | .rt d => .ok d
  | _ => .bad)
def aGv(c:String)(np n:Nat)(b:Bd)(x:Nat)(ds:List D):R D :=
 aJ (ds.length=np) ((b (some (.o (.i x c []) [])::(ds.map (fun d=>some (.v d))++List.replicate (n-np-1) none))).bind fun(fl:Fl)=>match fl with
  | .nx st=>(match (st[0]?:Option (Option Sl)) with
   | some (some (.o (.i y c' ns) xs))=>aJ (y=x) (.ok (.ins c' ns xs))
   | _ => .bad)
  | _ => .bad)
open Classical in
def aI7(c:String)(np n:Nat)(b:Bd)(ds:List D):R D:=if h:∃ d,∀ x,aGv c np n b x ds = .ok d then .ok (choose h) else .bad
theorem aWd{c:String}  {b:Bd} {ds:List D} {d:D} (h:∀ x,aGv c np n b x ds = .ok d):aI7 c np n b ds = .ok d:=by
 unfold aI7
 rw[dif_pos ⟨d,h⟩]
 have:=Classical.choose_spec (p:=fun d=>∀ x,aGv c np n b x ds = .ok d) ⟨d,h⟩ 0
 rw[h 0]at this
 exact this.symm
theorem aNq{c:String}  {b:Bd} {ds:List D} {d:D} (h:aI7 c np n b ds = .ok d) (x:Nat):aGv c np n b x ds = .ok d:=by
 unfold aI7 at h
 split at h
 ·rename_i e
  have:=Classical.choose_spec e x
  rw[this]
  exact h
 ·cases h
end
end Pu
variable{d:Pu.D}{ds xs ys dv:List Pu.D}{st':Pu.PSt}{L bd bd':Pu.Bd}{f g u:Pu.Ex}{p:List Pu.D->Pu.R Pu.D}{it:Pu.ItE}
namespace Pu
@[simp] theorem bg1:1<=big:=eU (by decide)
@[simp] theorem bg3:3<=big:=eU (by decide)
@[simp] theorem aM(a:α)(f:α->R β):(R.ok a).bind f=f a:=rfl
@[simp] theorem bC4(f:α->R β):(R.bad:R α).bind f = .bad:=rfl
@[simp] theorem rF(b:Bool)(f:Bool->R α):onB (.bl b) f=f b:=rfl
@[simp] theorem bF4(i:Int)(f:Int->R α):inI (.int i) f=f i:=rfl
@[simp] theorem bF5(st:PSt)(f:PSt->R Fl):aEf (.ok (.nx st)) f=f st:=rfl
@[simp] theorem bF6(d:D)(f:PSt->R Fl):aEf (.ok (.rt d)) f = .ok (.rt d):=rfl
@[simp] theorem aNr(i:Nat)(st:PSt):aB i st=(match st[i]? with | some (some (.v d))=>R.ok d | _ => .bad):=rfl
@[simp] theorem bDg(i:Nat)(st:PSt):dR i st=(match st[i]? with | some (some (.v d))=>R.ok d | some (some (.o k xs)) => .ok (ofK k xs) | _ => .bad):=rfl
@[simp] theorem aSp(d:D)(st:PSt):eC d st = .ok d:=rfl
@[simp] theorem aCv(op:Op2)(f g:Ex)(st:PSt):e2 op f g st=(f st).bind fun x=>(g st).bind fun y=>op x y:=rfl
@[simp] theorem aSq(op:D->R D)(f:Ex)(st:PSt):e1 op f st=(f st).bind op:=rfl
@[simp] theorem bH8(p:D->Bool)(f:Ex)(st:PSt):eB p f st=(f st).bind fun x=>aJ (aEc x=true) (.ok (.bl (p x))):=rfl
@[simp] theorem aNs(f g:Ex)(st:PSt):pJ f g st=(f st).bind fun x=>onB x fun b=>if b=true then g st else .ok (.bl false):=rfl
@[simp] theorem bAb(f g:Ex)(st:PSt):eOr f g st=(f st).bind fun x=>onB x fun b=>if b=true then .ok (.bl true) else g st:=rfl
@[simp] theorem aNt(f:Ex)(st:PSt):pK f st=(f st).bind fun x=>onB x fun b => .ok (.bl (!b)):=rfl
@[simp] theorem bF7(st:PSt):aX st = .ok []:=rfl
@[simp] theorem aSr(f:Ex)(r:Exs)(st:PSt):aC f r st=(f st).bind fun x=>(r st).bind fun xs => .ok (x::xs):=rfl
@[simp] theorem bF8(r:Exs)(st:PSt):aQ9 r st=(r st).bind fun xs=>aJ (xs.length<=big) (.ok (.tup xs)):=rfl
@[simp] theorem aWe(r:Exs)(st:PSt):qG r st=(r st).bind fun xs=>aJ (xs.length<=big) (.ok (.lst xs)):=rfl
@[simp] theorem aSs(p:List D->R D)(r:Exs)(st:PSt):aP p r st=(r st).bind p:=rfl
@[simp] theorem bGn(m:Mop)(f:Ex)(r:Exs)(st:PSt):eMt m f r st=(f st).bind fun x=>(r st).bind fun xs=>m x xs:=rfl
@[simp] theorem bDh(st:PSt):aGt st = .ok none:=rfl
@[simp] theorem bDi(f:Ex)(st:PSt):yW f st=(f st).bind fun x=>inI x fun i => .ok (some i):=rfl
@[simp] theorem bAc(f:Ex)(lo hi:ExO)(st:PSt):eSl f lo hi st=(f st).bind fun x=>(lo st).bind fun l=>(hi st).bind fun h=>dSl x l h:=rfl
@[simp] theorem aWf(f:Ex)(st:PSt):uA f st=(f st).bind fun x=>inI x fun j=>aJ (-(big:Int)<=j/\j<=(big:Int)) (.ok (gB 0 j.toNat)):=rfl
@[simp] theorem bF9(f g:Ex)(st:PSt):aWc f g st=(f st).bind fun x=>(g st).bind fun y=>inI x fun i=>inI y fun j=>aJ (-(big:Int)<=i/\i<=(big:Int) /\ -(big:Int)<=j/\j<=(big:Int)) (.ok (gB i (j-i).toNat)):=rfl
@[simp] theorem bDj(tg:Tg)(b:Bd)(st:PSt):forR tg b [] st = .ok (.nx st):=rfl
theorem mX(tg:Tg)(b:Bd)(d:D)(ds:List D)(st:PSt):forR tg b (d::ds) st=(tg d st).bind fun s1=>(b s1).bind fun x=>match x with
  | .nx s2=>forR tg b ds s2
  | .ct s2=>forR tg b ds s2
  | .bk s2 => .ok (.nx s2)
  | .rt v => .ok (.rt v):=rfl
theorem qI(c:Ex)(b:Bd)(n:Nat)(st:PSt):jQ c b (n+1) st=(c st).bind fun x=>onB x fun q=>if q=true then (b st).bind fun x=>(match x with
  | .nx s2=>jQ c b n s2
  | .ct s2=>jQ c b n s2
  | .bk s2 => .ok (.nx s2)
  | .rt v => .ok (.rt v)) else .ok (.nx st):=rfl
@[simp] theorem bAd(f:Ex)(st:PSt):itE f st=(f st).bind fun x=>match x with | .lst xs => .ok xs | .tup xs => .ok xs | .str xs=>aJ (xs.length<=big) (.ok (xs.map fun c => .str [c])) | _ => .bad:=rfl
@[simp] theorem aGw(n:Nat)(c:Ex)(b:Bd)(st:PSt):aEg n c b st=jQ c b n st:=rfl
@[simp] theorem aWg(i:Nat)(f:Ex)(st:PSt):aC5 i f st=(f st).bind fun d=>match st[i]? with | some (some (.o .l xs))=>aJ (xs.length<big) (.ok (.nx (st.set i (some (.o .l (xs++[d])))))) | _ => .bad:=rfl
@[simp] theorem aSt(i:Nat)(f:Ex)(st:PSt):pL i f st=(f st).bind fun d=>match d with | .lst xs => .ok (.nx (st.set i (some (.o .l xs)))) | _ => .bad:=rfl
@[simp] theorem aWh(i:Nat)(g f:Ex)(st:PSt):aSn i g f st=(f st).bind fun d=>(g st).bind fun x=>inI x fun j=>match st[i]? with | some (some (.o .l xs))=>(ofO (ixN xs.length j)).bind fun k => .ok (.nx (st.set i (some (.o .l (xs.set k d))))) | _ => .bad:=rfl
@[simp] theorem aWi(i:Nat)(f:Ex)(st:PSt):aSo i f st=(f st).bind fun d=>match d with | .lst ys=>(match st[i]? with | some (some (.o .l xs))=>aJ (xs.length+ys.length<=big) (.ok (.nx (st.set i (some (.o .l (xs++ys)))))) | _ => .bad) | _ => .bad:=rfl
@[simp] theorem aSu(i:Nat)(c f:String)(e:Ex)(st:PSt):aGu i c f e st=(e st).bind fun d=>match st[i]? with | some (some (.o (.i n c' ns) xs))=>aJ (c'=c/\f ∉ ns/\ns.length<900) (.ok (.nx (st.set i (some (.o (.i n c' (ns++[f])) (xs++[d])))))) | _ => .bad:=rfl
@[simp] theorem wI(c f c':String)(ns:List String)(xs:List D):iQ c f (.ins c' ns xs)=aJ (c'=c) (ofO ((ns.zip xs).lookup f)):=rfl
@[simp] theorem aEh(c m:String)(p:List D->R D)(dv:List D)(f:Ex)(r:Exs)(st:PSt):sH c m p dv f r st=(f st).bind fun x=>(r st).bind fun xs=>match x with | .ins c' ns _=>aJ (c'=c/\m ∉ ns) (p (x::(xs++dv))) | _ => .bad:=rfl
@[simp] theorem bDk(i:Nat)(t:Bool)(st:PSt):aNp i t st = .ok (.nx (st.set i (some (.o (.d t []) [])))):=rfl
@[simp] theorem bDl(i:Nat)(g f:Ex)(st:PSt):sDPut i g f st=(f st).bind fun d=>(g st).bind fun k=>match st[i]? with | some (some (.o (.d t ks) vs))=>aJ (keyOk t k=true/\vs.length<big) (.ok (.nx (st.set i (some (.o (.d t (pI ks k)) (sE ks vs k d)))))) | _ => .bad:=rfl
@[simp] theorem bDm(ks vs:List D):fC (.dct false ks vs) = .ok (.int ks.length):=rfl
@[simp] theorem bGo(is:List Nat)(b:Bd)(st:PSt):sFz is b st=b (is.foldl fz1 st):=rfl
@[simp] theorem bGp(st:PSt)(i:Nat):fz1 st i=(match st[i]? with | some (some (.o k xs))=>st.set i (some (.v (ofK k xs))) | _=>st):=rfl
@[simp] theorem bFa(f:Ex)(st:PSt):aQa f st=(f st).bind fun _ => .ok (.nx st):=rfl
@[simp] theorem bFb(st:PSt)(f:PSt->R Fl):aEf (.ok (.bk st)) f = .ok (.bk st):=rfl
@[simp] theorem bFc(st:PSt)(f:PSt->R Fl):aEf (.ok (.ct st)) f = .ok (.ct st):=rfl
@[simp] theorem bDn(f:PSt->R Fl):aEf .bad f = .bad:=rfl
@[simp] theorem bDo(i:Int):aDi (.int i) = .ok (.int (-i)):=rfl
@[simp] theorem bFd(x y:List Nat):aGs (.str x) [.str y] = .ok (.int (rC (jR x y 0))):=rfl
@[simp] theorem bFe(x y:List Nat)(i:Int):aGs (.str x) [.str y,.int i]=aJ (0<=i) (.ok (.int (rC (jR x y i.toNat)))):=rfl
@[simp] theorem bDp(x y:List Nat):aEd (.str x) [.str y]=aJ (x.length<=big) (.ok (.str (rD x y))):=rfl
@[simp] theorem aYr(i:Nat):rC (some i)=i:=rfl
@[simp] theorem aYs:rC none = -1:=rfl
@[simp] theorem bFf(x y:List Nat):dIn (.str x) (.str y) = .ok (.bl (jR y x 0).isSome):=rfl
@[simp] theorem bAe(x y:List Nat):mW (.str x) (.str y) = .ok (.bl (!(jR y x 0).isSome)):=rfl
@[simp] theorem bDq(x:List D):fC (.tup x) = .ok (.int x.length):=rfl
@[simp] theorem bFg(i j:Int):dGe (.int i) (.int j) = .ok (.bl (decide (j<=i))):=rfl
@[simp] theorem bDr(x y:List D):mV (.lst x) (.lst y)=aJ (x.length+y.length<=big) (.ok (.lst (x++y))):=rfl
@[simp] theorem bFh(x:List D)(l h:Option Int):dSl (.lst x) l h = .ok (.lst (cut x l h)):=rfl
@[simp] theorem bDs:aEc .non=true:=rfl
@[simp] theorem bFi(b:Bool):aEc (.bl b)=true:=rfl
@[simp] theorem bDt(b:Int):aEc (.int b)=true:=rfl
@[simp] theorem bDu(b:List Nat):aEc (.str b)=true:=rfl
@[simp] theorem bDv(b:List D):aEc (.tup b)=true:=rfl
@[simp] theorem bDw(b:List D):aEc (.lst b)=true:=rfl
@[simp] theorem bDx(t:Bool)(a b:List D):aEc (.dct t a b)=true:=rfl
@[simp] theorem bAf(i:Nat)(d:D)(st:PSt):tgN i d st = .ok (st.set i (some (.v d))):=rfl
@[simp] theorem bGq(is:List Nat)(xs:List D)(st:PSt):tgT is (.tup xs) st=rE is xs st:=rfl
@[simp] theorem bFj(is:List Nat)(xs:List D)(st:PSt):tgT is (.lst xs) st=rE is xs st:=rfl
@[simp] theorem bAg(st:PSt):rE [] [] st = .ok st:=rfl
@[simp] theorem aYt(i:Nat)(is:List Nat)(d:D)(ds:List D)(st:PSt):rE (i::is) (d::ds) st=rE is ds (st.set i (some (.v d))):=rfl
@[simp] theorem bFk(st:PSt):clr [] st=st:=rfl
@[simp] theorem bDy(i:Nat)(is:List Nat)(st:PSt):clr (i::is) st=clr is (st.set i none):=rfl
@[simp] theorem bC5(tg:Tg)(c f:Ex)(st:PSt):oV tg c f st [] = .ok []:=rfl
theorem uB(tg:Tg)(c f:Ex)(st:PSt)(d:D)(ds:List D):oV tg c f st (d::ds)=(tg d st).bind fun s1=>(c s1).bind fun x=>onB x fun b=>if b=true then (f s1).bind fun y=>(oV tg c f st ds).bind fun ys => .ok (y::ys) else oV tg c f st ds:=rfl
@[simp] theorem bDz(st:PSt):fD st = .ok (.bl true):=rfl
@[simp] theorem wJ(is:List Nat)(tg:Tg)(it:ItE)(c f:Ex)(st:PSt):cR is tg it c f st=(it st).bind fun xs=>aJ (xs.length<=big) ((oV tg c f (clr is st) xs).bind fun ys => .ok (.lst ys)):=rfl
@[simp] theorem bE0(st:PSt):eE st = .ok (.nx st):=rfl
@[simp] theorem aNu(a b:Bd)(st:PSt):bN a b st=aEf (a st) b:=rfl
@[simp] theorem aNv(i:Nat)(f:Ex)(st:PSt):dU i f st=(f st).bind fun d => .ok (.nx (st.set i (some (.v d)))):=rfl
@[simp] theorem bFl(tg:Tg)(f:Ex)(st:PSt):bAa tg f st=(f st).bind fun d=>(tg d st).bind fun s1 => .ok (.nx s1):=rfl
@[simp] theorem oZ(f:Ex)(st:PSt):dO f st=(f st).bind fun d => .ok (.rt d):=rfl
@[simp] theorem aM3(c:Ex)(a b:Bd)(st:PSt):sIf c a b st=(c st).bind fun x=>onB x fun q=>if q=true then a st else b st:=rfl
@[simp] theorem aNw(tg:Tg)(it:ItE)(body:Bd)(st:PSt):wH tg it body st=(it st).bind fun xs=>forR tg body xs st:=rfl
@[simp] theorem bE1(i j:Int):mV (.int i) (.int j) = .ok (.int (i+j)):=rfl
@[simp] theorem bE2(x y:List Nat):mV (.str x) (.str y)=aJ (x.length+y.length<=big) (.ok (.str (x++y))):=rfl
@[simp] theorem bE3(i j:Int):aI6 (.int i) (.int j) = .ok (.int (i-j)):=rfl
@[simp] theorem bC6(i j:Int):aCu (.int i) (.int j)=aJ (0<j/\j<1073741824) (.ok (.int (i/j))):=rfl
@[simp] theorem bE4(i j:Int):rA (.int i) (.int j)=aJ (0<j) (.ok (.int (i%j))):=rfl
@[simp] theorem bE5(i j:Int):aSl (.int i) (.int j)=aJ (0<=j/\j<=1000000/\i.natAbs<18446744073709551616) (.ok (.int (i^j.toNat))):=rfl
@[simp] theorem bFm(i j:Int):dLe (.int i) (.int j) = .ok (.bl (decide (i<=j))):=rfl
@[simp] theorem bFn(i j:Int):dGt (.int i) (.int j) = .ok (.bl (decide (j<i))):=rfl
@[simp] theorem bGr(x y:D):dEq x y=aJ (dep x<=64/\plain x=true/\plain y=true) (.ok (.bl (eqD x y))):=rfl
@[simp] theorem bGs(x y:D):dNe x y=aJ (dep x<=64/\plain x=true/\plain y=true) (.ok (.bl (!eqD x y))):=rfl
@[simp] theorem bFo(i:Int):dep (.int i)=0:=by unfold dep;rfl
@[simp] theorem bFp(s:List Nat):dep (.str s)=0:=by unfold dep;rfl
@[simp] theorem bFq(x:List D):dep (.lst x)=fP x+1:=by conv=>lhs;unfold dep
@[simp] theorem bC7(i:Int):plain (.int i)=true:=by unfold plain;rfl
@[simp] theorem bC8(s:List Nat):plain (.str s)=true:=by unfold plain;rfl
@[simp] theorem bC9(x:List D):plain (.tup x)=eV x:=by conv=>lhs;unfold plain
@[simp] theorem bCa(x:List D):plain (.lst x)=eV x:=by conv=>lhs;unfold plain
@[simp] theorem bCb(t:Bool)(k v:List D):plain (.dct t k v)=false:=by unfold plain;rfl
@[simp] theorem bCc(c:String)(n:List String)(v:List D):plain (.ins c n v)=false:=by unfold plain;rfl
@[simp] theorem bCd(c:String)(n:List String)(v:List D):plain (.exn c n v)=false:=by unfold plain;rfl
@[simp] theorem bE6(f:String):plain (.fn f)=false:=by unfold plain;rfl
@[simp] theorem bAh:eV []=true:=by unfold eV;rfl
@[simp] theorem oA(a:D)(x:List D):eV (a::x)=(plain a&&eV x):=by conv=>lhs;unfold eV
@[simp] theorem bE7:fP []=0:=by unfold fP;rfl
@[simp] theorem aQb(a:D)(x:List D):fP (a::x)=max (dep a) (fP x):=by conv=>lhs;unfold fP
@[simp] theorem bFr(i j:Int):eqD (.int i) (.int j)=(i==j):=by unfold eqD;rfl
@[simp] theorem bFs(i j:List Nat):eqD (.str i) (.str j)=(i==j):=by unfold eqD;rfl
@[simp] theorem aYu(x:List D)(y:List D):eqD (.lst x) (.lst y)=gA x y:=by conv=>lhs;unfold eqD
@[simp] theorem aWj:gA [] []=true:=by unfold gA;rfl
@[simp] theorem aVn(b:D)(y:List D):gA [] (b::y)=false:=by unfold gA;rfl
@[simp] theorem aVo(b:D)(y:List D):gA (b::y) []=false:=by unfold gA;rfl
@[simp] theorem bE8(x:List Nat):fC (.str x)=aJ (x.length<=big) (.ok (.int x.length)):=rfl
@[simp] theorem bE9(x:List D):fC (.lst x) = .ok (.int x.length):=rfl
@[simp] theorem bFt(x:List Nat)(i:Int):dIx (.str x) (.int i)=aJ (x.length<=big) (ofO ((atI x i).map fun c => .str [c])):=rfl
@[simp] theorem bFu(x:List D)(i:Int):dIx (.tup x) (.int i)=ofO (atI x i):=rfl
@[simp] theorem bFv(x:List D)(i:Int):dIx (.lst x) (.int i)=ofO (atI x i):=rfl
@[simp] theorem bFw(x:List Nat)(l h:Option Int):dSl (.str x) l h=aJ (x.length<=big) (.ok (.str (cut x l h))):=rfl
@[simp] theorem bH9(xs:List D):ofK .l xs = .lst xs:=rfl
@[simp] theorem bHa(t:Bool)(ks xs:List D):ofK (.d t ks) xs = .dct t ks xs:=rfl
@[simp] theorem bHb(n:Nat)(c:String)(ns:List String)(xs:List D):ofK (.i n c ns) xs = .ins c ns xs:=rfl
@[simp] theorem bEa(a:α):ofO (some a) = .ok a:=rfl
@[simp] theorem gR{c:Prop}{r:R α}(h:c):aJ c r=r:=aF h
@[simp] theorem aNx{b:Bd}  (h:ds.length=np):cT np n b ds=(b (ds.map (fun d=>some (.v d))++List.replicate (n-np) none)).bind fun x=>match x with
  | .nx _ => .ok .non
  | .rt d => .ok d
  | _ => .bad:=aF h
theorem aSv{xs:List α}{i:Int}(h0:0<=i)(h:i<xs.length):atI xs i=some (xs[i.toNat]'(by omega)):=by
 unfold atI ixN
 rw[if_pos h0,if_pos h]
 exact List.getElem?_eq_getElem (by omega)
theorem atI_nat{xs:List α}{i:Nat}(h:i<xs.length):atI xs (i:Int)=some xs[i]:=by
 rw[aSv (by omega) (by omega)]
 simp
theorem yX(lo:Int)(n:Nat):(gB lo n).length=n:=by simp[gB]
end Pu
namespace Pu
def aEi:D->R D
 | .lst x => .ok (.lst x)
 | .tup x => .ok (.lst x)
 | _ => .bad
def bls:List D->R (List Bool)
 | [] => .ok []
 | .bl b::r=>(bls r).bind fun x => .ok (b::x)
 | _::_ => .bad
def sI:List D->R (List Int)
 | [] => .ok []
 | .int i::r=>(sI r).bind fun x => .ok (i::x)
 | _::_ => .bad
def aDj:D->R D
 | .lst x=>(bls x).bind fun l => .ok (.bl (l.all id))
 | _ => .bad
def aDk:List Int->Int
 | []=>0
 | i::r=>r.foldl (fun a b=>if b>a then b else a) i
noncomputable def aAr:D->R D
 | .lst x=>(sI x).bind fun l=>aJ (0<l.length) (.ok (.int (aDk l)))
 | _ => .bad
theorem aSw:∀ {x:List D} {l:List Bool},bls x = .ok l->x=l.map D.bl
 | [],l,h=>by cases h;rfl
 | d::x,l,h=>by
  cases d<;>first | (cases h;done) | skip
  obtain⟨l',h1,h2⟩:=R.ok_of h
  cases h2
  rw[aSw h1];rfl
theorem wK:∀ {x:List D} {l:List Int},sI x = .ok l->x=l.map D.int
 | [],l,h=>by cases h;rfl
 | d::x,l,h=>by
  cases d<;>first | (cases h;done) | skip
  obtain⟨l',h1,h2⟩:=R.ok_of h
  cases h2
  rw[wK h1];rfl
theorem aNy:∀ (l:List Bool),bls (l.map D.bl) = .ok l
 | []=>rfl
 | b::l=>by show (bls (l.map D.bl)).bind _=_;rw[aNy l];rfl
theorem mY:∀ (l:List Int),sI (l.map D.int) = .ok l
 | []=>rfl
 | b::l=>by show (sI (l.map D.int)).bind _=_;rw[mY l];rfl
theorem yF:∀ (r:List Int) (a:Int),a<=r.foldl (fun a b=>if b>a then b else a) a/\(∀ x∈r,x<=r.foldl (fun a b=>if b>a then b else a) a)/\(r.foldl (fun a b=>if b>a then b else a) a=a\/r.foldl (fun a b=>if b>a then b else a) a∈r)
 | [],a=>⟨Int.le_refl _,fun _ h=>(by cases h),.inl rfl⟩
 | b::r,a=>by
  obtain⟨h1,h2,h3⟩:=yF r (if b>a then b else a)
  rw[foldl_cons]
  have ha:a<=(if b>a then b else a):=by split<;>omega
  have hb:b<=(if b>a then b else a):=by split<;>omega
  refine⟨Int.le_trans ha h1,fun x hx=>?_,?_⟩
  ·rcases List.mem_cons.mp hx with rfl | hx
   ·exact Int.le_trans hb h1
   ·exact h2 x hx
  ·rcases h3 with h3 | h3
   ·rw[h3]
    split
    ·exact .inr mem_cons_self
    ·exact .inl rfl
   ·exact .inr (mem_cons_of_mem _ h3)
theorem aI8{l:List Int}{m:Int}(hm:m∈l)(hx:∀ x∈l,x<=m):aDk l=m:=by
 cases l with
 | nil=>cases hm
 | cons i r =>
  obtain⟨h1,h2,h3⟩:=yF r i
  have ha:aDk (i::r)<=m:=by
   rcases h3 with h3 | h3
   ·exact hx _ (by show r.foldl _ i∈_;rw[h3];exact mem_cons_self)
   ·exact hx _ (mem_cons_of_mem _ h3)
  have hb:m<=aDk (i::r):=by
   rcases List.mem_cons.mp hm with e | e
   ·rw[e];exact h1
   ·exact h2 _ e
  omega
def R.nox{α:Type}(r:R α):R α:=match r with
 | .exc _ => .bad
 | r=>r
theorem R.nox_ok{r:R α}{a:α}(h:r.nox = .ok a):r = .ok a:=by
 cases r with
 | ok b=>exact h
 | exc x=>cases h
 | bad=>cases h
@[simp] theorem bFx(a:α):(R.ok a).nox = .ok a:=rfl
def sNX(b:Bd):Bd:=fun st=>(b st).nox
def eNX(f:Ex):Ex:=fun st=>(f st).nox
def pNX(p:List D->R D):List D->R D:=fun ds=>(p ds).nox
noncomputable def rG(c:String)(r:Exs):Bd:=fun st=>(r st).nox.bind fun xs=>aJ (xs.length<=100) (.exc (.exn c [] []))
def aSx:List (List String × List String × (String->Bd))->String->PSt->R Fl
 | [],_,_ => .bad
 | (yes,no,b)::hs,c,st=>if c∈yes then (b c st).nox else if c∈no then aSx hs c st else .bad
def bGt(b:Bd)(hs:List (List String × List String × (String->Bd))):Bd:=fun st=>match b st with
 | .exc (.exn c [] [])=>aSx hs c st
 | .exc _ => .bad
 | r=>r
noncomputable def wL(c m:String)(p:List D->R D)(dv:List D)(f:Ex)(r:Exs):Ex:=fun st=>(f st).nox.bind fun x=>(r st).nox.bind fun xs=>match x with
 | .ins c' ns _=>aJ (c'=c/\m ∉ ns) (p (x::(xs++dv)))
 | _ => .bad
def e2X(op:Op2)(f g:Ex):Ex:=fun st=>(f st).bind fun x=>(g st).nox.bind fun y=>(op x y).nox
inductive NFl where
 | nx (xss:List (List D)) (st:PSt) | rt (d:D)
abbrev NB:=List (List D)->PSt->R NFl
def bGu(j:Nat)(f:Ex):NB:=fun xss st=>(f st).bind fun d => .ok (.nx xss (st.set j (some (.v d))))
def bGv(f:Ex):NB:=fun _ st=>(f st).bind fun d => .ok (.rt d)
def nIf(c:Ex)(a b:NB):NB:=fun xss st=>(c st).bind fun x=>onB x fun q=>if q=true then a xss st else b xss st
noncomputable def bGw(g f:Ex):NB:=fun xss st=>(g st).bind fun x=>inI x fun j=>(f st).bind fun d=>(ofO (ixN xss.length j)).bind fun k=>match xss[k]? with
 | some ys=>aJ (ys.length<big) (.ok (.nx (xss.set k (ys++[d])) st))
 | none => .bad
def aSy(i:Nat):Bd:=fun st=>match st[i]? with
 | some (some (.o .l xs)) => .ok (.rt (.lst xs))
 | _ => .bad
def aAs(bd:Bd)(i:Nat):Bd:=fun st=>match bd st with
 | .ok (.nx s)=>aSy i s
 | _ => .bad
def wM(l:List Int):List Int:=l.foldl (fun acc x=>if acc.any (· == x) then acc else acc++[x]) []
def atom:D->Bool
 | .non=>true
 | .bl _=>true
 | .int _=>true
 | .str _=>true
 | _=>false
def bEb:D->Bool
 | .lst xs=>xs.all atom
 | _=>false
noncomputable section
def bAi:D->R D
 | .lst xs=>aJ (xs.length<=big/\xs.all bEb=true) (.ok (.lst xs))
 | _ => .bad
def unL:D->List D
 | .lst xs=>xs
 | _=>[]
open Classical in
def bHc(c:String)(np n:Nat)(b:Bd)(ds:List D):R D:=if h:∃ r,∀ x,aGv c np n b x ds=r then choose h else .bad
end
noncomputable section
end
noncomputable section
end
def aAt:List Nat->List D->List D
 | c::z,d::ds => .tup [.str [c],d] :: aAt z ds
 | _,_=>[]
def aYv(f g:Ex):ItE:=fun st=>(f st).bind fun x=>(g st).bind fun y=>match x,y with
 | .str z,.lst ds => .ok (aAt z ds)
 | _,_ => .bad
noncomputable section
def aI9:D->R D
 | .int n=>aJ (-(big:Int)<=n/\n<=(big:Int)) (.ok (.lst (gB 0 n.toNat)))
 | _ => .bad
def aM4(i:Nat)(g f:Ex):Bd:=fun st=>(g st).bind fun k=>(f st).bind fun d=>aJ (aSm k=true/\atom d=true) (.ok (.nx (st.set i (some (.o (.d false [k]) [d])))))
end
noncomputable section
def vY:Op2
 | .int i,.int j=>aJ (0<=j/\j<=1000000/\i.natAbs<18446744073709551616) (.ok (.int (i*2^j.toNat)))
 | _,_ => .bad
def aC6:Op2
 | .int i,.int j=>aJ (0<=j) (.ok (.int (i/2^j.toNat)))
 | _,_ => .bad
def zT:Op2
 | .int i,.int j=>aJ (0<=i/\0<=j) (.ok (.int ((i.toNat&&&j.toNat:Nat):Int)))
 | _,_ => .bad
def dOr:Op2
 | .int i,.int j=>aJ (0<=i/\0<=j) (.ok (.int ((i.toNat|||j.toNat:Nat):Int)))
 | _,_ => .bad
def aNz:Mop
 | .lst xs,[.int k]=>(sI xs).bind fun l=>(ofO (l.findIdx? fun i=>i==k)).bind fun n=>aJ (xs.length<=big) (.ok (.int (n:Int)))
 | _,_ => .bad
end
def oW(i:Int):Nat:=if i=0 then 0 else i.natAbs.log2+1
def aDs:D->R D
 | .int i => .ok (.int (oW i:Nat))
 | _ => .bad
def wN(bd:Bd)(f:Ex):Bd:=fun st=>match bd st with
 | .ok (.nx s)=>(f s).bind fun d=>match d with
  | .lst xs => .ok (.rt (.lst xs))
  | _ => .bad
 | _ => .bad
def bAj:D->R D
 | .lst xs=>(sI xs).bind fun l => .ok (.int l.sum)
 | _ => .bad
def aM5:Op2
 | .int i,.int j => .ok (.bl (decide (i<j)))
 | _,_ => .bad
noncomputable def oE:Op2
 | .int i,.int j=>aJ ((-18446744073709551616<i/\i<18446744073709551616)\/(-18446744073709551616<j/\j<18446744073709551616)) (.ok (.int (i*j)))
 | _,_ => .bad
@[simp] theorem bEc(i j:Int):aM5 (.int i) (.int j) = .ok (.bl (decide (i<j))):=rfl
@[simp] theorem bCe(i j:Int):oE (.int i) (.int j)=aJ ((-18446744073709551616<i/\i<18446744073709551616)\/(-18446744073709551616<j/\j<18446744073709551616)) (.ok (.int (i*j))):=rfl
end Pu
variable{nb:Pu.NB}
namespace Pu
noncomputable section
def aDl(l:List Int):List Int:=l.mergeSort fun a b=>decide (a<=b)
theorem wO(l:List Int):(aDl l).Perm l:=List.mergeSort_perm _ _
theorem aSz(l:List Int):(aDl l).Pairwise (· <= ·):=by
 have h:=List.pairwise_mergeSort (le:=fun a b:Int=>decide (a<=b)) (fun a b c h1 h2=>by
  have:=of_decide_eq_true h1
  have:=of_decide_eq_true h2
  exact decide_eq_true (by omega)) (fun a b=>by
  rcases Int.le_total a b with h | h
  ·simp[h]
  ·simp[h]) l
 exact h.imp fun h=>of_decide_eq_true h
def aIa:D->R D
 | .lst x=>(sI x).bind fun l=>aJ (l.length<=4000/\(wM l).length<64) (.ok (.lst ((aDl (wM l)).map D.int)))
 | _ => .bad
end
end Pu
namespace Pu
noncomputable section
def aEj:D->D->D->R D
 | .dct t ks vs,k,x=>aJ (keyOk t k=true) (if oM ks k=true then ofO (rB ks vs k) else .ok x)
 | _,_,_ => .bad
def aT0(f g h:Ex):Ex:=fun st=>(f st).bind fun d=>(g st).bind fun k=>(h st).bind fun x=>aEj d k x
end
end Pu
namespace Pu
noncomputable def aT1:Op2
 | .int i,.int j=>aJ (0<=i/\0<=j) (.ok (.int (((i.toNat|||j.toNat:Nat):Int)-((i.toNat&&&j.toNat:Nat):Int))))
 | _,_ => .bad
end Pu
namespace Pu
noncomputable section
def aCw:Bd:=bN (sIf (e2 aM5 (aB 1) (e1 fC (aB 0))) (dO (e2 dIx (aB 0) (aB 1))) (eE)) (bN (sIf (e2 dEq (aB 0) (qG (aX))) (dO (e2 oE (eC (.int 7919)) (aB 1))) (eE)) (dO (e2 mV (e2 aCu (e2 dIx (aB 0) (e2 rA (aB 1) (e1 fC (aB 0)))) (e2 mV (aB 1) (eC (.int 1)))) (e2 oE (eC (.int 7919)) (aB 1)))))
def fQ:List D->R D:=cT 2 2 aCw
def zU:Bd:=bN (dU 3 (e2 rA (e2 oE (e2 mV (e2 rA (aB 0) (eC (.int 2147483647))) (e2 oE (eC (.int 7919)) (aB 1))) (eC (.int 48271))) (eC (.int 2147483629)))) (bN (dU 3 (e2 rA (e2 oE (e2 rA (e2 oE (aB 3) (aB 3)) (eC (.int 2147483647))) (eC (.int 69621))) (eC (.int 2147483587)))) (dO (e2 rA (e2 rA (e2 oE (aB 3) (aB 3)) (eC (.int 2147483629))) (aB 2))))
def cA:List D->R D:=cT 3 4 zU
def sJ(st:PSt):R D:=(aP cA (aC (aB 10) (aC (e2 mV (eC (.int 11)) (aB 13)) (aC (aB 4) (aX))))) st
def jE(st:PSt):R D:=(e2 rA (e2 aCu (aB 10) (e2 dIx (qG (aC (eC (.int 1)) (aC (eC (.int 8)) (aC (eC (.int 64)) (aX))))) (aB 13))) (aB 4)) st
def jF(st:PSt):R Fl:=(bN (dU 10 (aP fQ (aC (aB 0) (aC (e2 mV (e2 mV (aB 1) (eC (.int 2))) (aB 9)) (aX))))) (bN (pL 11 (cR [13] (tgN 13) (uA (aB 5)) fD (sJ))) (bN (dU 12 (aP cA (aC (aB 10) (aC (eC (.int 10)) (aC (eC (.int 7)) (aX)))))) (bN (sIf (e2 dEq (aP cA (aC (aB 3) (aC (eC (.int 6)) (aC (eC (.int 2)) (aX))))) (eC (.int 0))) (bN (pL 11 (cR [13] (tgN 13) (uA (aB 5)) fD (jE))) (dU 12 (e2 rA (e2 aCu (aB 10) (eC (.int 512))) (eC (.int 7))))) (sIf (pJ (e2 dEq (aP cA (aC (aB 3) (aC (eC (.int 3)) (aC (eC (.int 2)) (aX))))) (eC (.int 0))) (e2 dGt (aP cA (aC (aB 10) (aC (eC (.int 8)) (aC (eC (.int 4)) (aX))))) (eC (.int 0)))) (aSn 11 (aP cA (aC (aB 10) (aC (eC (.int 9)) (aC (aB 5) (aX))))) (e2 rA (e2 mV (aB 9) (eC (.int 1))) (aB 4))) (eE))) (bN (sFz [11] (aC5 7 (aB 11))) (aC5 8 (e2 oE (aB 12) (aB 6)))))))) st
def wQ:Bd:=bN (dU 3 (aP fQ (aC (aB 0) (aC (aB 1) (aX))))) (bN (dU 4 (e2 mV (eC (.int 1)) (aP cA (aC (aB 3) (aC (eC (.int 1)) (aC (e2 dIx (qG (aC (eC (.int 4)) (aC (eC (.int 5)) (aC (eC (.int 5)) (aC (aB 2) (aX)))))) (aP cA (aC (aB 3) (aC (eC (.int 5)) (aC (eC (.int 4)) (aX)))))) (aX))))))) (bN (dU 5 (e2 mV (eC (.int 1)) (aP cA (aC (aB 3) (aC (eC (.int 2)) (aC (eC (.int 3)) (aX))))))) (bN (dU 6 (e2 dIx (qG (aC (eC (.int 1)) (aC (eC (.int 1)) (aC (eC (.int 1)) (aC (e2 mV (eC (.int 1)) (e2 oE (eC (.int 2)) (e2 rA (aP fQ (aC (aB 0) (aC (e2 mV (aB 1) (eC (.int 1))) (aX)))) (e2 aSl (eC (.int 10)) (eC (.int 27)))))) (aX)))))) (aP cA (aC (aB 3) (aC (eC (.int 4)) (aC (eC (.int 4)) (aX))))))) (bN (pL 7 (qG (aX))) (bN (pL 8 (qG (aX))) (bN (wH (tgN 9) (uA (aB 4)) (jF)) (sFz [7,8] (dO (aQ9 (aC (aB 7) (aC (aB 8) (aX))))))))))))
def iW:List D->R D:=cT 3 14 wQ
def lH(st:PSt):R Fl:=(sIf (pJ (e2 dEq (e2 zT (e2 aC6 (aB 1) (aB 5)) (eC (.int 1))) (eC (.int 1))) (e2 mW (aB 5) (dR 3))) (aC5 3 (aB 5)) (eE)) st
def wR(st:PSt):R Fl:=(bN (wH (tgN 5) (itE (e2 dIx (aB 0) (e2 dIx (dR 3) (aB 4)))) (lH)) (dU 4 (e2 mV (aB 4) (eC (.int 1))))) st
def pM(st:PSt):R D:=(e2 aM5 (aB 4) (e1 fC (dR 3))) st
def uC:Bd:=bN (pL 3 (qG (aC (aB 2) (aX)))) (bN (dU 4 (eC (.int 0))) (bN (aEg 100000 (pM) (wR)) (sFz [3] (dO (aB 3)))))
def fU:List D->R D:=cT 3 6 uC
def sO(st:PSt):R D:=(aB 3) st
def sS(st:PSt):R D:=(e2 dEq (e2 zT (e2 aC6 (aB 1) (aB 3)) (eC (.int 1))) (eC (.int 1))) st
def sU(st:PSt):R Fl:=(sIf (e2 dNe (e1 fC (aP fU (aC (aB 0) (aC (aB 1) (aC (aB 3) (aX)))))) (e1 fC (aB 2))) (dO (eC (.bl false))) (eE)) st
def wU:Bd:=bN (dU 2 (cR [3] (tgN 3) (uA (e1 fC (aB 0))) (sS) (sO))) (bN (wH (tgN 3) (itE (aB 2)) (sU)) (dO (eOr (e2 dGt (e1 fC (aB 2)) (eC (.int 1))) (pJ (e2 dEq (e1 fC (aB 2)) (eC (.int 1))) (e2 dIn (e2 dIx (aB 2) (eC (.int 0))) (e2 dIx (aB 0) (e2 dIx (aB 2) (eC (.int 0)))))))))
def lJ:List D->R D:=cT 2 4 wU
def pN(st:PSt):R D:=(aB 1) st
def pO(st:PSt):R D:=(aP lJ (aC (aB 0) (aC (aB 1) (aX)))) st
def uD:Bd:=dO (cR [1] (tgN 1) (aWc (eC (.int 1)) (e2 vY (eC (.int 1)) (e1 fC (aB 0)))) (pO) (pN))
def pA:List D->R D:=cT 1 2 uD
def uE(st:PSt):R D:=(e2 dIx (aB 0) (aB 2)) st
def uF(st:PSt):R D:=(e2 dEq (e2 zT (e2 aC6 (aB 1) (aB 2)) (eC (.int 1))) (eC (.int 1))) st
def zV:Bd:=dO (e1 aAr (cR [2] (tgN 2) (uA (e1 fC (aB 0))) (uF) (uE)))
def uG:List D->R D:=cT 2 3 zV
def zW:Bd:=dO (e2 dEq (e2 zT (e2 aC6 (aB 0) (aB 1)) (eC (.int 1))) (eC (.int 1)))
def gY:List D->R D:=cT 2 2 zW
def nO(st:PSt):R Fl:=(sIf (pJ (e2 dIn (aB 8) (aB 2)) (e2 mW (aB 8) (dR 3))) (bN (sDPut 3 (aB 8) (e2 mV (e2 dIx (dR 3) (aB 6)) (aB 7))) (aC5 4 (aB 8))) (eE)) st
def yZ(st:PSt):R Fl:=(bN (dU 6 (e2 dIx (dR 4) (aB 5))) (bN (wH (tgT [7,8]) (aYv (eC (.str [97,98,99])) (e2 dIx (aB 0) (aB 6))) (nO)) (dU 5 (e2 mV (aB 5) (eC (.int 1)))))) st
def rH(st:PSt):R D:=(e2 aM5 (aB 5) (e1 fC (dR 4))) st
def wV:Bd:=bN (aM4 3 (aB 1) (eC (.str []))) (bN (pL 4 (qG (aC (aB 1) (aX)))) (bN (dU 5 (eC (.int 0))) (bN (aEg 100000 (rH) (yZ)) (sFz [3] (dO (aB 3))))))
def lA:List D->R D:=cT 3 9 wV
def uH(st:PSt):R D:=(aB 1) st
def uI(st:PSt):R D:=(aP gY (aC (aB 0) (aC (aB 1) (aX)))) st
def zX:Bd:=dO (cR [1] (tgN 1) (uA (e1 aDs (aB 0))) (uI) (uH))
def cI:List D->R D:=cT 1 2 zX
def aJr:Bd:=bN (sIf (pK (aP gY (aC (aB 1) (aC (aB 2) (aX))))) (dO (eC .non)) (eE)) (dO (aT0 (aP lA (aC (e1 (iQ "Machine" "steps") (aB 0)) (aC (aB 2) (aC (aP cI (aC (aB 1) (aX))) (aX))))) (aB 3) (eC .non)))
def jT:List D->R D:=cT 4 4 aJr
def lB(st:PSt):R Fl:=(dU 1 (e2 dOr (aB 1) (e2 vY (eC (.int 1)) (aB 2)))) st
def aC7:Bd:=bN (dU 1 (eC (.int 0))) (bN (wH (tgN 2) (itE (aB 0)) (lB)) (dO (aB 1)))
def iI:List D->R D:=cT 1 3 aC7
def wW(st:PSt):R Fl:=(sDPut 3 (aB 4) (e2 zT (e2 dOr (aP iI (aC (e2 dIx (aB 0) (aB 4)) (aX))) (e2 vY (eC (.int 1)) (aB 4))) (aB 1))) st
def lK(st:PSt):R Fl:=(sIf (aP gY (aC (e2 dIx (dR 3) (aB 4)) (aC (aB 5) (aX)))) (sDPut 3 (aB 4) (e2 dOr (e2 dIx (dR 3) (aB 4)) (e2 dIx (dR 3) (aB 5)))) (eE)) st
def wX(st:PSt):R Fl:=(wH (tgN 4) (itE (aB 2)) (lK)) st
def aAu:Bd:=bN (dU 2 (aP cI (aC (aB 1) (aX)))) (bN (aNp 3 false) (bN (wH (tgN 4) (itE (aB 2)) (wW)) (bN (wH (tgN 5) (itE (aB 2)) (wX)) (sFz [3] (dO (aB 3))))))
def jG:List D->R D:=cT 2 6 aAu
def aAv:Bd:=bN (dU 2 (aP cI (aC (aB 1) (aX)))) (dO (eOr (e2 dGt (e1 fC (aB 2)) (eC (.int 1))) (e2 dIn (e2 dIx (aB 2) (eC (.int 0))) (e2 dIx (aB 0) (e2 dIx (aB 2) (eC (.int 0)))))))
def pB:List D->R D:=cT 2 3 aAv
def vL(st:PSt):R D:=(aB 6) st
def vM(st:PSt):R D:=(aP gY (aC (e2 dIx (aB 2) (aB 6)) (aC (aB 4) (aX)))) st
def oN(st:PSt):R Fl:=(bN (dU 5 (aP iI (aC (cR [6] (tgN 6) (itE (aP cI (aC (e2 dIx (aB 2) (aB 4)) (aX)))) (vM) (vL)) (aX)))) (sIf (pJ (e2 mW (aB 5) (dR 3)) (aP pB (aC (aB 0) (aC (aB 5) (aX))))) (aC5 3 (aB 5)) (eE))) st
def zA:Bd:=bN (dU 2 (aP jG (aC (aB 0) (aC (aB 1) (aX))))) (bN (pL 3 (qG (aX))) (bN (wH (tgN 4) (itE (aP cI (aC (aB 1) (aX)))) (oN)) (sFz [3] (dO (aB 3)))))
def nP:List D->R D:=cT 2 7 zA
def aAw:Bd:=dO (aP nP (aC (e1 (iQ "Machine" "steps") (aB 0)) (aC (aB 1) (aX))))
def fV:List D->R D:=cT 2 2 aAw
def aC8:Bd:=dO (e2 dEq (aP fV (aC (aB 0) (aC (aB 1) (aX)))) (qG (aC (aB 1) (aX))))
def sV:List D->R D:=cT 2 2 aC8
def gF(st:PSt):R Fl:=(bN (dU 1 (e2 dIx (e2 dIx (e1 (iQ "Machine" "steps") (aB 0)) (aB 1)) (eMt aGs (eC (.str [97,98,99])) (aC (aB 4) (aX))))) (aC5 3 (aB 1))) st
def dJ:Bd:=bN (pL 3 (qG (aC (aB 1) (aX)))) (bN (wH (tgN 4) (itE (aB 2)) (gF)) (eE))
def vZ:Bd:=aAs dJ 3
def bG:List D->R D:=cT 3 5 vZ
def aAx(st:PSt):R Fl:=(sIf (e2 mW (aB 5) (sH "Machine" "rooms_along" (bG) [] (aB 0) (aC (aB 2) (aC (aB 3) (aX))))) (bN (dU 3 (e2 mV (aB 3) (aP jT (aC (aB 0) (aC (aB 1) (aC (aB 4) (aC (aB 5) (aX)))))))) (dU 4 (aB 5))) (eE)) st
def aEk:Bd:=bN (sIf (eNX (pK (aP sV (aC (aB 0) (aC (aB 1) (aX)))))) (rG "NoLoop" (aC (eC (.str [116,104,105,115,32,115,101,116,32,111,102,32,114,111,111,109,115,32,105,115,32,110,111,32,108,111,111,112])) (aX))) (eE)) (bN (sIf (eNX (pK (aP gY (aC (aB 1) (aC (aB 2) (aX)))))) (rG "NoLoop" (aC (eC (.str [116,104,101,32,114,111,111,109,32,105,115,32,110,111,116,32,105,110,32,116,104,101,32,108,111,111,112])) (aX))) (eE)) (bN (sNX (sIf (e2 dEq (aP cI (aC (aB 1) (aX))) (qG (aC (aB 2) (aX)))) (dO (e2 dIx (eC (.str [97,98,99])) (eMt aNz (e2 dIx (e1 (iQ "Machine" "steps") (aB 0)) (aB 2)) (aC (aB 2) (aX))))) (eE))) (bN (sNX (dU 3 (eC (.str [])))) (bN (sNX (dU 4 (aB 2))) (bN (sNX (wH (tgN 5) (itE (aP cI (aC (aB 1) (aX)))) (aAx))) (sNX (dO (e2 mV (aB 3) (aP jT (aC (aB 0) (aC (aB 1) (aC (aB 4) (aC (aB 2) (aX))))))))))))))
def uJ:List D->R D:=cT 3 6 aEk
def aAy:Bd:=dO (pJ (eB isIn (aB 0)) (pK (eB aQ7 (aB 0))))
def lL:List D->R D:=cT 1 1 aAy
def aCx:Bd:=dO (aP iI (aC (e1 aI9 (e1 (iQ "Machine" "many") (aB 0))) (aX)))
def lC:List D->R D:=cT 1 1 aCx
def aEm(st:PSt):R Fl:=(dU 1 (e2 dOr (aB 1) (aB 2))) st
def aJs:Bd:=bN (dU 1 (eC (.int 0))) (bN (wH (tgN 2) (itE (aB 0)) (aEm)) (dO (aB 1)))
def aAz:List D->R D:=cT 1 3 aJs
def lM(st:PSt):R D:=(e2 dIx (e1 (iQ "Machine" "ranks") (aB 0)) (aB 5)) st
def aB0(st:PSt):R D:=(aB 4) st
def aB1(st:PSt):R D:=(e2 dEq (e2 dEq (e2 rA (aB 4) (eC (.int 2))) (eC (.int 0))) (aB 2)) st
def vN:Bd:=bN (dU 3 (e1 aIa (cR [5] (tgN 5) (itE (aP cI (aC (aB 1) (aX)))) fD (lM)))) (dO (cR [4] (tgN 4) (itE (aB 3)) (aB1) (aB0)))
def jW:List D->R D:=cT 3 6 vN
def pC(st:PSt):R D:=(e2 dIx (e1 (iQ "Machine" "ranks") (aB 0)) (aB 2)) st
def zY:Bd:=bN (sIf (eNX (e2 dEq (aB 1) (eC (.int 0)))) (rG "NoLoop" (aC (eC (.str [97,32,115,101,116,32,119,105,116,104,111,117,116,32,114,111,111,109,115,32,104,97,115,32,110,111,32,103,114,101,97,116,101,115,116,32,114,97,110,107])) (aX))) (eE)) (sNX (dO (e1 aAr (cR [2] (tgN 2) (itE (aP cI (aC (aB 1) (aX)))) fD (pC)))))
def uK:List D->R D:=cT 2 3 zY
def aC9(st:PSt):R D:=(aB 5) st
def aCa(st:PSt):R D:=(e2 dLe (e2 dIx (e1 (iQ "Machine" "ranks") (aB 0)) (aB 5)) (aB 2)) st
def jH(st:PSt):R D:=(aB 4) st
def jJ(st:PSt):R D:=(e2 dEq (aP (pNX uK) (aC (aB 0) (aC (aB 4) (aX)))) (aB 2)) st
def jX:Bd:=bN (dU 3 (aP iI (aC (cR [5] (tgN 5) (itE (aP cI (aC (aB 1) (aX)))) (aCa) (aC9)) (aX)))) (eE)
def aEn:Bd:=wN jX (cR [4] (tgN 4) (itE (aP fV (aC (aB 0) (aC (aB 3) (aX))))) (jJ) (jH))
def iY:List D->R D:=cT 3 6 aEn
def qJ(st:PSt):R Fl:=(aSo 3 (aP iY (aC (aB 0) (aC (aB 1) (aC (aB 4) (aX)))))) st
def vO:Bd:=bN (pL 3 (qG (aX))) (bN (wH (tgN 4) (itE (aP jW (aC (aB 0) (aC (aB 1) (aC (aB 2) (aX)))))) (qJ)) (sFz [3] (dO (aB 3))))
def jY:List D->R D:=cT 3 5 vO
def aIb(st:PSt):R D:=(aB 3) st
def aIc(st:PSt):R D:=(e2 dNe (e2 zT (e2 dIx (aB 2) (aB 3)) (aB 1)) (eC (.int 0))) st
def aEo:Bd:=bN (dU 2 (aP jG (aC (e1 (iQ "Machine" "steps") (aB 0)) (aC (aP lC (aC (aB 0) (aX))) (aX))))) (dO (aP iI (aC (cR [3] (tgN 3) (uA (e1 (iQ "Machine" "many") (aB 0))) (aIc) (aIb)) (aX))))
def uL:List D->R D:=cT 2 4 aEo
def qK:Bd:=bN (dU 2 (aP lC (aC (aB 0) (aX)))) (bN (dU 3 (aP aAz (aC (aP jY (aC (aB 0) (aC (aB 2) (aC (aB 1) (aX))))) (aX)))) (dO (e2 aT1 (aB 2) (aP uL (aC (aB 0) (aC (aB 3) (aX)))))))
def fW:List D->R D:=cT 2 4 qK
def aB2:Bd:=dO (aP fW (aC (aB 0) (aC (eC (.bl true)) (aX))))
def lN:List D->R D:=cT 1 1 aB2
def aB3:Bd:=dO (aP fW (aC (aB 0) (aC (eC (.bl false)) (aX))))
def lO:List D->R D:=cT 1 1 aB3
def aCb:Bd:=dO (pJ (eB bA8 (aB 0)) (e2 dEq (eMt aEd (aB 0) (aC (eSl (eC (.str [97,98,99])) (aGt) (yW (aB 1))) (aX))) (eC (.str []))))
def lD:List D->R D:=cT 2 2 aCb
def uM:Bd:=bN (sIf (eOr (pK (eB bA9 (aB 0))) (e2 dNe (e1 fC (aB 0)) (eC (.int 2)))) (dO (eC (.bl false))) (eE)) (dO (pJ (aP lD (aC (e2 dIx (aB 0) (eC (.int 0))) (aC (aB 1) (aX)))) (pJ (aP lD (aC (e2 dIx (aB 0) (eC (.int 1))) (aC (aB 1) (aX)))) (e2 dNe (e2 dIx (aB 0) (eC (.int 1))) (eC (.str []))))))
def gZ:List D->R D:=cT 2 2 uM
def zZ:Bd:=dO (pJ (eB isIn (aB 0)) (pK (eB aQ7 (aB 0))))
def mZ:List D->R D:=cT 1 1 zZ
def aA0:Bd:=dO (pJ (aP mZ (aC (aB 0) (aX))) (pJ (e2 dGe (aB 0) (eC (.int 0))) (e2 aM5 (aB 0) (aB 1))))
def kO:List D->R D:=cT 2 2 aA0
def oF:Bd:=sIf (eNX (pK (aP kO (aC (aB 1) (aC (e1 (iQ "Machine" "many") (aB 0)) (aX)))))) (rG "NoRoom" (aC (eC (.str [116,104,105,115,32,105,115,32,110,111,32,114,111,111,109,32,111,102,32,116,104,101,32,109,97,99,104,105,110,101])) (aX))) (eE)
def dG:List D->R D:=cT 2 2 oF
def nA(st:PSt):R Fl:=(bN (sDPut 4 (e2 dIx (dR 3) (e1 aDi (eC (.int 1)))) (e2 aI6 (e1 fC (dR 3)) (eC (.int 1)))) (aSo 3 (eSl (sH "Machine" "rooms_along" (bG) [] (aB 0) (aC (e2 dIx (dR 3) (e1 aDi (eC (.int 1)))) (aC (e2 dIx (aB 1) (eC (.int 1))) (aX)))) (yW (eC (.int 1))) (aGt)))) st
def jK(st:PSt):R D:=(e2 mW (e2 dIx (dR 3) (e1 aDi (eC (.int 1)))) (dR 4)) st
def wY:Bd:=bN (aQa (wL "Machine" "check_room" dG [] (aB 0) (aC (aB 2) (aX)))) (bN (sIf (eNX (pK (aP gZ (aC (aB 1) (aC (e1 (iQ "Machine" "letters") (aB 0)) (aX)))))) (rG "NoWord" (aC (eC (.str [116,104,105,115,32,105,115,32,110,111,32,101,110,100,108,101,115,115,32,119,111,114,100,32,111,102,32,116,104,101,32,109,97,99,104,105,110,101,39,115,32,108,101,116,116,101,114,115])) (aX))) (eE)) (bN (sNX (pL 3 (sH "Machine" "rooms_along" (bG) [] (aB 0) (aC (aB 2) (aC (e2 dIx (aB 1) (eC (.int 0))) (aX)))))) (bN (sNX (aNp 4 false)) (bN (sNX (aEg 100000 (jK) (nA))) (bN (sNX (dU 5 (e2 dIx (dR 4) (e2 dIx (dR 3) (e1 aDi (eC (.int 1))))))) (sNX (dO (aQ9 (aC (eSl (dR 3) (aGt) (yW (aB 5))) (aC (eSl (dR 3) (yW (aB 5)) (yW (e1 aDi (eC (.int 1))))) (aX)))))))))))
def iZ:List D->R D:=cT 3 6 wY
def nC(st:PSt):R D:=(e2 dIx (e1 (iQ "Machine" "ranks") (aB 0)) (aB 4)) st
def wZ:Bd:=bN (dU 3 (e2X dIx (wL "Machine" "walk" iZ [] (aB 0) (aC (aB 1) (aC (aB 2) (aX)))) (eC (.int 1)))) (sNX (dO (e2 dEq (e2 rA (e1 aAr (cR [4] (tgN 4) (itE (aB 3)) fD (nC))) (eC (.int 2))) (eC (.int 0)))))
def jA:List D->R D:=cT 3 5 wZ
def nD:Bd:=dO (pJ (eB aQ8 (aB 0)) (pJ (e2 dGe (e1 fC (aB 0)) (eC (.int 1))) (e2 dLe (e1 fC (aB 0)) (aB 1))))
def dY:List D->R D:=cT 2 2 nD
def aA1(st:PSt):R D:=(aP kO (aC (aB 3) (aC (aB 2) (aX)))) st
def aEp:Bd:=dO (pJ (e2 dEq (e1 fC (aB 0)) (aB 1)) (e1 aDj (cR [3] (tgN 3) (itE (aB 0)) fD (aA1))))
def aB4:List D->R D:=cT 3 4 aEp
def rJ(st:PSt):R D:=(aP dY (aC (aB 1) (aC (eC (.int 3)) (aX)))) st
def rK(st:PSt):R D:=(aP aB4 (aC (aB 1) (aC (e1 fC (e2 dIx (aB 0) (eC (.int 0)))) (aC (e1 fC (aB 0)) (aX))))) st
def xF:Bd:=bN (sIf (pK (aP dY (aC (aB 0) (aC (eC (.int 8)) (aX))))) (dO (eC (.bl false))) (eE)) (bN (sIf (pK (e1 aDj (cR [1] (tgN 1) (itE (aB 0)) fD (rJ)))) (dO (eC (.bl false))) (eE)) (dO (e1 aDj (cR [1] (tgN 1) (itE (aB 0)) fD (rK)))))
def qL:List D->R D:=cT 1 2 xF
def rM(st:PSt):R D:=(pJ (aP mZ (aC (aB 2) (aX))) (e2 dGe (aB 2) (eC (.int 0)))) st
def xG:Bd:=bN (sIf (eOr (pK (eB aQ8 (aB 0))) (e2 dNe (e1 fC (aB 0)) (aB 1))) (dO (eC (.bl false))) (eE)) (dO (e1 aDj (cR [2] (tgN 2) (itE (aB 0)) fD (rM))))
def qM:List D->R D:=cT 2 3 xG
def jB(st:PSt):R D:=(e1 aEi (aB 3)) st
def fG:Bd:=bN (sIf (pK (aP qL (aC (aB 1) (aX)))) (aM2) (eE)) (bN (sIf (pK (aP qM (aC (aB 2) (aC (e1 fC (aB 1)) (aX))))) (aM2) (eE)) (bN (aGu 0 "Machine" "steps" (cR [3] (tgN 3) (itE (aB 1)) fD (jB))) (bN (aGu 0 "Machine" "ranks" (e1 aEi (aB 2))) (bN (aGu 0 "Machine" "many" (e1 fC (aB 1))) (aGu 0 "Machine" "letters" (e1 fC (e2 dIx (aB 1) (eC (.int 0)))))))))
def iB:List D->R D:=aI7 "Machine" 2 4 fG
def aO0(st:PSt):R D:=(e1 aEi (aB 16)) st
def aIe(st:PSt):R D:=(e2 vY (eC (.int 1)) (aB 17)) st
def aO1(st:PSt):R D:=(aB 12) st
def aO2(st:PSt):R D:=(e2 dEq (e2 dOr (aB 12) (aB 9)) (aB 9)) st
def aO3(st:PSt):R D:=(aB 12) st
def aO4(st:PSt):R D:=(e2 dEq (e2 rA (aP uG (aC (aB 8) (aC (aB 12) (aX)))) (eC (.int 2))) (eC (.int 0))) st
def aEq(st:PSt):R D:=(aB 17) st
def aEr(st:PSt):R D:=(e2 dEq (e2 zT (e2 aC6 (aB 12) (aB 17)) (eC (.int 1))) (eC (.int 1))) st
def aEs(st:PSt):R Fl:=(bN (dU 9 (e1 bAj (cR [17] (tgN 17) (itE (aP fU (aC (aB 7) (aC (e2 aI6 (e2 vY (eC (.int 1)) (aB 1)) (eC (.int 1))) (aC (aB 6) (aX)))))) fD (aIe)))) (bN (dU 10 (cR [12] (tgN 12) (itE (aB 3)) (aO2) (aO1))) (bN (dU 11 (cR [12] (tgN 12) (itE (aB 10)) (aO4) (aO3))) (bN (sIf (e2 dEq (aB 11) (qG (aX))) (dU 4 (e2 mV (aB 4) (e2 vY (eC (.int 1)) (aB 6)))) (eE)) (bN (sIf (e2 dEq (e1 fC (aB 11)) (e1 fC (aB 10))) (dU 5 (e2 mV (aB 5) (e2 vY (eC (.int 1)) (aB 6)))) (eE)) (bN (dU 12 (e2 dIx (aB 10) (aP cA (aC (aP fQ (aC (aB 0) (aC (eC (.int 1)) (aX)))) (aC (e2 mV (eC (.int 21)) (aB 6)) (aC (e1 fC (aB 10)) (aX))))))) (bN (dU 13 (e2 dIx (cR [17] (tgN 17) (uA (aB 1)) (aEr) (aEq)) (eC (.int 0)))) (bN (dU 14 (aP jT (aC (aB 2) (aC (e2 aI6 (e2 vY (eC (.int 1)) (aB 1)) (eC (.int 1))) (aC (aB 6) (aC (aB 13) (aX))))))) (bN (dU 15 (sH "Machine" "lets" (pNX jA) [] (aB 2) (aC (aQ9 (aC (aB 14) (aC (aP (pNX uJ) (aC (aB 2) (aC (aB 12) (aC (aB 13) (aX))))) (aX)))) (aC (aB 6) (aX))))) (sIf (eOr (pK (eB aQ7 (aB 15))) (e2 dNe (aB 15) (e2 dIn (aB 12) (aB 11)))) (dO (eC (.bl false))) (eE))))))))))) st
def aYw:Bd:=bN (bAa (tgT [7,8]) (aP iW (aC (aB 0) (aC (eC (.int 0)) (aC (eC (.int 8)) (aX)))))) (bN (dU 1 (e1 fC (aB 7))) (bN (dU 2 (aP iB (aC (cR [16] (tgN 16) (itE (aB 7)) fD (aO0)) (aC (e1 aEi (aB 8)) (aX))))) (bN (dU 3 (aP pA (aC (aB 7) (aX)))) (bN (dU 4 (eC (.int 0))) (bN (dU 5 (eC (.int 0))) (bN (wH (tgN 6) (uA (aB 1)) (aEs)) (bN (sIf (eOr (pK (aP lL (aC (aP lN (aC (aB 2) (aX))) (aX)))) (pK (aP lL (aC (aP lO (aC (aB 2) (aX))) (aX))))) (dO (eC (.bl false))) (eE)) (dO (pJ (e2 dEq (aP lN (aC (aB 2) (aX))) (aB 4)) (e2 dEq (aP lO (aC (aB 2) (aX))) (aB 5)))))))))))
def aGx:List D->R D:=cT 1 18 aYw
end
end Pu
namespace Pu
@[simp] theorem bCf(x:D)(f:α->R β):(R.exc x:R α).bind f = .exc x:=rfl
@[simp] theorem bEd:(R.bad:R α).nox = .bad:=rfl
@[simp] theorem bEe(x:D):(R.exc x:R α).nox = .bad:=rfl
@[simp] theorem bEf(x:D)(f:PSt->R Fl):aEf (.exc x) f = .exc x:=rfl
@[simp] theorem bAk(b:Bd)(st:PSt):sNX b st=(b st).nox:=rfl
@[simp] theorem bGx(f:Ex)(st:PSt):eNX f st=(f st).nox:=rfl
@[simp] theorem bAl(p:List D->R D)(ds:List D):pNX p ds=(p ds).nox:=rfl
@[simp] theorem bCg(c:String)(r:Exs)(st:PSt):rG c r st=(r st).nox.bind fun xs=>aJ (xs.length<=100) (.exc (.exn c [] [])):=rfl
@[simp] theorem bCh(c m:String)(p:List D->R D)(dv:List D)(f:Ex)(r:Exs)(st:PSt):wL c m p dv f r st=(f st).nox.bind fun x=>(r st).nox.bind fun xs=>match x with | .ins c' ns _=>aJ (c'=c/\m ∉ ns) (p (x::(xs++dv))) | _ => .bad:=rfl
@[simp] theorem bFy(b:Bd)(hs:List (List String × List String × (String->Bd)))(st:PSt):bGt b hs st=(match b st with | .exc (.exn c [] [])=>aSx hs c st | .exc _ => .bad | r=>r):=rfl
@[simp] theorem bCi(yes no:List String)(b:String->Bd)(hs:List (List String × List String × (String->Bd)))(c:String)(st:PSt):aSx ((yes,no,b)::hs) c st=if c∈yes then (b c st).nox else if c∈no then aSx hs c st else .bad:=rfl
@[simp] theorem aJt(x:List D):aDj (.lst x)=(bls x).bind fun l => .ok (.bl (l.all id)):=rfl
@[simp] theorem bCj(x:List D):aEi (.lst x) = .ok (.lst x):=rfl
@[simp] theorem bCk(x:List D):aEi (.tup x) = .ok (.lst x):=rfl
theorem aT2{x:List D}{l:List Bool}(h:x=l.map D.bl)(ht:∀ b∈l,b=true):aDj (.lst x) = .ok (.bl true):=by
 subst h
 rw[aJt,aNy]
 have:l.all id=true:=List.all_eq_true.mpr fun b hb=>by simp[ht b hb]
 simp[this]
end Pu
namespace Pu
@[simp] theorem bFz(j:Nat)(f:Ex)(xss:List (List D))(st:PSt):bGu j f xss st=(f st).bind fun d => .ok (.nx xss (st.set j (some (.v d)))):=rfl
@[simp] theorem bG0(f:Ex)(xss:List (List D))(st:PSt):bGv f xss st=(f st).bind fun d => .ok (.rt d):=rfl
@[simp] theorem bGy(c:Ex)(a b:NB)(xss:List (List D))(st:PSt):nIf c a b xss st=(c st).bind fun x=>onB x fun q=>if q=true then a xss st else b xss st:=rfl
@[simp] theorem bG1(g f:Ex)(xss:List (List D))(st:PSt):bGw g f xss st=(g st).bind fun x=>inI x fun j=>(f st).bind fun d=>(ofO (ixN xss.length j)).bind fun k=>match xss[k]? with
 | some ys=>aJ (ys.length<big) (.ok (.nx (xss.set k (ys++[d])) st))
 | none => .bad:=rfl
end Pu
namespace Pu
def Ltr(m:Int)(x:List Nat):Prop:=∀ c∈x,97<=c/\(c:Int)<97+m
end Pu
namespace Pu
theorem aW{a b:Bd}{st:PSt}{r:R Fl}(h:a st = .ok (.nx st'))(h2:b st'=r):bN a b st=r:=by
 rw[aNu,h]
 exact h2
theorem fX{a b:Bd}{st:PSt}{r:R Fl}(h:a st = .ok (.nx st))(h2:b st=r):bN a b st=r:=aW h h2
theorem aEt{a b:Bd}{st:PSt}  (h:a st = .ok (.rt d)):bN a b st = .ok (.rt d):=by
 rw[aNu,h]
 rfl
theorem cO{b:Bd}  {d:D} (h:ds.length=np) (hb:b (ds.map (fun d=>some (.v d))++List.replicate (n-np) none) = .ok (.rt d)):cT np n b ds = .ok d:=by
 rw[aNx h,hb]
 rfl
theorem bAm{b:Bd}  {st:PSt} (h:ds.length=np) (hb:b (ds.map (fun d=>some (.v d))++List.replicate (n-np) none) = .ok (.nx st)):cT np n b ds = .ok .non:=by
 rw[aNx h,hb]
 rfl
end Pu
namespace Pu
theorem aCy(n:Nat):gB 0 n=(List.range n).map fun(k:Nat)=>D.int (k:Int):=by
 unfold gB
 refine List.map_congr_left fun k _=>?_
 rw[Int.zero_add]
theorem aEu{L:Bd}{j:Nat}(S:Option Sl->PSt)(hset:∀ x d,(S x).set j (some (.v d))=S (some (.v d)))(p:Nat->Bool)(r:Nat->D):∀ (ks:List Nat),(∀ k∈ks,L (S (some (.v (.int (k:Int)))))=if p k=true then .ok (.rt (r k)) else .ok (.nx (S (some (.v (.int (k:Int))))))) ->
  ∀ x,∃ x',forR (tgN j) L (ks.map fun(k:Nat)=>D.int (k:Int)) (S x)=match ks.find? p with | some k => .ok (.rt (r k)) | none => .ok (.nx (S x'))
 | [],_,x=>⟨x,rfl⟩
 | k::ks,hb,x=>by
  have h0:=hb k mem_cons_self
  rw[map_cons,mX]
  simp only[bAf,aM,hset,h0]
  by_cases hp:p k=true
  ·refine⟨x,?_⟩
   rw[if_pos hp,List.find?_cons_of_pos hp]
   rfl
  ·obtain⟨x',e⟩:=aEu S hset p r ks (fun k hk=>hb k (mem_cons_of_mem _ hk)) (some (.v (.int (k:Int))))
   refine⟨x',?_⟩
   rw[if_neg hp,List.find?_cons_of_neg hp]
   exact e
theorem sW{tg:Tg}{c f:Ex}{st:PSt}(g:D->D):∀ (ds:List D),(∀ d∈ds,∃ s1,tg d st = .ok s1/\c s1 = .ok (.bl true)/\f s1 = .ok (g d))->oV tg c f st ds = .ok (ds.map g)
 | [],_=>rfl
 | d::ds,h=>by
  obtain⟨s1,e1,e2,e3⟩:=h d mem_cons_self
  rw[uB,e1]
  simp only[aM,e2,rF,if_true,e3,sW g ds fun d hd=>h d (mem_cons_of_mem _ hd),map_cons]
end Pu
namespace Pu
theorem cG{st:PSt}  (h:f st = .ok d):dU i f st = .ok (.nx (st.set i (some (.v d)))):=by rw[aNv,h,aM]
theorem uN{st:PSt}  (h:f st = .ok (.lst xs)):pL i f st = .ok (.nx (st.set i (some (.o .l xs)))):=by rw[aSt,h,aM]
theorem aR{r:Exs}{st:PSt}  {x:R D} (h:r st = .ok ds) (hp:p ds=x):aP p r st=x:=by rw[aSs,h,aM,hp]
theorem aV{op:Op2}  {st:PSt} {x y:D} {z:R D} (hf:f st = .ok x) (hg:g st = .ok y) (h:op x y=z):e2 op f g st=z:=by rw[aCv,hf,aM,hg,aM,h]
theorem aB5{c:Ex}{a b:Bd}{st:PSt}{r:R Fl}(h:c st = .ok (.bl true))(ha:a st=r):sIf c a b st=r:=by rw[aM3,h,aM,rF,if_pos rfl,ha]
theorem rN{c:Ex}{a b:Bd}{st:PSt}{r:R Fl}(h:c st = .ok (.bl false))(hb:b st=r):sIf c a b st=r:=by rw[aM3,h,aM,rF,if_neg Bool.false_ne_true,hb]
theorem xH{st:PSt}{p q:Bool}(hf:f st = .ok (.bl p))(hg:p=true->g st = .ok (.bl q)):pJ f g st = .ok (.bl (p&&q)):=by
 rw[aNs,hf,aM,rF]
 cases p with
 | true=>rw[if_pos rfl,hg rfl];rfl
 | false=>rfl
theorem aJu{st:PSt}{p q:Bool}(hf:f st = .ok (.bl p))(hg:p=false->g st = .ok (.bl q)):eOr f g st = .ok (.bl (p||q)):=by
 rw[bAb,hf,aM,rF]
 cases p with
 | true=>rfl
 | false=>rw[if_neg Bool.false_ne_true,hg rfl];rfl
theorem rO{st:PSt}{p:Bool}(hf:f st = .ok (.bl p)):pK f st = .ok (.bl (!p)):=by rw[aNt,hf,aM,rF]
theorem gC{st:PSt}  (h:f st = .ok d):dO f st = .ok (.rt d):=by rw[oZ,h,aM]
theorem nF{tg:Tg}   {st:PSt}  {r:R Fl} (h:it st = .ok xs) (hr:forR tg L xs st=r):wH tg it L st=r:=by rw[aNw,h,aM,hr]
theorem bR{r:Exs}{st:PSt}{d:D}  (h:f st = .ok d) (hr:r st = .ok ds):aC f r st = .ok (d::ds):=by rw[aSr,h,aM,hr,aM]
theorem pP{r:Exs}{st:PSt}  (h:r st = .ok ds) (hl:ds.length<=1000:=by exact of_decide_eq_true rfl):qG r st = .ok (.lst ds):=by rw[aWe,h,aM,aF (eU (Nat.le_trans hl (by decide)))]
theorem xJ{i j:Int}(h:0<j):rA (.int i) (.int j) = .ok (.int (i%j)):=aF h
theorem aIf{i j:Int}(h:0<j/\j<1073741824):aCu (.int i) (.int j) = .ok (.int (i/j)):=aF h
theorem xK(i j:Int):dEq (.int i) (.int j) = .ok (.bl (decide (i=j))):=by
 have:(i==j)=decide (i=j):=by by_cases h:i=j<;>simp[h]
 rw[<-this]
 exact aF ⟨zero_le 64,rfl,rfl⟩
theorem aT3(i j:Int):dNe (.int i) (.int j) = .ok (.bl (!decide (i=j))):=by
 have:(i==j)=decide (i=j):=by by_cases h:i=j<;>simp[h]
 rw[<-this]
 exact aF ⟨zero_le 64,rfl,rfl⟩
theorem aEv{st:PSt}   (h:f st = .ok d) (hs:st[i]?=some (some (.o .l xs))) (hl:xs.length<1000000):aC5 i f st = .ok (.nx (st.set i (some (.o .l (xs++[d]))))):=by
 rw[aWg,h,aM,hs]
 exact aF (aEb (Nat.lt_trans hl (by decide)))
theorem aJv{st:PSt}  (h:f st = .ok (.int n)) (hn:n<=1000000):uA f st = .ok ((List.range n).map fun(k:Nat)=>D.int (k:Int)):=by
 rw[aWf,h,aM,<-aCy]
 exact aF ⟨aDr (by omega),tY (by omega)⟩
theorem jZ{E C:Ex}  {tg:Tg}  {st:PSt}  (h:it st = .ok xs) (hl:xs.length<=1000000) (hc:oV tg C E (clr is st) xs = .ok ys):cR is tg it C E st = .ok (.lst ys):=by
 rw[wJ,h,aM,aF (eU (Nat.le_trans hl (by decide))),hc,aM]
theorem aJw{c:Ex}{b:Bd}{st:PSt}  {r:R Fl} (hc:c st = .ok (.bl true)) (hb:b st = .ok (.nx st')) (hr:jQ c b n st'=r):jQ c b (n+1) st=r:=by
 rw[qI,hc,aM,rF,if_pos rfl,hb]
 exact hr
theorem aGy{c:Ex}{b:Bd}{st:PSt}  (hc:c st = .ok (.bl false)):jQ c b (n+1) st = .ok (.nx st):=by rw[qI,hc,aM,rF,if_neg Bool.false_ne_true]
theorem uO{tg:Tg}  {d:D}  {st s1 s2:PSt} {r:R Fl} (ht:tg d st = .ok s1) (hL:L s1 = .ok (.nx s2)) (hr:forR tg L ds s2=r):forR tg L (d::ds) st=r:=by
 rw[mX,ht,aM,hL]
 exact hr
theorem jU{i:Int}  (h:atI xs i=some d):dIx (.lst xs) (.int i) = .ok d:=by
 show ofO (atI xs i)=_
 rw[h]
 rfl
theorem bAn{p q:Nat}(h:p<q):decide ((p:Int)<(q:Int))=true:=decide_eq_true (by omega)
theorem bAo{p q:Nat}(h:¬ p<q):decide ((p:Int)<(q:Int))=false:=decide_eq_false (by omega)
theorem pQ{r:R D}{p q:Bool}(h:r = .ok (.bl p))(e:p=q):r = .ok (.bl q):=by rw[h,e]
theorem sX{st:PSt}  (h:f st = .ok (.lst xs)):itE f st = .ok xs:=by rw[bAd,h,aM]
theorem aT4{st:PSt}  (h:f st = .ok (.lst ys)) (hs:st[i]?=some (some (.o .l xs))) (hl:xs.length+ys.length<=big):aSo i f st = .ok (.nx (st.set i (some (.o .l (xs++ys))))):=by
 rw[aWi,h,aM]
 dsimp only
 rw[hs]
 exact aF hl
end Pu
namespace Pu
def good(m:Int)(x:List Nat):Bool:=x.all fun c=>decide (97<=c/\(c:Int)<97+m)
theorem aEw{m:Int}{x:List Nat}:good m x=true ↔ Ltr m x:=by
 unfold good Ltr
 simp
theorem aO5{m:Int}(hm:1<=m)(hm3:m<=3){c:Nat}:c∈cut [97,98,99] none (some m) ↔ 97<=c/\(c:Int)<97+m:=by
 have h3:m=1\/m=2\/m=3:=by omega
 rcases h3 with rfl | rfl | rfl
 ·show c∈[97] ↔ _
  simp;omega
 ·show c∈[97,98] ↔ _
  simp;omega
 ·show c∈[97,98,99] ↔ _
  simp;omega
theorem zB{α:Type}(p:α->Bool):∀ x:List α,x.dropWhile p=[] ↔ ∀ c∈x,p c=true
 | []=>by simp
 | a::x=>by
  cases h:p a with
  | true=>rw[List.dropWhile_cons_of_pos h,zB p x];simp[h]
  | false=>rw[List.dropWhile_cons_of_neg (by simp[h])];simp[h]
theorem takeWhile_all{α:Type}(p:α->Bool):∀ (x:List α) (c:α),c∈x.takeWhile p->p c=true
 | [],c,h=>by simp at h
 | a::x,c,h=>by
  cases ha:p a with
  | true =>
   rw[List.takeWhile_cons_of_pos ha]at h
   rcases List.mem_cons.mp h with rfl | h
   ·exact ha
   ·exact takeWhile_all p x c h
  | false=>rw[List.takeWhile_cons_of_neg (by simp[ha])]at h;simp at h
theorem strip_nil(x y:List Nat):rD x y=[] ↔ ∀ c∈x,c∈y:=by
 unfold rD
 rw[List.reverse_eq_nil_iff,zB]
 constructor
 ·intro h
  have h2:∀ c∈x.dropWhile (fun c=>y.contains c),c∈y:=fun c hc=>by simpa using h c (by simpa using hc)
  have h3:∀ c∈x.takeWhile (fun c=>y.contains c),c∈y:=fun c hc=>by
   simpa using takeWhile_all (fun c=>y.contains c) x c hc
  intro c hc
  rw[<-List.takeWhile_append_dropWhile (p:=fun c=>y.contains c) (l:=x)]at hc
  exact(List.mem_append.mp hc).elim (h3 c) (h2 c)
 ·intro h c hc
  rw[List.mem_reverse]at hc
  have:c∈x:=List.IsSuffix.subset (List.dropWhile_suffix _) hc
  simpa using h c this
theorem aEx(x:List Nat)(m:Int)(hm:1<=m)(hm3:m<=3)(h:x.length<=1000000):lD [.str x,.int m] = .ok (.bl (good m x)):=by
 unfold lD aCb
 have e:(rD x (cut [97,98,99] none (some m))==[])=good m x:=by
  rw[Bool.eq_iff_iff,beq_iff_eq,strip_nil,aEw]
  exact⟨fun z c hc=>(aO5 hm hm3).mp (z c hc),fun z c hc=>(aO5 hm hm3).mpr (z c hc)⟩
 simp[bA8,show x.length<=big from eU (by omega),e]
theorem aGh(x y:D)(m:Int)(p q:Bool)(hp:lD [x,.int m] = .ok (.bl p))(hq:lD [y,.int m] = .ok (.bl q))(hy:plain y=true)(hd:dep y<=64):gZ [.tup [x,y],.int m] = .ok (.bl (p&&(q && !eqD y (.str [])))):=by
 unfold gZ uM
 have g1:atI [x,y] 0=some x:=rfl
 have g2:atI [x,y] 1=some y:=rfl
 cases p<;>cases q<;>simp[bA9,g1,g2,hp,hq,hy,hd]
end Pu
namespace Pu
def nats(l:List Nat):List D:=l.map fun(x:Nat)=>D.int (x:Int)
structure Mch(S:List (List Nat))(rk:List Nat)(c:Nat):Prop where
 one:1<=S.length
 most:S.length<=8
 c1:1<=c
 c3:c<=3
 row:∀ r∈S,r.length=c/\∀ x∈r,x<S.length
 rks:rk.length=S.length
def stD(S:List (List Nat)):List D:=S.map fun r=>D.lst (nats r)
theorem aJx{tg:Tg}{c f:Ex}{st:PSt}{P:D->D->Prop}:∀ (ds:List D),(∀ d∈ds,∃ s1 y,tg d st = .ok s1/\c s1 = .ok (.bl true)/\f s1 = .ok y/\P d y)->∃ ys,oV tg c f st ds = .ok ys/\ys.length=ds.length/\∀ y∈ys,∃ d∈ds,P d y
 | [],_=>⟨[],rfl,rfl,fun _ h=>nomatch h⟩
 | d::ds,h=>by
  obtain⟨s1,y,e1,e2,e3,e4⟩:=h d mem_cons_self
  obtain⟨ys,e5,e6,e7⟩:=aJx ds fun d hd=>h d (mem_cons_of_mem _ hd)
  refine⟨y::ys,?_,by simp[e6],fun z hz=>?_⟩
  ·rw[uB,e1]
   simp[e2,e3,e5]
  ·rcases List.mem_cons.mp hz with rfl | hz
   ·exact⟨d,mem_cons_self,e4⟩
   ·obtain⟨d',h1,h2⟩:=e7 z hz
    exact⟨d',mem_cons_of_mem _ h1,h2⟩
theorem aM6{lo:Int}   (h:d∈gB lo n):∃ k:Nat,k<n/\d = .int (lo+k):=by
 unfold gB at h
 obtain⟨k,h1,h2⟩:=List.mem_map.mp h
 exact⟨k,List.mem_range.mp h1,h2.symm⟩
theorem aO6:∀ (ys:List D) (n:Int),(∀ y∈ys,∃ i:Int,y = .int i/\0<=i/\i<n)->∃ r:List Nat,ys=nats r/\∀ x∈r,(x:Int)<n
 | [],_,_=>⟨[],rfl,fun _ h=>nomatch h⟩
 | y::ys,n,h=>by
  obtain⟨i,rfl,h0,h1⟩:=h y mem_cons_self
  obtain⟨r,rfl,h2⟩:=aO6 ys n fun y hy=>h y (mem_cons_of_mem _ hy)
  refine⟨i.toNat::r,?_,fun x hx=>?_⟩
  ·unfold nats;rw[map_cons,Int.toNat_of_nonneg h0]
  ·rcases List.mem_cons.mp hx with rfl | hx
   ·rw[Int.toNat_of_nonneg h0];exact h1
   ·exact h2 x hx
theorem aT5{E:Ex}{st:PSt}{v:Nat}{P:D->Prop}(hv:st[v]?=some (some (.v (.int n))))(hn:n<=100000)(hE:∀ k:Nat,k<n->∃ y,E ((st.set j none).set j (some (.v (.int k)))) = .ok y/\P y) :
  ∃ ys,cR [j] (tgN j) (uA (aB v)) fD E st = .ok (.lst ys)/\ys.length=n/\∀ y∈ys,P y:=by
 obtain⟨ys,e1,e2,e3⟩:=aJx (tg:=tgN j) (c:=fD) (f:=E) (st:=st.set j none) (P:=fun _ y=>P y) (gB 0 n) (fun d hd=>by
  obtain⟨k,hk,rfl⟩:=aM6 hd
  obtain⟨y,h1,h2⟩:=hE k hk
  rw[Int.zero_add]
  exact⟨_,y,rfl,rfl,h1,h2⟩)
 rw[yX]at e2
 refine⟨ys,?_,e2,fun y hy=>let ⟨_,_,h⟩:=e3 y hy;h⟩
 simp[hv,show (n:Int)<=(big:Int) from tY (by omega),yX,show n<=big from eU (by omega),e1]
theorem aGz{E:Ex}{st:PSt}{v:Nat}{m:Int}(hv:st[v]?=some (some (.v (.int n))))(hn:n<=100000)(hE:∀ k:Nat,k<n->∃ i,E ((st.set j none).set j (some (.v (.int k)))) = .ok (.int i)/\0<=i/\i<m) :
  ∃ r,cR [j] (tgN j) (uA (aB v)) fD E st = .ok (.lst (nats r))/\r.length=n/\∀ x∈r,(x:Int)<m:=by
 obtain⟨ys,e1,e2,e3⟩:=aT5 (P:=fun y=>∃ i:Int,y = .int i/\0<=i/\i<m) hv hn fun k hk=>let ⟨i,h1,h2⟩:=hE k hk;⟨_,h1,i,rfl,h2⟩
 obtain⟨r,rfl,h⟩:=aO6 ys m e3
 exact⟨r,e1,by rw[<-e2];unfold nats;simp,h⟩
end Pu
namespace Pu
theorem aWk{xs:List α}{i:Int}(h0:0<=i)(h:i<xs.length):∃ a∈xs,atI xs i=some a:=⟨_,List.getElem_mem _,aSv h0 h⟩
theorem aB6{E:Ex}{st:PSt}{v:Nat}{xs:List D}(hv:st[v]?=some (some (.v (.lst xs))))(hl:xs.length<=100000)(h:∀ d∈xs,E ((st.set j none).set j (some (.v d))) = .ok (.bl true)):e1 aDj (cR [j] (tgN j) (itE (aB v)) fD E) st = .ok (.bl true):=by
 have e:=sW (tg:=tgN j) (c:=fD) (f:=E) (st:=st.set j none) (fun _=>D.bl true) xs fun d hd=>⟨_,rfl,rfl,h d hd⟩
 have e2:xs.map (fun _=>D.bl true)=(xs.map fun _=>true).map D.bl:=by simp
 simp[hv,show xs.length<=big from eU (by omega),e]
 rw[e2,<-aJt]
 exact aT2 rfl fun b hb=>by obtain⟨_,_,z⟩:=List.mem_map.mp hb;exact z.symm
theorem aH0{E:Ex}{st:PSt}{v:Nat}{xs:List D}(hv:st[v]?=some (some (.v (.lst xs))))(hl:xs.length<=100000)(h:∀ d∈xs,E ((st.set j none).set j (some (.v d))) = .ok d):cR [j] (tgN j) (itE (aB v)) fD E st = .ok (.lst xs):=by
 have e:=sW (tg:=tgN j) (c:=fD) (f:=E) (st:=st.set j none) id xs fun d hd=>⟨_,rfl,rfl,h d hd⟩
 simp[hv,show xs.length<=big from eU (by omega),e]
theorem aH1(i:Int):mZ [.int i] = .ok (.bl true):=by
 unfold mZ zZ
 simp[isIn,aQ7]
theorem aH2{x:Nat}(h:x<n):kO [.int x,.int n] = .ok (.bl true):=by
 have hw:=aH1 x
 unfold kO aA0
 simp[hw,h]
theorem aH3(xs:List D)(m:Int):dY [.lst xs,.int m] = .ok (.bl (decide (1<=(xs.length:Int))&&decide ((xs.length:Int)<=m))):=by
 unfold dY nD
 by_cases h:1<=xs.length
 ·have h':(1:Int)<=xs.length:=by omega
  simp[aQ8,h,h']
 ·have h':¬ (1:Int)<=xs.length:=by omega
  simp[aQ8,h,h']
theorem aZ(r:List Nat):(nats r).length=r.length:=by unfold nats;simp
theorem iT(S:List (List Nat)):(stD S).length=S.length:=by unfold stD;simp
theorem aB7{r:List Nat}  (h:d∈nats r):∃ x∈r,d = .int (x:Nat):=by
 obtain⟨x,h1,h2⟩:=List.mem_map.mp h
 exact⟨x,h1,h2.symm⟩
theorem aDt{S:List (List Nat)}  (h:d∈stD S):∃ r∈S,d = .lst (nats r):=by
 obtain⟨x,h1,h2⟩:=List.mem_map.mp h
 exact⟨x,h1,h2.symm⟩
theorem bAp(r:List Nat)(n:Nat)(h:∀ x∈r,x<n)(hl:r.length<=1000):aB4 [.lst (nats r),.int r.length,.int n] = .ok (.bl true):=by
 have e:=aB6 (E:=aA1) (st:=[some (.v (.lst (nats r))),some (.v (.int r.length)),some (.v (.int n)),none]) (j:=3) (v:=0) (xs:=nats r) rfl (by rw[aZ];omega) (fun d hd=>by
  obtain⟨x,hx,rfl⟩:=aB7 hd
  have:=h x hx
  simp[aA1,aH2 this])
 refine cO rfl ?_
 unfold aEp
 have h1:e2 dEq (e1 fC (aB 0)) (aB 1) [some (.v (.lst (nats r))),some (.v (.int r.length)),some (.v (.int n)),none] = .ok (.bl true):=by simp[aZ]
 show dO _ [some (.v (.lst (nats r))),some (.v (.int r.length)),some (.v (.int n)),none]=_
 rw[oZ,aNs,h1]
 show (e1 aDj _ _).bind _=_
 rw[e]
 rfl
def mD(S:List (List Nat))(rk:List Nat)(c:Nat):D := .ins "Machine" ["steps", "ranks", "many", "letters"] [.lst (stD S),.lst (nats rk),.int S.length,.int c]
section
theorem Mch.row0(M:Mch S rk c):∃ r T,S=r::T/\r.length=c:=by
 cases S with
 | nil=>exact absurd M.one (by simp)
 | cons r T=>exact⟨r,T,rfl,(M.row r mem_cons_self).1⟩
theorem Mch.at0(M:Mch S rk c):∃ r,r∈S/\atI (stD S) 0=some (.lst (nats r))/\r.length=c:=by
 obtain⟨r,T,rfl,h⟩:=M.row0
 refine⟨r,mem_cons_self,?_,h⟩
 have:=atI_nat (xs:=stD (r::T)) (i:=0) (by simp[stD])
 simpa [stD] using this
theorem aT6(M:Mch S rk c):qL [.lst (stD S)] = .ok (.bl true):=by
 obtain⟨r0,hr0,e0,l0⟩:=M.at0
 have h1:=M.one
 have h8:=M.most
 have f1:=aH3 (stD S) 8
 rw[iT]at f1
 have f1':dY [.lst (stD S),.int 8] = .ok (.bl true):=by rw[f1];congr 2;simp;omega
 have a1:=aB6 (E:=rJ) (st:=[some (.v (.lst (stD S))),none]) (j:=1) (v:=0) (xs:=stD S) rfl (by rw[iT];omega) (fun d hd=>by
  obtain⟨r,hr,rfl⟩:=aDt hd
  have f:=aH3 (nats r) 3
  rw[aZ,(M.row r hr).1]at f
  have h3:=M.c3
  have h0:=M.c1
  simp[rJ,f]
  omega)
 have a2:=aB6 (E:=rK) (st:=[some (.v (.lst (stD S))),none]) (j:=1) (v:=0) (xs:=stD S) rfl (by rw[iT];omega) (fun d hd=>by
  obtain⟨r,hr,rfl⟩:=aDt hd
  have h3:=M.c3
  have f:=bAp r S.length (M.row r hr).2 (by rw[(M.row r hr).1];omega)
  have el:(nats r0).length=r.length:=by rw[aZ,l0,(M.row r hr).1]
  simp[rK,e0,el,iT,f])
 refine cO rfl ?_
 unfold xF
 refine fX (by simp[f1']) (fX ?_ ?_)
 ·rw[aM3,aNt]
  show ((e1 aDj _ [some (.v (.lst (stD S))),none]).bind _).bind _=_
  rw[a1];rfl
 ·rw[oZ]
  show (e1 aDj _ [some (.v (.lst (stD S))),none]).bind _=_
  rw[a2];rfl
theorem aT7(M:Mch S rk c):qM [.lst (nats rk),.int S.length] = .ok (.bl true):=by
 have h8:=M.most
 have a1:=aB6 (E:=rM) (st:=[some (.v (.lst (nats rk))),some (.v (.int S.length)),none]) (j:=2) (v:=0) (xs:=nats rk) rfl (by rw[aZ,M.rks];omega) (fun d hd=>by
  obtain⟨x,hx,rfl⟩:=aB7 hd
  simp[rM,aH1])
 refine cO rfl ?_
 unfold xG
 refine fX (by simp[aQ8,aZ,M.rks]) ?_
 rw[oZ]
 show (e1 aDj _ [some (.v (.lst (nats rk))),some (.v (.int S.length)),none]).bind _=_
 rw[a1];rfl
theorem aEy:iQ "Machine" "many" (mD S rk c) = .ok (.int S.length):=by unfold mD;rw[wI,aF rfl];rfl
theorem aJy:iQ "Machine" "letters" (mD S rk c) = .ok (.int c):=by unfold mD;rw[wI,aF rfl];rfl
theorem sY:iQ "Machine" "steps" (mD S rk c) = .ok (.lst (stD S)):=by unfold mD;rw[wI,aF rfl];rfl
end
end Pu
namespace Pu
section
theorem aWl(M:Mch S rk c):iB [.lst (stD S),.lst (nats rk)] = .ok (mD S rk c):=by
 obtain⟨r0,hr0,e0,l0⟩:=M.at0
 have h8:=M.most
 refine aWd fun x=>?_
 unfold aGv
 rw[aF (show ([D.lst (stD S),D.lst (nats rk)]:List D).length=2 from rfl)]
 have hs:=aT6 M
 have hk:=aT7 M
 have cp:=aH0 (E:=jB) (st:=[some (.o (.i x "Machine" []) []),some (.v (.lst (stD S))),some (.v (.lst (nats rk))),none]) (j:=3) (v:=1) (xs:=stD S) rfl (by rw[iT];omega) (fun d hd=>by
  obtain⟨r,hr,rfl⟩:=aDt hd
  simp[jB])
 have key:fG [some (.o (.i x "Machine" []) []),some (.v (.lst (stD S))),some (.v (.lst (nats rk))),none] = .ok (.nx [some (.o (.i x "Machine" ["steps", "ranks", "many", "letters"]) [.lst (stD S),.lst (nats rk),.int S.length,.int c]),some (.v (.lst (stD S))),some (.v (.lst (nats rk))),none]):=by
  unfold fG
  refine fX (by simp[hs]) (fX (by simp[iT,hk]) ?_)
  refine aW (st':=[some (.o (.i x "Machine" ["steps"]) [.lst (stD S)]),some (.v (.lst (stD S))),some (.v (.lst (nats rk))),none]) ?_ ?_
  ·rw[aSu,cp]
   simp
  refine aW (st':=[some (.o (.i x "Machine" ["steps", "ranks"]) [.lst (stD S),.lst (nats rk)]),some (.v (.lst (stD S))),some (.v (.lst (nats rk))),none]) (by simp) ?_
  refine aW (st':=[some (.o (.i x "Machine" ["steps", "ranks", "many"]) [.lst (stD S),.lst (nats rk),.int S.length]),some (.v (.lst (stD S))),some (.v (.lst (nats rk))),none]) (by simp[iT]) ?_
  simp[e0,aZ,l0]
 show (fG [some (.o (.i x "Machine" []) []),some (.v (.lst (stD S))),some (.v (.lst (nats rk))),none]).bind _=_
 rw[key]
 simp[mD]
end
end Pu
namespace Pu
theorem aCc(x:Nat)(l:List Nat):nats (x::l) = .int (x:Nat)::nats l:=rfl
theorem fH:∀ l:List Nat,eV (nats l)=true/\fP (nats l)=0/\gA (nats l) (nats l)=true
 | []=>⟨rfl,by unfold nats;simp,by unfold nats;simp[gA]⟩
 | x::l=>by
  obtain⟨h1,h2,h3⟩:=fH l
  rw[aCc]
  refine⟨by simp[h1],by simp[h2],?_⟩
  unfold gA
  rw[h3]
  simp
end Pu
namespace Pu
section
variable{S:List (List Nat)}{rk:List Nat}{c:Nat}
def stp(S:List (List Nat))(q a:Nat):Nat:=(S.getD q []).getD a 0
theorem aM7(M:Mch S rk c){q a:Nat}(hq:q<S.length)(ha:a<c):∃ r,atI (stD S) (q:Int)=some (.lst (nats r))/\atI (nats r) (a:Int)=some (.int (stp S q a))/\stp S q a<S.length:=by
 have hr:=M.row S[q] (List.getElem_mem hq)
 have ha':a<S[q].length:=by rw[hr.1];exact ha
 have e:stp S q a=S[q][a]:=by
  simp[stp,getD_eq_getElem?_getD,List.getElem?_eq_getElem hq,List.getElem?_eq_getElem ha']
 refine⟨S[q],?_,?_,?_⟩
 ·rw[atI_nat (by rw[iT];exact hq)];simp[stD]
 ·rw[atI_nat (by rw[aZ];exact ha'),e];simp[nats]
 ·rw[e];exact hr.2 _ (List.getElem_mem ha')
theorem aT8(h:m<=3){ch:Nat}(h1:97<=ch)(h2:(ch:Int)<97+m):jR [97,98,99] [ch] 0=some (ch-97):=by
 have:ch=97\/ch=98\/ch=99:=by omega
 rcases this with rfl | rfl | rfl<;>rfl
theorem aO7(M:Mch S rk c){q ch:Nat}(hq:q<S.length)(h1:97<=ch)(h2:(ch:Int)<97+c):∃ r,atI (stD S) (q:Int)=some (.lst (nats r))/\atI (nats r) (((ch-97:Nat)):Int)=some (.int (stp S q (ch-97)))/\stp S q (ch-97)<S.length:=aM7 M hq (by omega)
def runs(S:List (List Nat)):Nat->List Nat->List Nat
 | _,[]=>[]
 | q,ch::x=>stp S q (ch-97)::runs S (stp S q (ch-97)) x
def lE(S:List (List Nat)):Nat->List Nat->Nat
 | q,[]=>q
 | q,ch::x=>lE S (stp S q (ch-97)) x
end
theorem gG:∀ (n:Nat) (l:List Nat),l.Nodup->(∀ x∈l,x<n)->l.length<=n
 | 0,l,_,h=>by
  cases l with
  | nil=>exact Nat.le_refl _
  | cons x l=>exact absurd (h x mem_cons_self) (by omega)
 | n+1,l,nd,h=>by
  have ih:=gG n (l.erase n) (nd.erase n) fun x hx=>by
   have h1:=h x (List.mem_of_mem_erase hx)
   have h2:x≠n:=fun e=>((nd.mem_erase_iff).mp hx).1 e
   omega
  by_cases hm:n∈l
  ·rw[List.length_erase_of_mem hm]at ih;omega
  ·rw[List.erase_of_not_mem hm]at ih;omega
theorem yG(g:Nat)(l:List Nat):inD (.int g) (nats l)=decide (g∈l):=by
 unfold inD nats
 rw[List.any_map]
 by_cases h:g∈l
 ·rw[decide_eq_true h,List.any_eq_true]
  exact⟨g,h,by simp[eqD]⟩
 ·rw[decide_eq_false h,List.any_eq_false]
  intro x hx
  have : ¬ (x : Int) = (g : Int) := fun z => h (by have : x = g := by omega
                                                   rw[<-this];exact hx)
  simp[eqD,this]
theorem aCd{q:Nat}(hq:q<S.length):atI (stD S) (q:Int)=some (.lst (nats S[q])):=by
 rw[atI_nat (by rw[iT];exact hq)]
 unfold stD
 rw[List.getElem_map]
end Pu
namespace Pu
section
theorem aJz{m:String}    {r:Exs} {st:PSt} (hf:f st = .ok (mD S rk c)) (hr:r st = .ok xs) (hm:m ∉ ["steps", "ranks", "many", "letters"]):sH "Machine" m p dv f r st=p (mD S rk c::(xs++dv)):=by
 rw[aEh,hf,hr]
 exact aF ⟨rfl,hm⟩
theorem aEz(M:Mch S rk c)(a t:Option Sl)(ha:a=some (.v (mD S rk c))):∀ (x:List Nat) (q:Nat) (acc:List Nat) (l:Option Sl),q<S.length->Ltr c x->acc.length+x.length<=1000000->∃ l',forR (tgN 4) gF (x.map fun ch=>D.str [ch]) [a,some (.v (.int q)),t,some (.o .l (nats acc)),l] =
  .ok (.nx [a,some (.v (.int (lE S q x))),t,some (.o .l (nats (acc++runs S q x))),l'])
 | [],q,acc,l,_,_,_=>⟨l,by simp[lE,runs]⟩
 | ch::x,q,acc,l,h,hx,hl=>by
  rw[length_cons]at hl
  obtain⟨h1,h2⟩:=hx ch mem_cons_self
  obtain⟨r,e1,e2,h3⟩:=aO7 M h h1 h2
  obtain⟨l',e⟩:=aEz M a t ha x (stp S q (ch-97)) (acc++[stp S q (ch-97)]) (some (.v (.str [ch]))) h3 (fun z hz=>hx z (mem_cons_of_mem _ hz)) (by rw[length_append,length_singleton];omega)
  refine⟨l',?_⟩
  have f:=aT8 M.c3 h1 h2
  have en:nats (acc++[stp S q (ch-97)])=nats acc++[D.int (stp S q (ch-97))]:=by unfold nats;simp
  rw[en]at e
  rw[map_cons,mX,show runs S q (ch::x)=stp S q (ch-97)::runs S (stp S q (ch-97)) x from rfl,show acc++stp S q (ch-97)::runs S (stp S q (ch-97)) x=acc++[stp S q (ch-97)]++runs S (stp S q (ch-97)) x by simp,show lE S q (ch::x)=lE S (stp S q (ch-97)) x from rfl,<-e]
  subst ha
  simp[gF,sY,e1,f,e2,aZ,show acc.length<big from aEb (by omega)]
theorem aK0(M:Mch S rk c){q:Nat}(hq:q<S.length)(x:List Nat)(hx:Ltr c x)(hl:x.length<=500000):bG [mD S rk c,.int q,.str x] = .ok (.lst (nats (q::runs S q x))):=by
 obtain⟨l',e⟩:=aEz M _ (some (.v (.str x))) rfl x q [q] none hq hx (by simp;omega)
 refine cO rfl ?_
 have hb:dJ [some (.v (mD S rk c)),some (.v (.int q)),some (.v (.str x)),none,none] = .ok (.nx [some (.v (mD S rk c)),some (.v (.int (lE S q x))),some (.v (.str x)),some (.o .l (nats ([q]++runs S q x))),l']):=by
  unfold dJ
  refine aW (st':=[some (.v (mD S rk c)),some (.v (.int q)),some (.v (.str x)),some (.o .l (nats [q])),none]) (by simp[nats]) (aW (by
   simp[show x.length<=big from eU (by omega)]
   exact e) rfl)
 show aAs dJ 3 [some (.v (mD S rk c)),some (.v (.int q)),some (.v (.str x)),none,none]=_
 unfold aAs
 rw[hb]
 rfl
theorem atI_last{xs:List α}{a:α}(h:xs.getLast?=some a):atI xs (-1)=some a:=by
 have h0:xs≠[]:=fun z=>by rw[z]at h;cases h
 have hp:0<xs.length:=List.length_pos_iff.mpr h0
 rw[List.getLast?_eq_getElem?]at h
 unfold atI ixN
 rw[if_neg (by decide),if_pos (by omega)]
 show xs[((-1:Int)+(xs.length:Int)).toNat]?=some a
 rw[show ((-1:Int)+(xs.length:Int)).toNat=xs.length-1 by omega]
 exact h
theorem aQc{r:List Nat}{a:Nat}(h:r.getLast?=some a):(nats r).getLast?=some (.int a):=by
 unfold nats
 rw[List.getLast?_map,h]
 rfl
end
end Pu
namespace Pu
end Pu
namespace Pu
def cy(c:List Nat)(i:Nat):Nat:=c.getD (i%c.length) 0
def lt(b c:List Nat)(i:Nat):Nat:=if i<b.length then b.getD i 0 else cy c (i-b.length)
theorem bEg{c:List Nat}  (h:i<c.length):cy c i=c.getD i 0:=by unfold cy;rw[Nat.mod_eq_of_lt h]
theorem bAq(c:List Nat)(i:Nat):cy c (i+c.length)=cy c i:=by unfold cy;rw[Nat.add_mod_right]
end Pu
namespace Pu
theorem sIx_none(n d:Nat):sIx n d none=d:=rfl
theorem sIx_nat(n d k:Nat):sIx n d (some (k:Int))=min k n:=by
 show (if (k:Int)<0 then ((k:Int)+n).toNat else min (k:Int).toNat n)=_
 rw[if_neg (by omega),toNat_natCast]
theorem bAr(x:List α)(n:Nat):cut x none (some (n:Int))=x.take n:=by
 unfold cut
 rw[sIx_none,sIx_nat,drop_zero,Nat.sub_zero]
 by_cases h:n<=x.length
 ·rw[Nat.min_eq_left h]
 ·rw[Nat.min_eq_right (by omega),take_length,List.take_of_length_le (by omega)]
theorem bAs(x:List α)(n:Nat)(h:n<=x.length):cut x (some (n:Int)) none=x.drop n:=by
 unfold cut
 rw[sIx_none,sIx_nat]
 rw[Nat.min_eq_left h,List.take_of_length_le (by rw[List.length_drop];omega)]
end Pu
namespace Pu
end Pu
namespace Pu
theorem aDu{b t:List Nat}{n:Nat}(h:b.length<=n):∀ k,lt b t (n+k*t.length)=lt b t n
 | 0=>by rw[Nat.zero_mul,Nat.add_zero]
 | k+1=>by
  rw[Nat.succ_mul,<-Nat.add_assoc,<-aDu h k]
  unfold lt
  rw[if_neg (by omega),if_neg (by omega),show n+k*t.length+t.length-b.length=n+k*t.length-b.length+t.length by omega,bAq]
theorem aM8{c:Int}{b t:List Nat}(hb:Ltr c b)(ht:Ltr c t)(h1:1<=t.length)(n:Nat):97<=lt b t n/\(lt b t n:Int)<97+c:=by
 have key:∀ (x:List Nat) (i:Nat),i<x.length->Ltr c x->97<=x.getD i 0/\(x.getD i 0:Int)<97+c:=fun x i h hx=>by
  have e:x.getD i 0=x[i]:=by rw[getD_eq_getElem?_getD,List.getElem?_eq_getElem h];rfl
  rw[e]
  exact hx _ (List.getElem_mem h)
 unfold lt
 split
 ·exact key _ _ (by assumption) hb
 ·exact key _ _ (mod_lt _ h1) ht
end Pu
namespace Pu
def fw(S:List (List Nat))(f:Nat->Nat)(q:Nat):Nat->Nat
 | 0=>q
 | n+1=>stp S (fw S f q n) (f n-97)
structure Lp(S:List (List Nat))(f:Nat->Nat)(q s e:Nat):Prop where
 lt:s<e
 per:∀ n,s<=n->f (n+(e-s))=f n
 eq:fw S f q s=fw S f q e
section
variable{f:Nat->Nat}{s e s2 e2:Nat}
theorem Lp.step(L:Lp S f q s e):∀ k,fw S f q (s+k+(e-s))=fw S f q (s+k)
 | 0=>by
  have:=L.lt
  rw[Nat.add_zero,show s+(e-s)=e by omega]
  exact L.eq.symm
 | k+1=>by
  have ih:=L.step k
  have h:=L.per (s+k) (by omega)
  rw[show s+(k+1)+(e-s)=(s+k+(e-s))+1 by omega,show s+(k+1)=(s+k)+1 by omega]
  show stp S (fw S f q (s+k+(e-s))) (f (s+k+(e-s))-97)=stp S (fw S f q (s+k)) (f (s+k)-97)
  rw[ih,h]
theorem Lp.at(L:Lp S f q s e)(n:Nat)(h:s<=n):fw S f q (n+(e-s))=fw S f q n:=by
 have:=L.step (n-s)
 rwa [show s+(n-s)=n by omega]at this
theorem Lp.mul(L:Lp S f q s e):∀ (k n:Nat),s<=n->fw S f q (n+k*(e-s))=fw S f q n
 | 0,n,_=>by rw[Nat.zero_mul,Nat.add_zero]
 | k+1,n,h=>by
  rw[Nat.succ_mul,<-Nat.add_assoc,L.at _ (by omega),L.mul k n h]
theorem Lp.into(L:Lp S f q s e)(n:Nat)(h:s<=n):∃ m,s<=m/\m<e/\fw S f q n=fw S f q m:=by
 have hl:=L.lt
 have h1:=mod_lt (n-s) (show 0<e-s by omega)
 refine⟨s+(n-s)%(e-s),by omega,by omega,?_⟩
 have:=L.mul ((n-s)/(e-s)) (s+(n-s)%(e-s)) (by omega)
 have hd:=Nat.mod_add_div (n-s) (e-s)
 rw[Nat.mul_comm]at hd
 rw[<-this]
 congr 1
 omega
theorem Lp.sub(L:Lp S f q s e)(L2:Lp S f q s2 e2)(n:Nat)(h:s<=n):∃ m,s2<=m/\m<e2/\fw S f q n=fw S f q m:=by
 have hl:=L.lt
 have h1:s2*1<=s2*(e-s):=Nat.mul_le_mul_left _ (by omega)
 obtain⟨m,a,b,c⟩:=L2.into (n+s2*(e-s)) (by omega)
 exact⟨m,a,b,by rw[<-c,L.mul s2 n h]⟩
end
def seg(S:List (List Nat))(f:Nat->Nat)(q s e:Nat):List Nat:=(List.range' s (e-s)).map (fw S f q)
theorem pD{f:Nat->Nat}{s e:Nat}:r∈seg S f q s e ↔ ∃ n,s<=n/\n<e/\fw S f q n=r:=by
 unfold seg
 rw[List.mem_map]
 constructor
 ·rintro⟨n,h,rfl⟩
  rw[List.mem_range'_1]at h
  exact⟨n,h.1,by omega,rfl⟩
 ·rintro⟨n,h1,h2,rfl⟩
  exact⟨n,List.mem_range'_1.mpr ⟨h1,by omega⟩,rfl⟩
def mx(rk l:List Nat):Int:=aDk (l.map fun r=>((rk.getD r 0:Nat):Int))
theorem aWm{l:List Int}(h:l≠[]):aDk l∈l/\∀ x∈l,x<=aDk l:=by
 cases l with
 | nil=>exact(h rfl).elim
 | cons i r =>
  obtain⟨h1,h2,h3⟩:=yF r i
  refine⟨?_,fun x hx=>?_⟩
  ·rcases h3 with h3 | h3
   ·show r.foldl _ i∈_;rw[h3];exact mem_cons_self
   ·exact mem_cons_of_mem _ h3
  ·rcases List.mem_cons.mp hx with rfl | hx
   ·exact h1
   ·exact h2 x hx
theorem aO8{l2:List Nat}(h0:l≠[])(h:∀ r,r∈l ↔ r∈l2):mx rk l=mx rk l2:=by
 have h2:l2≠[]:=fun z=>by
  cases l with
  | nil=>exact h0 rfl
  | cons a l=>have:=(h a).mp mem_cons_self;rw[z]at this;cases this
 obtain⟨a,b⟩:=aWm (l:=l2.map fun r=>((rk.getD r 0:Nat):Int)) (by simpa using h2)
 refine aI8 ?_ fun x hx=>?_
 ·obtain⟨r,h3,h4⟩:=List.mem_map.mp a
  rw[show mx rk l2=_ from rfl,mx,<-h4]
  exact List.mem_map.mpr ⟨r,(h r).mpr h3,rfl⟩
 ·obtain⟨r,h3,h4⟩:=List.mem_map.mp hx
  exact b x (List.mem_map.mpr ⟨r,(h r).mp h3,h4⟩)
def Ev(S:List (List Nat))(rk:List Nat)(f:Nat->Nat)(q:Nat)(v:Bool):Prop:=∃ s e,Lp S f q s e/\v=decide (mx rk (seg S f q s e)%2=0)
theorem aM9{f:Nat->Nat}{s e:Nat}(h:s<e):seg S f q s e≠[]:=fun z=>by
 have:fw S f q s∈seg S f q s e:=pD.mpr ⟨s,Nat.le_refl _,h,rfl⟩
 rw[z]at this;cases this
theorem Ev.alone{f:Nat->Nat}  {v v':Bool} (h:Ev S rk f q v) (h':Ev S rk f q v'):v=v':=by
 obtain⟨s,e,L,rfl⟩:=h
 obtain⟨s2,e2,L2,rfl⟩:=h'
 rw[aO8 (aM9 L.lt) fun r=>?_]
 rw[pD,pD]
 constructor
 ·rintro⟨n,h1,h2,rfl⟩
  obtain⟨m,a,b,c⟩:=L.sub L2 n h1
  exact⟨m,a,b,c.symm⟩
 ·rintro⟨n,h1,h2,rfl⟩
  obtain⟨m,a,b,c⟩:=L2.sub L n h1
  exact⟨m,a,b,c.symm⟩
theorem aCz:∀ (n:Nat) (l:List Nat),l.Nodup->(∀ x∈l,x<n)->l.length<=n
 | 0,l,_,h=>by
  cases l with
  | nil=>simp
  | cons a l=>exact absurd (h a mem_cons_self) (by omega)
 | n+1,l,nd,h=>by
  have h1:=aCz n (l.erase n) (nd.erase n) (fun x hx=>by
   have:=h x (List.mem_of_mem_erase hx)
   have hne:x≠n:=fun z=>by rw[z]at hx;exact(List.Nodup.not_mem_erase nd) hx
   omega)
  have h2:=List.length_erase (a:=n) (l:=l)
  split at h2<;>omega
theorem least{P:Nat->Prop}:∀ n,P n->∃ m,m<=n/\P m/\∀ k,k<m->¬ P k:=by
 intro n
 induction n using strongRecOn with
 | ind n ih =>
  intro h
  by_cases hx:∃ k,k<n/\P k
  ·obtain⟨k,hk,pk⟩:=hx
   obtain⟨m,a,b,c⟩:=ih k hk pk
   exact⟨m,by omega,b,c⟩
  ·exact⟨n,Nat.le_refl _,h,fun k hk pk=>hx ⟨k,hk,pk⟩⟩
theorem aD0(g:Nat->Nat)(n:Nat)(h:∀ i,g i<n):∃ J,J<=n/\(∃ i,i<J/\g i=g J)/\∀ j,j<J->∀ i,i<j->g i≠g j:=by
 have ex:∃ J,J<=n/\∃ i,i<J/\g i=g J:=by
  by_cases hx:∃ J,J<=n/\∃ i,i<J/\g i=g J
  ·exact hx
  ·have inj:∀ i j,i<j->j<=n->g i≠g j:=fun i j hi hj z=>hx ⟨j,hj,i,hi,z⟩
   have nd:((List.range (n+1)).map g).Nodup:=by
    rw[List.nodup_iff_pairwise_ne,List.pairwise_map]
    refine List.Pairwise.imp_of_mem ?_ (List.pairwise_lt_range)
    intro a b ha hb hab
    exact inj a b hab (by have:=List.mem_range.mp hb;omega)
   have:=aCz n _ nd (fun x hx=>by obtain⟨i,_,rfl⟩:=List.mem_map.mp hx;exact h i)
   simp at this
   omega
 obtain⟨J,hJ,hp⟩:=ex
 obtain⟨m,a,b,c⟩:=least (P:=fun J=>∃ i,i<J/\g i=g J) J hp
 exact⟨m,by omega,b,fun j hj i hi z=>c j hj ⟨i,hi,z⟩⟩
theorem aH4{C:Ex}{L:Bd}(st:Nat->PSt)(J:Nat)(hgo:∀ j,j<J->C (st j) = .ok (.bl true)/\L (st j) = .ok (.nx (st (j+1))))(hst:C (st J) = .ok (.bl false)):∀ (k fuel:Nat),k<=J->k<fuel->jQ C L fuel (st (J-k)) = .ok (.nx (st J))
 | 0,fuel,_,hf=>by
  obtain⟨m,rfl⟩:∃ m,fuel=m+1:=⟨fuel-1,by omega⟩
  rw[qI,Nat.sub_zero,hst]
  rfl
 | k+1,fuel,hk,hf=>by
  obtain⟨m,rfl⟩:∃ m,fuel=m+1:=⟨fuel-1,by omega⟩
  obtain⟨h1,h2⟩:=hgo (J-(k+1)) (by omega)
  have ih:=aH4 st J hgo hst k m (by omega) (by omega)
  rw[qI,h1]
  simp only[aM,rF,if_true,h2]
  rw[show J-(k+1)+1=J-k by omega]
  exact ih
end Pu
namespace Pu
section
variable    {f:Nat->Nat} 
theorem aO9{s:Nat}:seg S f q s s=[]:=by unfold seg;rw[Nat.sub_self];rfl
theorem aB8{s e:Nat}(h:s<e):seg S f q s e=fw S f q s::seg S f q (s+1) e:=by
 unfold seg
 rw[show e-s=(e-(s+1))+1 by omega,List.range'_succ,map_cons]
theorem aDv{s e:Nat}(h1:s<=m)(h2:m<=e):seg S f q s m++seg S f q m e=seg S f q s e:=by
 unfold seg
 have:=List.range'_append_1 (s:=s) (m:=m-s) (n:=e-m)
 rw[show s+(m-s)=m by omega,show m-s+(e-m)=e-s by omega]at this
 rw[<-List.map_append,this]
theorem aWn{s:Nat}:seg S f q s (s+1)=[fw S f q s]:=by rw[aB8 (by omega),aO9]
theorem aB9{s e:Nat}:(seg S f q s e).length=e-s:=by unfold seg;simp
theorem aK1{s e:Nat}(h:s<=e):seg S f q s (e+1)=seg S f q s e++[fw S f q e]:=by rw[<-aWn,aDv h (by omega)]
theorem aT9{s e:Nat}(h:s<=e):(seg S f q s (e+1)).getLast?=some (fw S f q e):=by rw[aK1 h,List.getLast?_append];rfl
theorem aF0:∀ (x:List Nat) (n:Nat),(∀ i,i<x.length->x.getD i 0=f (n+i))->runs S (fw S f q n) x=seg S f q (n+1) (n+1+x.length)
 | [],n,_=>by rw[length_nil,Nat.add_zero,aO9];rfl
 | ch::x,n,h=>by
  have h0:ch=f n:=by have:=h 0 (by simp);simpa using this
  have e:stp S (fw S f q n) (ch-97)=fw S f q (n+1):=by rw[h0];rfl
  rw[length_cons,aB8 (by omega),<-e,show n+1+(x.length+1)=n+1+1+x.length by omega,<-aF0 x (n+1) (fun i hi=>by
   have:=h (i+1) (by simp;omega)
   rw[show n+1+i=n+(i+1) by omega,<-this]
   simp),<-e]
  rfl
theorem aD1(M:Mch S rk c)(hf:∀ n,97<=f n/\(f n:Int)<97+c)(hq:q<S.length):∀ n,fw S f q n<S.length
 | 0=>hq
 | n+1=>by
  obtain⟨_,_,_,h⟩:=aO7 M (aD1 M hf hq n) (hf n).1 (hf n).2
  exact h
end
section
variable{K V:Nat->D}{g:Nat->Nat}(hK:∀ i j,eqK (K i) (K j)=decide (g i=g j))
include hK
theorem aWo(h:∀ i,i<j->g i≠g m):oM ((List.range j).map K) (K m)=false:=by
 unfold oM
 rw[List.any_map,List.any_eq_false]
 intro i hi
 have:=h i (List.mem_range.mp hi)
 simp[hK,this]
theorem aTa(h:i<j)(e:g i=g m):oM ((List.range j).map K) (K m)=true:=by
 unfold oM
 rw[List.any_map,List.any_eq_true]
 exact⟨i,List.mem_range.mpr h,by simp[hK,e]⟩
theorem aTb(h:i<j)(e:g i=g m)(hn:∀ a,a<i->g a≠g m):rB ((List.range j).map K) ((List.range j).map V) (K m)=some (V i):=by
 unfold rB
 rw[List.zip_map',List.find?_map]
 have:(List.range j).find? ((fun p:D × D=>eqK p.1 (K m)) ∘ fun a=>(K a,V a))=some i:=by
  rw[List.find?_range_eq_some]
  refine⟨by simp[hK,e],List.mem_range.mpr h,fun a ha=>?_⟩
  have:=hn a ha
  simp[hK,this]
 rw[this]
 rfl
end
theorem aK2(F:Nat->D)(j:Nat):(List.range j).map F++[F j]=(List.range (j+1)).map F:=by rw[List.range_succ,List.map_append];rfl
theorem aBa(a b:List Nat):nats a++nats b=nats (a++b):=by unfold nats;rw[List.map_append]
theorem aTc(a:α)(x:List α):cut (a::x) (some 1) none=x:=by
 have:=bAs (a::x) 1 (by simp)
 simpa using this
theorem aWp(x y:List α)(a:α)(n:Nat)(h:x.length=n):cut (x++y++[a]) (some (n:Int)) (some (-1))=y:=by
 subst h
 have l:(x++y++[a]).length=x.length+y.length+1:=by simp;omega
 unfold cut
 have e1:sIx (x++y++[a]).length 0 (some (x.length:Int))=x.length:=by
  rw[l];show (if ((x.length:Int)<0) then ((x.length:Int)+((x.length+y.length+1:Nat):Int)).toNat else min (x.length:Int).toNat (x.length+y.length+1))=_;rw[if_neg (by omega)];omega
 have e2:sIx (x++y++[a]).length (x++y++[a]).length (some (-1))=x.length+y.length:=by
  rw[l];unfold sIx;simp;omega
 rw[e1,e2,List.append_assoc,List.drop_left,show x.length+y.length-x.length=y.length by omega,List.take_left]
section
theorem aMa(M:Mch S rk c){b t:List Nat}(lb:Ltr c b)(l2:Ltr c t)(t1:1<=t.length)(tl:t.length<=10000)(bl:b.length<=10000):gZ [.tup [.str b,.str t],.int c] = .ok (.bl true):=by
 have h1:=M.c1
 have h3:=M.c3
 rw[aGh (.str b) (.str t) c true true (by rw[aEx b c (by omega) (by omega) (by omega),aEw.mpr lb]) (by rw[aEx t c (by omega) (by omega) (by omega),aEw.mpr l2]) rfl (by simp)]
 have:t≠[]:=fun z=>by rw[z]at t1;simp at t1
 simp[this]
theorem aH5(M:Mch S rk c){f:Nat->Nat}(hf:∀ n,97<=f n/\(f n:Int)<97+c)(hq:q<S.length)(x:List Nat)(hl:x.length<=10000)(hx:Ltr c x)(n:Nat)(h:∀ i,i<x.length->x.getD i 0=f (n+i)):bG [mD S rk c,.int (fw S f q n),.str x] = .ok (.lst (nats (seg S f q n (n+x.length+1)))):=by
 rw[aK0 M (aD1 M hf hq n) x hx (by omega),aF0 x n h,aB8 (s:=n) (by omega),show n+x.length+1=n+1+x.length by omega]
theorem aTd{b t:List Nat}  (h:i<b.length):b.getD i 0=lt b t (0+i):=by unfold lt;rw[Nat.zero_add,if_pos h]
theorem aTe{b t:List Nat}  (j:Nat) (h:i<t.length):t.getD i 0=lt b t (b.length+j*t.length+i):=by
 rw[show b.length+j*t.length+i=b.length+i+j*t.length by omega,aDu (by omega),<-bEg h]
 unfold lt
 rw[if_neg (by omega),show b.length+i-b.length=i by omega]
theorem aQd(M:Mch S rk c)(hq:q<S.length){b t:List Nat}(lb:Ltr c b)(l2:Ltr c t)(t1:1<=t.length)(tl:t.length<=10000)(bl:b.length<=10000):∃ i J,i<J/\J<=S.length/\fw S (lt b t) q (b.length+i*t.length)=fw S (lt b t) q (b.length+J*t.length)/\(∀ j,j<J->∀ i,i<j->fw S (lt b t) q (b.length+i*t.length)≠fw S (lt b t) q (b.length+j*t.length)) /\
  ∃ (rs0 rsJ ksJ vsJ:List D) (gJ:Nat),bG [mD S rk c,.int q,.str b] = .ok (.lst rs0) /\
   jQ jK nA 100000 [some (.v (mD S rk c)),some (.v (.tup [.str b,.str t])),some (.v (.int q)),some (.o .l rs0),some (.o (.d false []) []),none] = .ok (.nx [some (.v (mD S rk c)),some (.v (.tup [.str b,.str t])),some (.v (.int q)),some (.o .l rsJ),some (.o (.d false ksJ) vsJ),none]) /\
   atI rsJ (-1)=some (.int gJ)/\rB ksJ vsJ (.int gJ)=some (.int ((b.length+i*t.length:Nat):Int))/\cut rsJ none (some ((b.length+i*t.length:Nat):Int))=nats (seg S (lt b t) q 0 (b.length+i*t.length)) /\
   cut rsJ (some ((b.length+i*t.length:Nat):Int)) (some (-1))=nats (seg S (lt b t) q (b.length+i*t.length) (b.length+J*t.length)):=by
 have hf:=aM8 lb l2 t1
 have h8:=M.most
 generalize hg:(fun i=>fw S (lt b t) q (b.length+i*t.length))=g
 obtain⟨J,hJ,⟨i,hi,e⟩,hn⟩:=aD0 g S.length (fun i=>by rw[<-hg];exact aD1 M hf hq _)
 have hg':∀ i,fw S (lt b t) q (b.length+i*t.length)=g i:=fun i=>by rw[<-hg]
 refine⟨i,J,hi,hJ,by rw[hg',hg',e],fun j hj i hi=>by rw[hg',hg'];exact hn j hj i hi,?_⟩
 have hK:∀ i j,eqK (.int (g i)) (.int (g j))=decide (g i=g j):=fun i j=>by
  rw[Bool.eq_iff_iff];unfold eqK;simp;omega
 have hJt:J*t.length<=8*10000:=Nat.mul_le_mul (by omega) tl
 obtain⟨ks,hks⟩:∃ ks:Nat->List D,∀ j,ks j=(List.range j).map fun i=>D.int (g i):=⟨_,fun _=>rfl⟩
 obtain⟨vs,hvs⟩:∃ vs:Nat->List D,∀ j,vs j=(List.range j).map fun i=>D.int ((b.length+i*t.length:Nat):Int):=⟨_,fun _=>rfl⟩
 have hvl:∀ j,(vs j).length=j:=fun j=>by rw[hvs];simp
 obtain⟨rs,hrs⟩:∃ rs:Nat->List D,∀ j,rs j=nats (seg S (lt b t) q 0 (b.length+j*t.length+1)):=⟨_,fun _=>rfl⟩
 have hrl:∀ j,((rs j).length:Int)-1=((b.length+j*t.length:Nat):Int):=fun j=>by rw[hrs,aZ,aB9];omega
 have hlast:∀ j,atI (rs j) (-1)=some (.int (g j)):=fun j=>by
  rw[<-hg',hrs];exact atI_last (aQc (aT9 (by omega)))
 have hgo:∀ j,j<J->jK [some (.v (mD S rk c)),some (.v (.tup [.str b,.str t])),some (.v (.int q)),some (.o .l (rs j)),some (.o (.d false (ks j)) (vs j)),none] = .ok (.bl true)/\nA [some (.v (mD S rk c)),some (.v (.tup [.str b,.str t])),some (.v (.int q)),some (.o .l (rs j)),some (.o (.d false (ks j)) (vs j)),none] = .ok (.nx [some (.v (mD S rk c)),some (.v (.tup [.str b,.str t])),some (.v (.int q)),some (.o .l (rs (j+1))),some (.o (.d false (ks (j+1))) (vs (j+1))),none]):=fun j hj=>by
  have hno:=aWo (K:=fun i => .int (g i)) hK (j:=j) (m:=j) (fun i hi=>hn j hj i hi)
  have hjt:j*t.length<=8*10000:=Nat.le_trans (Nat.mul_le_mul_right _ (by omega)) hJt
  rw[<-hks]at hno
  have hl:e2 dIx (dR 3) (e1 aDi (eC (.int 1))) [some (.v (mD S rk c)),some (.v (.tup [.str b,.str t])),some (.v (.int q)),some (.o .l (rs j)),some (.o (.d false (ks j)) (vs j)),none] = .ok (.int (g j)):=aV rfl rfl (jU (hlast j))
  refine⟨aV hl rfl (by
   show aJ (keyOk false (.int (g j))=true) (R.ok (D.bl (!oM (ks j) (.int (g j)))))=_
   rw[aF (c:=keyOk false (.int (g j))=true) rfl,hno]
   rfl),?_⟩
  ·have hal:=aH5 M hf hq t tl l2 (b.length+j*t.length) (fun i hi=>aTe j hi)
   rw[hg']at hal
   have p1:pI (ks j) (.int (g j))=ks (j+1):=by
    unfold pI
    rw[if_neg (by rw[hno];decide),hks,hks]
    exact aK2 (fun i=>D.int (g i)) j
   have p2:sE (ks j) (vs j) (.int (g j)) (.int ((b.length+j*t.length:Nat):Int))=vs (j+1):=by
    unfold sE
    rw[if_neg (by rw[hno];decide),hvs,hvs]
    exact aK2 (fun i=>D.int ((b.length+i*t.length:Nat):Int)) j
   refine aW (st':=[some (.v (mD S rk c)),some (.v (.tup [.str b,.str t])),some (.v (.int q)),some (.o .l (rs j)),some (.o (.d false (ks (j+1))) (vs (j+1))),none]) ?_ ?_
   ·have hs:e2 aI6 (e1 fC (dR 3)) (eC (.int 1)) [some (.v (mD S rk c)),some (.v (.tup [.str b,.str t])),some (.v (.int q)),some (.o .l (rs j)),some (.o (.d false (ks j)) (vs j)),none] = .ok (.int ((b.length+j*t.length:Nat):Int)):=by
     rw[<-hrl j]
     exact aV rfl rfl rfl
    unfold sDPut
    rw[hs,aM,hl,aM,<-p1,<-p2]
    exact aF ⟨rfl,aEb (by rw[hvl];omega)⟩
   ·have hm:sH "Machine" "rooms_along" bG [] (aB 0) (aC (e2 dIx (dR 3) (e1 aDi (eC (.int 1)))) (aC (e2 dIx (aB 1) (eC (.int 1))) aX)) [some (.v (mD S rk c)),some (.v (.tup [.str b,.str t])),some (.v (.int q)),some (.o .l (rs j)),some (.o (.d false (ks (j+1))) (vs (j+1))),none] = .ok (.lst (nats (seg S (lt b t) q (b.length+j*t.length) (b.length+j*t.length+t.length+1)))):=by
     rw[aJz (xs:=[.int (g j),.str t]) rfl (bR (aV rfl rfl (jU (hlast j))) (bR (aV rfl rfl rfl) rfl)) (by decide)]
     exact hal
    have hc:cut (nats (seg S (lt b t) q (b.length+j*t.length) (b.length+j*t.length+t.length+1))) (some 1) none=nats (seg S (lt b t) q (b.length+j*t.length+1) (b.length+j*t.length+t.length+1)):=by
     rw[aB8 (by omega)];exact aTc _ _
    have hr1:rs (j+1)=rs j++nats (seg S (lt b t) q (b.length+j*t.length+1) (b.length+j*t.length+t.length+1)):=by
     rw[hrs,hrs,aBa,aDv (by omega) (by omega),show b.length+(j+1)*t.length+1=b.length+j*t.length+t.length+1 by rw[Nat.succ_mul];omega]
    have hlen:(rs j).length+(nats (seg S (lt b t) q (b.length+j*t.length+1) (b.length+j*t.length+t.length+1))).length<=big:=eU (by
     have:=hrl j
     rw[aZ,aB9]
     omega)
    rw[hr1]
    refine aT4 ?_ rfl hlen
    rw[bAc,hm,<-hc]
    rfl
 have hno:=aTa (K:=fun i => .int (g i)) hK hi e
 rw[<-hks]at hno
 have hget:=aTb (K:=fun i => .int (g i)) (V:=fun i=>D.int ((b.length+i*t.length:Nat):Int)) hK hi e (fun a ha=>by rw[<-e];exact hn i hi a ha)
 rw[<-hks,<-hvs]at hget
 have hij:i*t.length<=J*t.length:=Nat.mul_le_mul_right _ (by omega)
 obtain⟨n,hn0⟩:∃ n,n=b.length+i*t.length:=⟨_,rfl⟩
 rw[<-hn0]at hget ⊢
 have hstop:jK [some (.v (mD S rk c)),some (.v (.tup [.str b,.str t])),some (.v (.int q)),some (.o .l (rs J)),some (.o (.d false (ks J)) (vs J)),none] = .ok (.bl false):=by
  refine aV (aV rfl rfl (jU (hlast J))) rfl ?_
  show aJ (keyOk false (.int (g J))=true) (R.ok (D.bl (!oM (ks J) (.int (g J)))))=_
  rw[aF (c:=keyOk false (.int (g J))=true) rfl,hno]
  rfl
 have hw:=aH4 (fun j=>[some (.v (mD S rk c)),some (.v (.tup [.str b,.str t])),some (.v (.int q)),some (.o .l (rs j)),some (.o (.d false (ks j)) (vs j)),none]) J hgo hstop J 100000 (Nat.le_refl _) (by omega)
 rw[Nat.sub_self]at hw
 have h0:=aH5 M hf hq b bl lb 0 (fun i hi=>aTd hi)
 rw[Nat.zero_add]at h0
 have hr0:rs 0=nats (seg S (lt b t) q 0 (b.length+1)):=by rw[hrs,Nat.zero_mul,Nat.add_zero]
 rw[<-hr0]at h0
 have hk0:ks 0=[]:=by rw[hks];rfl
 have hv0:vs 0=[]:=by rw[hvs];rfl
 have c1:cut (rs J) none (some (n:Int))=nats (seg S (lt b t) q 0 (n)):=by
  rw[bAr,hrs,<-aDv (s:=0) (m:=n) (by omega) (by omega),<-aBa,List.take_left' (by rw[aZ,aB9];omega)]
 have c2:cut (rs J) (some (n:Int)) (some (-1))=nats (seg S (lt b t) q (n) (b.length+J*t.length)):=by
  rw[hrs,aK1 (by omega),<-aDv (s:=0) (m:=n) (by omega) (by omega),<-aBa,<-aBa]
  exact aWp _ _ _ _ (by rw[aZ,aB9];omega)
 refine⟨rs 0,rs J,ks J,vs J,g J,h0,?_,hlast J,hget,c1,c2⟩
 rw[hk0,hv0]at hw
 exact hw
end
end Pu
namespace Pu
section
theorem aA2{r:R α}{a:α}(h:r = .ok a):r.nox = .ok a:=by rw[h];rfl
theorem aK3{m:String}    {r:Exs} {st:PSt} {z:R D} (hf:f st = .ok (mD S rk c)) (hr:r st = .ok xs) (hm:m ∉ ["steps", "ranks", "many", "letters"]) (h:p (mD S rk c::(xs++dv))=z):wL "Machine" m p dv f r st=z:=by
 unfold wL
 rw[hf,hr]
 exact(aF ⟨rfl,hm⟩).trans h
theorem aWq(hq:q<S.length):dG [mD S rk c,.int q] = .ok .non:=by
 have hb:aP kO (aC (aB 1) (aC (e1 (iQ "Machine" "many") (aB 0)) (aX))) [some (.v (mD S rk c)),some (.v (.int q))] = .ok (.bl true):=aR (bR rfl (bR (aEy:iQ "Machine" "many" (mD S rk c)=_) rfl)) (aH2 hq)
 exact bAm rfl (rN (aA2 (rO hb)) rfl)
theorem aWr(M:Mch S rk c)(hq:q<S.length){b t:List Nat}(lb:Ltr c b)(l2:Ltr c t)(t1:1<=t.length)(tl:t.length<=10000)(bl:b.length<=10000):∃ i J,i<J/\J<=S.length/\fw S (lt b t) q (b.length+i*t.length)=fw S (lt b t) q (b.length+J*t.length)/\(∀ j,j<J->∀ i,i<j->fw S (lt b t) q (b.length+i*t.length)≠fw S (lt b t) q (b.length+j*t.length)) /\
  iZ [mD S rk c,.tup [.str b,.str t],.int q] = .ok (.tup [.lst (nats (seg S (lt b t) q 0 (b.length+i*t.length))),.lst (nats (seg S (lt b t) q (b.length+i*t.length) (b.length+J*t.length)))]):=by
 obtain⟨i,J,hi,hJ,e,hn,rs0,rsJ,ksJ,vsJ,gJ,h0,hw,hlast,hget,c1,c2⟩:=aQd M hq lb l2 t1 tl bl
 refine⟨i,J,hi,hJ,e,hn,?_⟩
 generalize b.length+i*t.length=n at hget c1 c2 ⊢
 have he:aP gZ (aC (aB 1) (aC (e1 (iQ "Machine" "letters") (aB 0)) (aX))) [some (.v (mD S rk c)),some (.v (.tup [.str b,.str t])),some (.v (.int q)),none,none,none] = .ok (.bl true):=aR (bR rfl (bR (aJy:iQ "Machine" "letters" (mD S rk c)=_) rfl)) (aMa M lb l2 t1 tl bl)
 have hm:sH "Machine" "rooms_along" bG [] (aB 0) (aC (aB 2) (aC (e2 dIx (aB 1) (eC (.int 0))) aX)) [some (.v (mD S rk c)),some (.v (.tup [.str b,.str t])),some (.v (.int q)),none,none,none] = .ok (.lst rs0):=by
  rw[aJz (xs:=[.int q,.str b]) rfl (bR rfl (bR (aV rfl rfl rfl) rfl)) (by decide)]
  exact h0
 have hx:aQa (wL "Machine" "check_room" dG [] (aB 0) (aC (aB 2) (aX))) [some (.v (mD S rk c)),some (.v (.tup [.str b,.str t])),some (.v (.int q)),none,none,none] = .ok (.nx [some (.v (mD S rk c)),some (.v (.tup [.str b,.str t])),some (.v (.int q)),none,none,none]):=by
  unfold aQa
  rw[aK3 rfl rfl (by decide) (aWq hq)]
  rfl
 refine cO rfl (fX hx (fX (rN (aA2 (rO he)) rfl) ?_))
 refine aW (st':=[some (.v (mD S rk c)),some (.v (.tup [.str b,.str t])),some (.v (.int q)),some (.o .l rs0),none,none]) (aA2 (uN hm)) ?_
 refine aW (st':=[some (.v (mD S rk c)),some (.v (.tup [.str b,.str t])),some (.v (.int q)),some (.o .l rs0),some (.o (.d false []) []),none]) rfl ?_
 refine aW (aA2 hw) ?_
 have hl:e2 dIx (dR 3) (e1 aDi (eC (.int 1))) [some (.v (mD S rk c)),some (.v (.tup [.str b,.str t])),some (.v (.int q)),some (.o .l rsJ),some (.o (.d false ksJ) vsJ),none] = .ok (.int gJ):=aV rfl rfl (jU hlast)
 have hg:e2 dIx (dR 4) (e2 dIx (dR 3) (e1 aDi (eC (.int 1)))) [some (.v (mD S rk c)),some (.v (.tup [.str b,.str t])),some (.v (.int q)),some (.o .l rsJ),some (.o (.d false ksJ) vsJ),none] = .ok (.int (n:Nat)):=aV rfl hl (by
  show aJ (keyOk false (.int gJ)=true) (ofO (rB ksJ vsJ (.int gJ)))=_
  rw[aF (c:=keyOk false (.int gJ)=true) rfl,hget]
  rfl)
 refine aW (st':=[some (.v (mD S rk c)),some (.v (.tup [.str b,.str t])),some (.v (.int q)),some (.o .l rsJ),some (.o (.d false ksJ) vsJ),some (.v (.int (n:Nat)))]) (aA2 (cG hg)) (aA2 (gC ?_))
 have s1:eSl (dR 3) aGt (yW (aB 5)) [some (.v (mD S rk c)),some (.v (.tup [.str b,.str t])),some (.v (.int q)),some (.o .l rsJ),some (.o (.d false ksJ) vsJ),some (.v (.int (n:Nat)))] = .ok (.lst (nats (seg S (lt b t) q 0 n))):=by rw[<-c1];rfl
 have s2:eSl (dR 3) (yW (aB 5)) (yW (e1 aDi (eC (.int 1)))) [some (.v (mD S rk c)),some (.v (.tup [.str b,.str t])),some (.v (.int q)),some (.o .l rsJ),some (.o (.d false ksJ) vsJ),some (.v (.int (n:Nat)))] = .ok (.lst (nats (seg S (lt b t) q n (b.length+J*t.length)))):=by rw[<-c2];rfl
 show R.bind (aC _ (aC _ aX) _) _=_
 rw[bR s1 (bR s2 rfl),aM]
 exact aF (eU (by show 2<=_;omega))
end
end Pu
namespace Pu
section
variable{S:List (List Nat)}{rk:List Nat}{c:Nat}{q:Nat}
theorem aQe:iQ "Machine" "ranks" (mD S rk c) = .ok (.lst (nats rk)):=by unfold mD;rw[wI,aF rfl];rfl
theorem bEh{r:Nat}(h:r<rk.length):atI (nats rk) (r:Int)=some (.int (rk.getD r 0)):=by
 rw[atI_nat (by rw[aZ];exact h)]
 simp[nats,getD_eq_getElem?_getD,List.getElem?_eq_getElem h]
def rkD(rk:List Nat):D->D
 | .int i => .int (rk.getD i.toNat 0)
 | d=>d
theorem bAt(l:List Nat):(nats l).map (rkD rk)=(l.map fun r=>((rk.getD r 0:Nat):Int)).map D.int:=by
 unfold nats
 rw[List.map_map,List.map_map]
 refine List.map_congr_left fun r _=>?_
 simp[rkD]
theorem bAu(h:l≠[]):aAr (.lst ((nats l).map (rkD rk))) = .ok (.int (mx rk l)):=by
 rw[bAt]
 unfold aAr
 simp only[mY,aM]
 rw[aF (by rw[length_map];exact List.length_pos_iff.mpr h)]
 rfl
theorem aOa{b t:List Nat}{J:Nat}(t1:1<=t.length)(hi:i<J)(e:fw S (lt b t) q (b.length+i*t.length)=fw S (lt b t) q (b.length+J*t.length)):Lp S (lt b t) q (b.length+i*t.length) (b.length+J*t.length):=by
 have h1:i*t.length+(J-i)*t.length=J*t.length:=by rw[<-Nat.add_mul];congr 1;omega
 have h2:1*1<=(J-i)*t.length:=Nat.mul_le_mul (by omega) t1
 refine⟨by omega,fun n hn=>?_,e⟩
 rw[show b.length+J*t.length-(b.length+i*t.length)=(J-i)*t.length by omega]
 exact aDu (by omega) _
end
end Pu
namespace Pu
section
theorem bAv{op:Op2}  {st:PSt} {x y z:D} (hf:f st = .ok x) (hg:g st = .ok y) (h:op x y = .ok z):e2X op f g st = .ok z:=by
 unfold e2X
 rw[hf,aM,hg]
 show (op x y).nox=_
 rw[h]
 rfl
theorem aWs(M:Mch S rk c)(hq:q<S.length){b t:List Nat}(lb:Ltr c b)(l2:Ltr c t)(t1:1<=t.length)(tl:t.length<=10000)(bl:b.length<=10000):∃ v,Ev S rk (lt b t) q v/\jA [mD S rk c,.tup [.str b,.str t],.int q] = .ok (.bl v):=by
 obtain⟨i,J,hi,hJ,e,_,hw⟩:=aWr M hq lb l2 t1 tl bl
 have L:=aOa t1 hi e
 have h8:=M.most
 have hJt:J*t.length<=8*10000:=Nat.mul_le_mul (by omega) tl
 have hlt:=aD1 M (aM8 lb l2 t1) hq
 have hlen:(seg S (lt b t) q (b.length+i*t.length) (b.length+J*t.length)).length<=1000000:=by rw[aB9];omega
 have hin:∀ r∈seg S (lt b t) q (b.length+i*t.length) (b.length+J*t.length),r<rk.length:=fun r hr=>by
  obtain⟨n,_,_,rfl⟩:=pD.mp hr
  rw[M.rks]
  exact hlt n
 have hne:=aM9 (S:=S) (f:=lt b t) (q:=q) L.lt
 refine⟨decide (mx rk (seg S (lt b t) q (b.length+i*t.length) (b.length+J*t.length))%2=0),⟨_,_,L,rfl⟩,?_⟩
 generalize seg S (lt b t) q (b.length+i*t.length) (b.length+J*t.length)=l at hw hlen hin hne
 have hm:e1 aAr (cR [4] (tgN 4) (itE (aB 3)) fD nC) [some (.v (mD S rk c)),some (.v (.tup [.str b,.str t])),some (.v (.int q)),some (.v (.lst (nats l))),none] = .ok (.int (mx rk l)):=by
  show R.bind (cR [4] (tgN 4) (itE (aB 3)) fD nC [some (.v (mD S rk c)),some (.v (.tup [.str b,.str t])),some (.v (.int q)),some (.v (.lst (nats l))),none]) _=_
  rw[jZ (sX rfl) (by rw[aZ];exact hlen) (sW (rkD rk) _ fun d hd=>by
   obtain⟨r,hr,rfl⟩:=aB7 hd
   exact⟨_,rfl,rfl,aV (aQe:iQ "Machine" "ranks" (mD S rk c)=_) rfl (jU (bEh (hin r hr)))⟩),aM]
  exact bAu hne
 exact cO rfl (aW (st':=[some (.v (mD S rk c)),some (.v (.tup [.str b,.str t])),some (.v (.int q)),some (.v (.lst (nats l))),none]) (cG (bAv (aK3 rfl rfl (by decide) hw) rfl rfl)) (aA2 (gC (aV (aV hm rfl (xJ (by decide))) rfl (xK _ _)))))
end
end Pu
namespace Pu
def slB(u v:List Nat):Prop:=u.length<v.length\/(u.length=v.length/\u<v)
theorem aTf:∀ {u v:List Nat} (a b:Nat),u.length=v.length->u<v->u++[a] < v++[b]
 | [],[],_,_,_,h=>absurd h (List.lt_irrefl _)
 | [],_::_,_,_,h,_=>by simp at h
 | _::_,[],_,_,h,_=>by simp at h
 | x::u,y::v,a,b,h,h2=>by
  rw[cons_append,cons_append,List.cons_lt_cons_iff]
  rcases List.cons_lt_cons_iff.mp h2 with h3 | ⟨h3,h4⟩
  ·exact .inl h3
  ·exact .inr ⟨h3,aTf a b (by simpa using h) h4⟩
theorem aOb:∀ (u:List Nat) {a b:Nat},a<b->u++[a] < u++[b]
 | [],a,b,h=>by
  show [a] < [b]
  rw[List.cons_lt_cons_iff]
  exact .inl h
 | x::u,a,b,h=>by
  rw[cons_append,cons_append,List.cons_lt_cons_iff]
  exact .inr ⟨rfl,aOb u h⟩
theorem aOc{u v:List Nat}(a b:Nat)(h:slB u v):slB (u++[a]) (v++[b]):=by
 rcases h with h | ⟨h1,h2⟩
 ·exact .inl (by rw[length_append,length_append];simpa using h)
 ·exact .inr ⟨by rw[length_append,length_append,h1];rfl,aTf a b h1 h2⟩
theorem aTg(u:List Nat){a b:Nat}(h:a<b):slB (u++[a]) (u++[b]) := .inr ⟨by simp,aOb u h⟩
theorem aWt(u:List Nat)(a:Nat):slB [] (u++[a]) := .inl (by simp)
theorem yH(S:List (List Nat)):∀ (x:List Nat) (q ch:Nat),lE S q (x++[ch])=stp S (lE S q x) (ch-97)
 | [],_,_=>rfl
 | y::x,q,ch=>yH S x _ ch
def bst(al:Nat->Bool)(acc:List (Nat × List Nat))(g:Nat)(w:List Nat):List (Nat × List Nat):=if al g=true/\g ∉ acc.map (·.1) then acc++[(g,w)] else acc
structure BM(S:List (List Nat))(s c:Nat)(al:Nat->Bool)(p j:Nat)(acc:List (Nat × List Nat)):Prop where
 nd:(acc.map (·.1)).Nodup
 hd:acc[0]?=some (s,[])
 lt:∀ x∈acc,x.1<S.length/\lE S s x.2=x.1/\Ltr c x.2
 par:∀ (k:Nat) (x:Nat × List Nat),acc[k]?=some x->1<=k->al x.1=true/\∃ q y ch,acc[q]?=some y/\x.2=y.2++[ch]/\(q<p\/(q=p/\ch<97+j))
 ord:∀ (i k:Nat) (x y:Nat × List Nat),acc[i]?=some x->acc[k]?=some y->i<k->slB x.2 y.2
 cls:∀ (i:Nat) (x:Nat × List Nat) (l:Nat),acc[i]?=some x->l<c->(i<p\/(i=p/\l<j))->al (stp S x.1 l)=true->∃ y∈acc,y.1=stp S x.1 l/\(y.2=x.2++[97+l]\/slB y.2 (x.2++[97+l]))
section
variable{S:List (List Nat)}{rk:List Nat}{s c p j:Nat}{al:Nat->Bool}{acc:List (Nat × List Nat)}
theorem BM.start(hs:s<S.length):BM S s c al 0 0 [(s,[])] where
 nd:=by simp
 hd:=rfl
 lt:=fun x hx=>by rw[List.mem_singleton.mp hx];exact⟨hs,rfl,fun _ h=>nomatch h⟩
 par:=fun k x e h=>by
  have:k<1:=(List.getElem?_eq_some_iff.mp e).1
  omega
 ord:=fun i k x y e1 e2 h=>by
  have:k<1:=(List.getElem?_eq_some_iff.mp e2).1
  omega
 cls:=fun i x l _ _ h=>by omega
theorem BM.next(b:BM S s c al p c acc):BM S s c al (p+1) 0 acc where
 nd:=b.nd
 hd:=b.hd
 lt:=b.lt
 par:=fun k x e h=>by
  obtain⟨h0,q,y,ch,h1,h2,h3⟩:=b.par k x e h
  exact⟨h0,q,y,ch,h1,h2,.inl (by omega)⟩
 ord:=b.ord
 cls:=fun i x l e hl h ha=>b.cls i x l e hl (by omega) ha
theorem BM.below(b:BM S s c al p j acc){x y:Nat × List Nat}{k:Nat}(hx:acc[p]?=some x)(hy:acc[k]?=some y):slB y.2 (x.2++[97+j]):=by
 by_cases hk:k=0
 ·subst hk
  rw[b.hd]at hy
  cases hy
  exact aWt _ _
 ·obtain⟨_,q,z,ch,h1,h2,h3⟩:=b.par k y hy (by omega)
  rw[h2]
  rcases h3 with h3 | ⟨rfl,h3⟩
  ·exact aOc _ _ (b.ord q p z x h1 hx h3)
  ·rw[hx]at h1
   cases h1
   exact aTg _ h3
theorem BM.turn(M:Mch S rk c)(b:BM S s c al p j acc){x:Nat × List Nat}(hx:acc[p]?=some x)(hj:j<c):BM S s c al p (j+1) (bst al acc (stp S x.1 j) (x.2++[97+j])):=by
 have hxm:x∈acc:=List.mem_of_getElem? hx
 obtain⟨x1,x2,x3⟩:=b.lt x hxm
 have hg:stp S x.1 j<S.length:=by obtain⟨_,_,_,h⟩:=aM7 M x1 hj;exact h
 unfold bst
 by_cases hc:al (stp S x.1 j)=true/\stp S x.1 j ∉ acc.map (·.1)
 ·rw[if_pos hc]
  have old:∀ {k:Nat} {y:Nat × List Nat},acc[k]?=some y->(acc++[(stp S x.1 j,x.2++[97+j])])[k]?=some y:=fun {k y} e=>by
   rw[List.getElem?_append_left (List.getElem?_eq_some_iff.mp e).1];exact e
  have inv:∀ {k:Nat} {y:Nat × List Nat},(acc++[(stp S x.1 j,x.2++[97+j])])[k]?=some y->acc[k]?=some y\/(k=acc.length/\y=(stp S x.1 j,x.2++[97+j])):=fun {k y} e=>by
   by_cases hk:k<acc.length
   ·rw[List.getElem?_append_left hk]at e;exact .inl e
   ·have hlt:=(List.getElem?_eq_some_iff.mp e).1
    rw[length_append,length_singleton]at hlt
    have:k=acc.length:=by omega
    subst this
    rw[List.getElem?_append_right (Nat.le_refl _),Nat.sub_self]at e
    simp at e
    exact .inr ⟨rfl,e.symm⟩
  have lt_of:∀ {k:Nat} {y:Nat × List Nat},acc[k]?=some y->k<acc.length:=fun e=>(List.getElem?_eq_some_iff.mp e).1
  refine⟨?_,old b.hd,fun y hy=>?_,fun k y e h=>?_,fun i k y z e1 e2 h=>?_,fun i y l e hl h ha=>?_⟩
  ·rw[List.map_append,List.nodup_append]
   refine⟨b.nd,by simp,fun a ha b' hb=>?_⟩
   rw[List.map_singleton,List.mem_singleton]at hb
   rw[hb]
   show a≠stp S x.1 j
   exact fun z=>hc.2 (by rw[<-z];exact ha)
  ·rcases List.mem_append.mp hy with hy | hy
   ·exact b.lt y hy
   ·rw[List.mem_singleton.mp hy]
    refine⟨hg,?_,fun ch hch=>?_⟩
    ·show lE S s (x.2++[97+j])=_
     rw[yH,x2,show 97+j-97=j by omega]
    ·rcases List.mem_append.mp hch with h | h
     ·exact x3 ch h
     ·rw[List.mem_singleton.mp h]
      constructor<;>omega
  ·rcases inv e with e | ⟨rfl,rfl⟩
   ·obtain⟨h0,q,z,ch,h1,h2,h3⟩:=b.par k y e h
    exact⟨h0,q,z,ch,old h1,h2,h3.imp id fun h=>⟨h.1,by omega⟩⟩
   ·exact⟨hc.1,p,x,97+j,old hx,rfl,.inr ⟨rfl,by omega⟩⟩
  ·rcases inv e2 with e2 | ⟨rfl,rfl⟩
   ·rcases inv e1 with e1 | ⟨rfl,_⟩
    ·exact b.ord i k y z e1 e2 h
    ·have:=lt_of e2
     omega
   ·rcases inv e1 with e1 | ⟨rfl,_⟩
    ·exact b.below hx e1
    ·omega
  ·rcases inv e with e' | ⟨rfl,rfl⟩
   ·by_cases hip:i=p/\l=j
    ·obtain⟨rfl,rfl⟩:=hip
     rw[hx]at e'
     cases e'
     exact⟨_,List.mem_append_right _ (List.mem_singleton.mpr rfl),rfl,.inl rfl⟩
    ·obtain⟨z,h1,h2⟩:=b.cls i y l e' hl (by omega) ha
     exact⟨z,List.mem_append_left _ h1,h2⟩
   ·have:=lt_of hx
    omega
 ·rw[if_neg hc]
  refine⟨b.nd,b.hd,b.lt,fun k y e h=>?_,b.ord,fun i y l e hl h ha=>?_⟩
  ·obtain⟨h0,q,z,ch,h1,h2,h3⟩:=b.par k y e h
   exact⟨h0,q,z,ch,h1,h2,h3.imp id fun h=>⟨h.1,by omega⟩⟩
  ·by_cases hip:i=p/\l=j
   ·obtain⟨rfl,rfl⟩:=hip
    rw[hx]at e
    cases e
    have hm:stp S x.1 l∈acc.map (·.1):=Classical.byContradiction fun z=>hc ⟨ha,z⟩
    obtain⟨y,hy,ey⟩:=List.mem_map.mp hm
    obtain⟨k,hk⟩:=List.mem_iff_getElem?.mp hy
    exact⟨y,hy,ey,.inr (b.below hx hk)⟩
   ·exact b.cls i y l e hl (by omega) ha
theorem BM.len(b:BM S s c al p j acc):acc.length<=S.length:=by
 have h:=b.nd
 have hsub:∀ x∈acc.map (·.1),x∈List.range S.length:=fun x hx=>by
  obtain⟨y,hy,rfl⟩:=List.mem_map.mp hx
  exact List.mem_range.mpr (b.lt y hy).1
 have:=gG S.length (acc.map (·.1)) h fun x hx=>List.mem_range.mp (hsub x hx)
 rwa [length_map]at this
def kD(acc:List (Nat × List Nat)):List D:=acc.map fun x=>D.int (x.1:Nat)
theorem aF1(acc:List (Nat × List Nat)):(kD acc).length=acc.length:=by unfold kD;simp
theorem aMb(acc:List (Nat × List Nat))(g:Nat)(w:List Nat):kD (acc++[(g,w)])=kD acc++[.int g]:=by unfold kD;simp
theorem aYx{k:Nat}{x:Nat × List Nat}(h:acc[k]?=some x):atI (kD acc) (k:Int)=some (.int x.1):=by
 have hk:=(List.getElem?_eq_some_iff.mp h).1
 rw[atI_nat (by rw[aF1];exact hk)]
 unfold kD
 rw[List.getElem_map,(List.getElem?_eq_some_iff.mp h).2]
theorem aTh{g:Nat}{w:List Nat}{k:Nat}{x:Nat × List Nat}(h:acc[k]?=some x):(bst al acc g w)[k]?=some x:=by
 unfold bst
 split
 ·rw[List.getElem?_append_left (List.getElem?_eq_some_iff.mp h).1];exact h
 ·exact h
theorem aMc(g:Nat)(acc:List (Nat × List Nat)):oM (kD acc) (.int g)=decide (g∈acc.map (·.1)):=by
 unfold oM kD
 rw[List.any_map]
 by_cases h:g∈acc.map (·.1)
 ·rw[decide_eq_true h,List.any_eq_true]
  obtain⟨x,hx,e⟩:=List.mem_map.mp h
  exact⟨x,hx,by simp[eqK,e]⟩
 ·rw[decide_eq_false h,List.any_eq_false]
  intro x hx
  have:¬ (x.1:Int)=(g:Int):=fun z=>h (List.mem_map.mpr ⟨x,hx,by omega⟩)
  simp[eqK,this]
theorem aOd(acc:List (Nat × List Nat)):kD acc=nats (acc.map (·.1)):=by
 unfold kD nats
 rw[List.map_map]
 rfl
end
end Pu
namespace Pu
def wD(acc:List (Nat × List Nat)):List D:=acc.map fun x=>D.str x.2
theorem aTi(nd:(acc.map (·.1)).Nodup){x:Nat × List Nat}(hx:x∈acc):rB (kD acc) (wD acc) (.int x.1)=some (.str x.2):=by
 unfold rB kD wD
 rw[List.zip_map',List.find?_map]
 have:acc.find? ((fun p:D × D=>eqK p.1 (.int x.1)) ∘ fun a=>(D.int (a.1:Nat),D.str a.2))=some x:=by
  induction acc with
  | nil=>cases hx
  | cons y acc ih =>
   rw[List.find?_cons]
   rw[map_cons,List.nodup_cons]at nd
   rcases List.mem_cons.mp hx with rfl | hx
   ·simp[eqK]
   ·have:¬ (y.1:Int)=(x.1:Int):=fun z=>nd.1 (List.mem_map.mpr ⟨x,hx,by omega⟩)
    simp only[Function.comp,eqK,beq_eq_false_iff_ne.mpr this]
    exact ih nd.2 hx
 rw[this]
 rfl
section
variable{S:List (List Nat)}{rk:List Nat}{s c p j:Nat}{al:Nat->Bool}{acc:List (Nat × List Nat)}
theorem BM.wlen(b:BM S s c al p j acc):∀ (k:Nat) (x:Nat × List Nat),acc[k]?=some x->x.2.length<=k:=by
 intro k
 induction k using strongRecOn with
 | ind k ih =>
  intro x hx
  by_cases hk:k=0
  ·subst hk
   rw[b.hd]at hx
   cases hx
   exact Nat.le_refl _
  ·obtain⟨_,q,y,ch,h1,h2,_⟩:=b.par k x hx (by omega)
   have hl:x.2.length=y.2.length+1:=by rw[h2];simp
   have hq:q<k:=by
    rcases Nat.lt_trichotomy q k with h | h | h
    ·exact h
    ·subst h
     rw[hx]at h1
     cases h1
     omega
    ·rcases b.ord k q x y hx h1 h with h3 | ⟨h3,_⟩ <;> omega
   have:=ih q hq y h1
   omega
def wst(S:List (List Nat))(s:Nat)(als:List Nat)(acc:List (Nat × List Nat))(p:Nat)(x6 x7 x8:Option Sl):PSt :=
 [some (.v (.lst (stD S))),some (.v (.int s)),some (.v (.lst (nats als))),some (.o (.d false (kD acc)) (wD acc)),some (.o .l (kD acc)),some (.v (.int p)),x6,x7,x8]
theorem bAw(acc:List (Nat × List Nat)):(wD acc).length=acc.length:=by unfold wD;simp
theorem bAx(acc:List (Nat × List Nat))(g:Nat)(w:List Nat):wD (acc++[(g,w)])=wD acc++[.str w]:=by unfold wD;simp
theorem aQf(M:Mch S rk c)(als:List Nat)(b:BM S s c (fun g=>decide (g∈als)) p j acc){x:Nat × List Nat}(hx:acc[p]?=some x)(ch g:Nat) :
  nO (wst S s als acc p (some (.v (.int x.1))) (some (.v (.str [ch]))) (some (.v (.int g)))) = .ok (.nx (wst S s als (bst (fun g=>decide (g∈als)) acc g (x.2++[ch])) p (some (.v (.int x.1))) (some (.v (.str [ch]))) (some (.v (.int g))))):=by
 have n8:=M.most
 have hlen:=b.len
 have hw:=b.wlen p x hx
 have hp:p<acc.length:=(List.getElem?_eq_some_iff.mp hx).1
 obtain⟨p1,p2,_⟩:=fH als
 have t1:e2 dIn (aB 8) (aB 2) (wst S s als acc p (some (.v (.int x.1))) (some (.v (.str [ch]))) (some (.v (.int g)))) = .ok (.bl (decide (g∈als))):=aV rfl rfl (by rw[<-yG];exact aF ⟨by rw[p2];decide,rfl,p1⟩)
 have t2:e2 mW (aB 8) (dR 3) (wst S s als acc p (some (.v (.int x.1))) (some (.v (.str [ch]))) (some (.v (.int g)))) = .ok (.bl (!decide (g∈acc.map (·.1)))):=aV rfl rfl (by rw[<-aMc];exact aF rfl)
 have t:=xH t1 fun _=>t2
 unfold bst
 by_cases h:decide (g∈als)=true/\g ∉ acc.map (·.1)
 ·rw[if_pos h]
  rw[h.1,decide_eq_false h.2]at t
  have hk:oM (kD acc) (.int g)=false:=by rw[aMc,decide_eq_false h.2]
  have ek:pI (kD acc) (.int g)=kD (acc++[(g,x.2++[ch])]):=by
   unfold pI
   rw[hk,aMb]
   rfl
  have ev:sE (kD acc) (wD acc) (.int g) (.str (x.2++[ch]))=wD (acc++[(g,x.2++[ch])]):=by
   unfold sE
   rw[hk,bAx]
   rfl
  refine aB5 t (aW (st':=[some (.v (.lst (stD S))),some (.v (.int s)),some (.v (.lst (nats als))),some (.o (.d false (kD (acc++[(g,x.2++[ch])]))) (wD (acc++[(g,x.2++[ch])]))),some (.o .l (kD acc)),some (.v (.int p)),some (.v (.int x.1)),some (.v (.str [ch])),some (.v (.int g))]) ?_ ?_)
  ·have e:e2 mV (e2 dIx (dR 3) (aB 6)) (aB 7) (wst S s als acc p (some (.v (.int x.1))) (some (.v (.str [ch]))) (some (.v (.int g)))) = .ok (.str (x.2++[ch])):=by
    refine aV (x := .str x.2) (y := .str [ch]) (aV rfl rfl ?_) rfl (aF (eU (by show x.2.length+1<=_;omega)))
    show aJ (keyOk false (.int x.1)=true) (ofO (rB (kD acc) (wD acc) (.int x.1)))=_
    rw[aF (c:=keyOk false (.int x.1)=true) rfl,aTi b.nd (List.mem_of_getElem? hx)]
    rfl
   unfold sDPut
   rw[e,<-ek,<-ev]
   exact aF ⟨rfl,aEb (by rw[bAw];omega)⟩
  ·rw[aEv (xs:=kD acc) (d := .int g) rfl rfl (by rw[aF1];omega),<-aMb acc g (x.2++[ch])]
   rfl
 ·rw[if_neg h]
  refine rN (pQ t ?_) rfl
  cases h1:decide (g∈als) with
  | false=>rfl
  | true=>rw[decide_eq_true (Classical.byContradiction fun z=>h ⟨h1,z⟩)];rfl
theorem aF2(M:Mch S rk c)(als:List Nat):∀ (m j:Nat) (acc:List (Nat × List Nat)) (x7 x8:Option Sl) (x:Nat × List Nat),j+m=c->BM S s c (fun g=>decide (g∈als)) p j acc->acc[p]?=some x ->
  ∃ acc' x7' x8',forR (tgT [7,8]) nO ((List.range' j m).map fun l=>D.tup [.str [97+l],.int (stp S x.1 l)]) (wst S s als acc p (some (.v (.int x.1))) x7 x8) = .ok (.nx (wst S s als acc' p (some (.v (.int x.1))) x7' x8'))/\BM S s c (fun g=>decide (g∈als)) p c acc'/\acc'[p]?=some x
 | 0,j,acc,x7,x8,x,hj,b,hx=>⟨acc,x7,x8,rfl,by rw[show c=j by omega]at b ⊢; exact b,hx⟩
 | m+1,j,acc,x7,x8,x,hj,b,hx=>by
  obtain⟨acc',x7',x8',e,b',hx'⟩:=aF2 M als m (j+1) _ (some (.v (.str [97+j]))) (some (.v (.int (stp S x.1 j)))) x (by omega) (b.turn M hx (by omega)) (aTh hx)
  refine⟨acc',x7',x8',?_,b',hx'⟩
  rw[List.range'_succ,map_cons,mX]
  show (nO (wst S s als acc p (some (.v (.int x.1))) (some (.v (.str [97+j]))) (some (.v (.int (stp S x.1 j)))))).bind _=_
  rw[aQf M als b hx]
  exact e
theorem aWu(M:Mch S rk c){h:Nat}(hh:h<S.length):aAt [97,98,99] (nats S[h])=(List.range' 0 c).map fun l=>D.tup [.str [97+l],.int (stp S h l)]:=by
 have hr:=(M.row S[h] (List.getElem_mem hh)).1
 have e:∀ l,stp S h l=S[h].getD l 0:=fun l=>by simp[stp,getD_eq_getElem?_getD,List.getElem?_eq_getElem hh]
 have h1:=M.c1
 have h3:=M.c3
 simp only[e]
 generalize S[h]=r at hr
 match r,hr with
 | [],hr=>simp at hr;omega
 | [a],hr=>subst hr;rfl
 | [a,b],hr=>subst hr;rfl
 | [a,b,d],hr=>subst hr;rfl
 | _::_::_::_::r,hr=>simp at hr;omega
theorem aF3(M:Mch S rk c)(als:List Nat):∀ (m p:Nat) (acc:List (Nat × List Nat)) (x6 x7 x8:Option Sl) (f:Nat),S.length+1<=m+p->m<=f->BM S s c (fun g=>decide (g∈als)) p 0 acc->p<=acc.length ->
  ∃ acc' x6' x7' x8',jQ rH yZ f (wst S s als acc p x6 x7 x8) = .ok (.nx (wst S s als acc' acc'.length x6' x7' x8'))/\BM S s c (fun g=>decide (g∈als)) acc'.length 0 acc'
 | 0,p,acc,x6,x7,x8,f,hm,hf,b,hp=>by have:=b.len;omega
 | m+1,p,acc,x6,x7,x8,f,hm,hf,b,hp=>by
  obtain⟨f,rfl⟩:∃ g,f=g+1:=⟨f-1,by omega⟩
  have test:rH (wst S s als acc p x6 x7 x8) = .ok (.bl (decide ((p:Int)<((kD acc).length:Nat)))):=aV rfl rfl rfl
  rw[aF1]at test
  by_cases h:p<acc.length
  ·have hx:acc[p]?=some acc[p]:=List.getElem?_eq_getElem h
   generalize acc[p]=x at hx
   obtain⟨l1,_,_⟩:=b.lt x (List.mem_of_getElem? hx)
   obtain⟨acc',x7',x8',e,b',hx'⟩:=aF2 M als c 0 acc x7 x8 x (by omega) b hx
   have hp':p<acc'.length:=(List.getElem?_eq_some_iff.mp hx').1
   obtain⟨acc2,y6,y7,y8,ew,b3⟩:=aF3 M als m (p+1) acc' (some (.v (.int x.1))) x7' x8' f (by omega) (by omega) b'.next (by omega)
   refine⟨acc2,y6,y7,y8,aJw (pQ test (bAn h)) (st':=wst S s als acc' (p+1) (some (.v (.int x.1))) x7' x8') ?_ ew,b3⟩
   refine aW (st':=wst S s als acc p (some (.v (.int x.1))) x7 x8) (cG (aV rfl rfl (jU (aYx hx)))) (aW (st':=wst S s als acc' p (some (.v (.int x.1))) x7' x8') (nF (xs:=aAt [97,98,99] (nats S[x.1])) ?_ ?_) (cG rfl))
   ·show ((e2 dIx (aB 0) (aB 6)) (wst S s als acc p (some (.v (.int x.1))) x7 x8)).bind _=_
    rw[aV (rfl:aB 0 (wst S s als acc p (some (.v (.int x.1))) x7 x8) = .ok (.lst (stD S))) rfl (jU (aCd l1))]
    rfl
   ·rw[aWu M l1]
    exact e
  ·have:p=acc.length:=by omega
   subst this
   exact⟨acc,x6,x7,x8,aGy (pQ test (bAo h)),b⟩
theorem aWv(M:Mch S rk c){s:Nat}(hs:s<S.length)(als:List Nat):∃ acc,lA [.lst (stD S),.int s,.lst (nats als)] = .ok (.dct false (kD acc) (wD acc))/\BM S s c (fun g=>decide (g∈als)) acc.length 0 acc:=by
 have n8:=M.most
 obtain⟨acc,x6,x7,x8,e,b⟩:=aF3 M als (S.length+1) 0 [(s,[])] none none none 100000 (by omega) (by omega) (BM.start hs) (by simp)
 refine⟨acc,cO rfl ?_,b⟩
 unfold wV
 refine aW (st':=[some (.v (.lst (stD S))),some (.v (.int s)),some (.v (.lst (nats als))),some (.o (.d false (kD [(s,[])])) (wD [(s,[])])),none,none,none,none,none]) (by simp[aM4,aSm,atom,kD,wD]) ?_
 refine aW (st':=[some (.v (.lst (stD S))),some (.v (.int s)),some (.v (.lst (nats als))),some (.o (.d false (kD [(s,[])])) (wD [(s,[])])),some (.o .l (kD [(s,[])])),none,none,none,none]) (by simp[kD]) ?_
 refine aW (st':=wst S s als [(s,[])] 0 none none none) (by simp[wst]) ?_
 refine aW (st':=wst S s als acc acc.length x6 x7 x8) (by rw[aGw];exact e) ?_
 simp[wst,ofK]
end
end Pu
namespace Pu
def orN(l:List Nat):Nat->Nat:=fun b=>l.foldl (fun b r=>b|||2^r) b
theorem aOe(r:Nat):∀ (l:List Nat) (b:Nat),(orN l b).testBit r=(b.testBit r||decide (r∈l))
 | [],b=>by simp[orN]
 | x::l,b=>by
  show (orN l (b|||2^x)).testBit r=_
  rw[aOe r l,testBit_or,Nat.testBit_two_pow]
  by_cases h:x=r
  ·simp[h]
  ·have h':¬ r=x:=fun z=>h z.symm
   simp[h,h']
def bY(l:List Nat):Nat:=orN l 0
theorem fJ(l:List Nat)(r:Nat):(bY l).testBit r=decide (r∈l):=by
 unfold bY
 rw[aOe,zero_testBit,Bool.false_or]
theorem aIg{l':List Nat}(h:∀ r,r∈l ↔ r∈l'):bY l=bY l':=eq_of_testBit_eq fun r=>by
 rw[fJ,fJ,decide_eq_decide.mpr (h r)]
def aH(n:Nat):List Nat:=(List.range (oW n)).filter fun r=>n.testBit r
theorem aK4(h:oW n<=r):n.testBit r=false:=by
 unfold oW at h
 by_cases h0:(n:Int)=0
 ·have:n=0:=by omega
  rw[this,zero_testBit]
 ·rw[if_neg h0]at h
  have hn:n≠0:=fun z=>h0 (by rw[z];rfl)
  have h1:n<2^(n.log2+1):=(Nat.log2_lt hn).mp (Nat.lt_succ_self _)
  exact Nat.testBit_lt_two_pow (Nat.lt_of_lt_of_le h1 (Nat.pow_le_pow_right (by decide) (by simpa using h)))
theorem aN:r∈aH n ↔ n.testBit r=true:=by
 unfold aH
 rw[List.mem_filter,List.mem_range]
 refine⟨fun h=>h.2,fun h=>⟨?_,h⟩⟩
 rcases Nat.lt_or_ge r (oW n) with h1 | h1
 ·exact h1
 ·rw[aK4 h1]at h;cases h
theorem iJ(n:Nat):bY (aH n)=n:=eq_of_testBit_eq fun r=>by
 rw[fJ]
 cases h:n.testBit r with
 | true=>exact decide_eq_true (aN.mpr h)
 | false=>exact decide_eq_false fun z=>by rw[aN.mp z]at h;cases h
theorem lF:r∈aH (bY l) ↔ r∈l:=by
 rw[aN,fJ,decide_eq_true_eq]
theorem bZ{k:Nat}(h:n<2^k)(hr:r∈aH n):r<k:=by
 rw[aN]at hr
 rcases Nat.lt_or_ge r k with h1 | h1
 ·exact h1
 ·rw[Nat.testBit_lt_two_pow (Nat.lt_of_lt_of_le h (Nat.pow_le_pow_right (by decide) h1))]at hr
  cases hr
theorem aK5{k:Nat}(h:n<2^k):oW n<=k:=by
 unfold oW
 by_cases h0:(n:Int)=0
 ·rw[if_pos h0];exact zero_le _
 ·rw[if_neg h0]
  have hn:n≠0:=fun z=>h0 (by rw[z];rfl)
  have:n.log2<k:=(Nat.log2_lt hn).mpr h
  show (n:Int).natAbs.log2+1<=k
  rw[Int.natAbs_natCast]
  omega
@[simp] theorem aTj(i j:Int):vY (.int i) (.int j)=aJ (0<=j/\j<=1000000/\i.natAbs<18446744073709551616) (.ok (.int (i*2^j.toNat))):=rfl
@[simp] theorem bEi(i j:Int):aC6 (.int i) (.int j)=aJ (0<=j) (.ok (.int (i/2^j.toNat))):=rfl
@[simp] theorem aK6(i j:Int):zT (.int i) (.int j)=aJ (0<=i/\0<=j) (.ok (.int ((i.toNat&&&j.toNat:Nat):Int))):=rfl
@[simp] theorem aWw(i j:Int):dOr (.int i) (.int j)=aJ (0<=i/\0<=j) (.ok (.int ((i.toNat|||j.toNat:Nat):Int))):=rfl
@[simp] theorem aYy(i:Int):aDs (.int i) = .ok (.int (oW i:Nat)):=rfl
theorem aK7(n r:Nat):(((n:Int)/2^r).toNat&&&(1:Int).toNat)=if n.testBit r=true then 1 else 0:=by
 have e:((n:Int)/2^r).toNat=n/2^r:=by
  have:(n:Int)/2^r=((n/2^r:Nat):Int):=by push_cast;rfl
  rw[this,toNat_natCast]
 rw[e,show (1:Int).toNat=1 from rfl,Nat.and_one_is_mod,Nat.testBit_eq_decide_div_mod_eq]
 by_cases h:n/2^r%2=1
 ·simp[h]
 ·have:n/2^r%2=0:=by omega
  simp[this]
theorem aCe(n r:Nat):gY [.int n,.int r] = .ok (.bl (n.testBit r)):=by
 have hb:=aK7 n r
 have h0:0<=(n:Int)/2^r:=Int.ediv_nonneg (by omega) (Int.pow_nonneg (by decide))
 refine cO rfl ?_
 unfold zW
 show dO _ [some (.v (.int n)),some (.v (.int r))]=_
 have e1:e2 aC6 (aB 0) (aB 1) [some (.v (.int n)),some (.v (.int r))] = .ok (.int ((n:Int)/2^r)):=by simp
 have e2':e2 zT (e2 aC6 (aB 0) (aB 1)) (eC (.int 1)) [some (.v (.int n)),some (.v (.int r))] = .ok (.int ((if n.testBit r=true then 1 else 0:Nat):Int)):=by
  rw[aCv,e1,aM,aSp,aM,aK6,aF ⟨h0,by decide⟩,hb]
 rw[oZ,aCv,e2']
 cases n.testBit r<;>simp
theorem fY{tg:Tg}{C E:Ex}{st:PSt}{q:Nat->Bool}{G:Nat->D}:∀ (ks:List Nat),(∀ k∈ks,∃ s1,tg (.int k) st = .ok s1/\C s1 = .ok (.bl (q k))/\E s1 = .ok (G k))->oV tg C E st (nats ks) = .ok ((ks.filter q).map G)
 | [],_=>rfl
 | k::ks,h=>by
  obtain⟨s1,e1,e2,e3⟩:=h k mem_cons_self
  have ih:=fY ks fun k hk=>h k (mem_cons_of_mem _ hk)
  show oV tg C E st (.int k::nats ks)=_
  rw[uB,e1]
  cases hq:q k with
  | true =>
   rw[filter_cons_of_pos hq,map_cons]
   simp[e2,e3,hq,ih]
  | false =>
   rw[filter_cons_of_neg (by rw[hq];decide)]
   simp[e2,hq,ih]
theorem xM(n:Nat):gB 0 n=nats (List.range n):=by
 rw[aCy]
 rfl
theorem lQ{k:Nat}(h:n<2^k)(hk:k<=2000):cI [.int n] = .ok (.lst (nats (aH n))):=by
 have hb:=aK5 h
 have e:=fY (tg:=tgN 1) (C:=uI) (E:=uH) (st:=[some (.v (.int n)),none]) (q:=fun r=>n.testBit r) (G:=fun r => .int r) (List.range (oW n)) (fun r _=>⟨_,rfl,by
  simp[uI,aCe n r],by simp[uH]⟩)
 refine cO rfl ?_
 unfold zX
 show dO _ [some (.v (.int n)),none]=_
 have hi:uA (e1 aDs (aB 0)) [some (.v (.int n)),none] = .ok (nats (List.range (oW n))):=by
  simp[show ((oW n:Nat):Int)<=(big:Int) from tY (by omega)]
  exact xM _
 rw[oZ,wJ,hi]
 simp only[aM,aZ,length_range]
 rw[aF (eU (by omega)),show clr [1] [some (Sl.v (D.int n)),none]=[some (.v (.int n)),none] from rfl,e]
 rfl
theorem aH6(a:Option Sl):∀ (l:List Nat) (b:Nat) (x2:Option Sl),(∀ r∈l,r<=1000000)->∃ x2',forR (tgN 2) lB (nats l) [a,some (.v (.int b)),x2] = .ok (.nx [a,some (.v (.int (orN l b))),x2'])
 | [],b,x2,_=>⟨x2,rfl⟩
 | r::l,b,x2,h=>by
  obtain⟨x2',e⟩:=aH6 a l (b|||2^r) (some (.v (.int r))) fun r hr=>h r (mem_cons_of_mem _ hr)
  refine⟨x2',?_⟩
  have hr:=h r mem_cons_self
  have hr':(r:Int)<=1000000:=by omega
  have ee:((1:Int)*2^(r:Int).toNat)=((2^r:Nat):Int):=by push_cast;simp
  show forR (tgN 2) lB (.int r::nats l) _=_
  rw[mX]
  have e3:(2:Int)^r=((2^r:Nat):Int):=by push_cast;rfl
  have t:lB [a,some (.v (.int b)),some (.v (.int r))] = .ok (.nx [a,some (.v (.int ((b|||2^r:Nat):Int))),some (.v (.int r))]):=by
   have h1:e2 vY (eC (.int 1)) (aB 2) [a,some (.v (.int b)),some (.v (.int r))] = .ok (.int ((2^r:Nat):Int)):=by
    simp only[aCv,aSp,aNr,aM,getElem?_cons_succ,List.getElem?_cons_zero]
    rw[aTj,aF ⟨by omega,hr',by decide⟩,ee]
   unfold lB
   rw[aNv,aCv,h1]
   simp only[aNr,aM,getElem?_cons_succ,List.getElem?_cons_zero]
   rw[aWw,aF ⟨Int.natCast_nonneg _,Int.natCast_nonneg _⟩,toNat_natCast,toNat_natCast]
   rfl
  show (lB [a,some (.v (.int b)),some (.v (.int r))]).bind _=_
  rw[t]
  exact e
theorem aBb{l:List Nat}(h:∀ r∈l,r<=1000000)(hl:l.length<=1000000):iI [.lst (nats l)] = .ok (.int (bY l)):=by
 obtain⟨x2',e⟩:=aH6 (some (.v (.lst (nats l)))) l 0 none h
 refine cO rfl ?_
 unfold aC7
 refine aW (st':=[some (.v (.lst (nats l))),some (.v (.int 0)),none]) (by simp) ?_
 refine aW (st':=[some (.v (.lst (nats l))),some (.v (.int (bY l))),x2']) ?_ (by simp)
 rw[aNw,show itE (aB 0) [some (Sl.v (D.lst (nats l))),some (.v (.int 0)),none] = .ok (nats l) from rfl,aM]
 exact e
theorem aF4{k:Nat}(h:n<2^k):(List.range k).filter (fun r=>n.testBit r)=aH n:=by
 have hb:=aK5 h
 unfold aH
 obtain⟨d,rfl⟩:∃ d,k=oW n+d:=⟨k-oW n,by omega⟩
 have h0:((List.range d).map (oW n + ·)).filter (fun r=>n.testBit r)=[]:=List.filter_eq_nil_iff.mpr fun x hx=>by
  obtain⟨y,_,rfl⟩:=List.mem_map.mp hx
  rw[aK4 (le_add_right _ _)]
  decide
 rw[List.range_add,List.filter_append,h0,append_nil]
end Pu
namespace Pu
inductive Rch (S:List (List Nat)) (c:Nat) (al:Nat->Bool) (s:Nat):Nat->Prop where
 | here:Rch S c al s s
 | on {r l:Nat}:Rch S c al s r->l<c->al (stp S r l)=true->Rch S c al s (stp S r l)
theorem dC(n:Nat):(aH n).Nodup:=List.nodup_range.filter _
theorem yI{l:List Nat}{k:Nat}(h:∀ r∈l,r<k):bY l<2^k:=Nat.lt_pow_two_of_testBit _ fun r hr=>by
 rw[fJ]
 exact decide_eq_false fun z=>by have:=h r z;omega
open Classical in
noncomputable def eO(S:List (List Nat))(c n r:Nat):Nat:=bY ((List.range S.length).filter fun g=>decide (Rch S c (fun g=>n.testBit g) r g))
section
theorem aCf(M:Mch S rk c)  {s g:Nat} (hs:s<S.length) (h:Rch S c al s g):g<S.length:=by
 induction h with
 | here=>exact hs
 | on _ hl _ ih=>obtain⟨_,_,_,h⟩:=aM7 M ih hl;exact h
theorem aF5{s g:Nat}(hs:al s=true)(h:Rch S c al s g):al g=true:=by
 cases h with
 | here=>exact hs
 | on _ _ ha=>exact ha
open Classical in
theorem iK(M:Mch S rk c){r:Nat}(hr:r<S.length)(g:Nat):(eO S c n r).testBit g=true ↔ Rch S c (fun g=>n.testBit g) r g:=by
 unfold eO
 rw[fJ,decide_eq_true_eq,List.mem_filter,List.mem_range,decide_eq_true_eq]
 exact⟨fun h=>h.2,fun h=>⟨aCf M hr h,h⟩⟩
theorem aBc:eO S c n r<2^S.length:=yI fun g hg=>List.mem_range.mp (List.mem_filter.mp hg).1
theorem aF6(M:Mch S rk c){a b:Nat}(ha:a<S.length):b∈S.getD a [] ↔ ∃ l,l<c/\stp S a l=b:=by
 have hr:=(M.row S[a] (List.getElem_mem ha)).1
 have hg:S.getD a []=S[a]:=by rw[getD_eq_getElem?_getD,List.getElem?_eq_getElem ha];rfl
 have e:∀ l,stp S a l=S[a].getD l 0:=fun l=>by unfold stp;rw[hg]
 rw[hg]
 constructor
 ·intro h
  obtain⟨l,hl,rfl⟩:=List.mem_iff_getElem.mp h
  exact⟨l,by omega,by rw[e,getD_eq_getElem?_getD,List.getElem?_eq_getElem hl];rfl⟩
 ·rintro⟨l,hl,rfl⟩
  have hl':l<S[a].length:=by omega
  rw[e,getD_eq_getElem?_getD,List.getElem?_eq_getElem hl']
  exact List.getElem_mem hl'
theorem Rch.trans{a b d:Nat}(h1:Rch S c al a b)(h2:Rch S c al b d):Rch S c al a d:=by
 induction h2 with
 | here=>exact h1
 | on _ hl ha ih=>exact .on ih hl ha
end
theorem aTk(g:Nat)(l:List Nat):dIn (.int g) (.lst (nats l)) = .ok (.bl (decide (g∈l))):=by
 obtain⟨p1,p2,_⟩:=fH l
 rw[<-yG]
 exact aF ⟨by rw[p2];exact zero_le 60,rfl,p1⟩
theorem aIh(h:n<=1000000):vY (.int 1) (.int n) = .ok (.int ((2^n:Nat):Int)):=by
 have e:((2^n:Nat):Int)=1*2^(n:Int).toNat:=by rw[Int.one_mul,toNat_natCast];push_cast;rfl
 rw[e]
 exact aF ⟨by omega,by omega,by decide⟩
theorem aOf(a b:Nat):zT (.int a) (.int b) = .ok (.int ((a&&&b:Nat):Int)):=by
 rw[<-toNat_natCast a,<-toNat_natCast b]
 exact aF ⟨by omega,by omega⟩
theorem aK8(g:Nat)(l:List Nat):oM (nats l) (.int g)=decide (g∈l):=by
 unfold oM nats
 rw[List.any_map]
 by_cases h:g∈l
 ·rw[decide_eq_true h,List.any_eq_true]
  exact⟨g,h,by simp[eqK]⟩
 ·rw[decide_eq_false h,List.any_eq_false]
  intro x hx
  have : ¬ (x : Int) = (g : Int) := fun z => h (by have e : x = g := by omega
                                                   rw[<-e];exact hx)
  simp[eqK,this]
theorem xN(V:Nat->D){g:Nat}:∀ {l:List Nat},g∈l->rB (nats l) (l.map V) (.int g)=some (V g)
 | [],h=>nomatch h
 | x::l,h=>by
  show rB (.int x::nats l) (V x::l.map V) (.int g)=_
  unfold rB
  rw[zip_cons_cons,List.find?_cons]
  by_cases e:x=g
  ·simp[eqK,e]
  ·have:¬ (x:Int)=(g:Int):=by omega
   simp only[eqK,beq_eq_false_iff_ne.mpr this]
   exact xN V ((List.mem_cons.mp h).resolve_left fun z=>e z.symm)
theorem aK9(l:List Nat)(x:Nat):nats (l++[x])=nats l++[.int x]:=by unfold nats;simp
theorem aBd{ks vs:List D}{g:Nat}  (h:rB ks vs (.int g)=some d):dIx (.dct false ks vs) (.int g) = .ok d:=by
 show aJ (keyOk false (.int g)=true) (ofO (rB ks vs (.int g)))=_
 rw[aF (c:=keyOk false (.int g)=true) rfl,h]
 rfl
end Pu
namespace Pu
section
variable   {s p:Nat}  
theorem BM.sound(b:BM S s c al p j acc):∀ (k:Nat) (x:Nat × List Nat),acc[k]?=some x->Rch S c al s x.1:=by
 intro k
 induction k using strongRecOn with
 | ind k ih =>
  intro x hx
  by_cases hk:k=0
  ·subst hk
   rw[b.hd]at hx
   cases hx
   exact .here
  ·obtain⟨h0,q,y,ch,h1,h2,_⟩:=b.par k x hx (by omega)
   have hl:x.2.length=y.2.length+1:=by rw[h2];simp
   have hq:q<k:=by
    rcases Nat.lt_trichotomy q k with h | h | h
    ·exact h
    ·subst h
     rw[hx]at h1
     cases h1
     omega
    ·rcases b.ord k q x y hx h1 h with h3 | ⟨h3,_⟩ <;> omega
   obtain⟨_,x2,x3⟩:=b.lt x (List.mem_of_getElem? hx)
   obtain⟨_,y2,_⟩:=b.lt y (List.mem_of_getElem? h1)
   have hch:=x3 ch (by rw[h2];simp)
   have e:x.1=stp S y.1 (ch-97):=by rw[<-x2,h2,yH,y2]
   rw[e]at h0 ⊢
   exact .on (ih q hq y h1) (by omega) h0
theorem BM.whole(b:BM S s c al acc.length 0 acc){g:Nat}:g∈acc.map (·.1) ↔ Rch S c al s g:=by
 constructor
 ·intro h
  obtain⟨x,hx,rfl⟩:=List.mem_map.mp h
  obtain⟨k,hk⟩:=List.mem_iff_getElem?.mp hx
  exact b.sound k x hk
 ·intro h
  induction h with
  | here=>exact List.mem_map.mpr ⟨_,List.mem_of_getElem? b.hd,rfl⟩
  | on _ hl ha ih =>
   obtain⟨x,hx,rfl⟩:=List.mem_map.mp ih
   obtain⟨k,hk⟩:=List.mem_iff_getElem?.mp hx
   obtain⟨y,h1,h2,_⟩:=b.cls k x _ hk hl (.inl (List.getElem?_eq_some_iff.mp hk).1) ha
   exact List.mem_map.mpr ⟨y,h1,h2⟩
end
end Pu
namespace Pu
inductive Pw (B:Nat->Nat->Prop) (K:Nat->Prop):Nat->Nat->Prop where
 | one {a b:Nat}:B a b->Pw B K a b
 | mid {a m b:Nat}:K m->Pw B K a m->Pw B K m b->Pw B K a b
theorem Pw.cut{B:Nat->Nat->Prop}{K K':Nat->Prop}{k a b:Nat}(hK:∀ m,K' m->K m\/m=k)(h:Pw B K' a b):Pw B K a b\/(Pw B K a k/\Pw B K k b):=by
 induction h with
 | one h=>exact .inl (.one h)
 | mid hm _ _ i1 i2 =>
  rename_i a m b _ _
  rcases hK m hm with hm | rfl
  ·rcases i1 with x | ⟨x1,x2⟩
   ·rcases i2 with y | ⟨y1,y2⟩
    ·exact .inl (.mid hm x y)
    ·exact .inr ⟨.mid hm x y1,y2⟩
   ·rcases i2 with y | ⟨y1,y2⟩
    ·exact .inr ⟨x1,.mid hm x2 y⟩
    ·exact .inr ⟨x1,y2⟩
  ·exact .inr ⟨i1.elim id fun z=>z.1,i2.elim id fun z=>z.2⟩
theorem Pw.mono{B:Nat->Nat->Prop}{K K':Nat->Prop}{a b:Nat}(hK:∀ m,K m->K' m)(h:Pw B K a b):Pw B K' a b:=by
 induction h with
 | one h=>exact .one h
 | mid hm _ _ i1 i2=>exact .mid (hK _ hm) i1 i2
def gW(V:Nat->Nat)(m:Nat):Nat->Nat:=fun r=>if (V r).testBit m=true then V r|||V m else V r
theorem aOg{B:Nat->Nat->Prop}{R:Nat->Prop}(hR:∀ a b,R a->B a b->R b):∀ (ks ds:List Nat) (V:Nat->Nat),(∀ k∈ks,R k)->(∀ r,R r->∀ g,(V r).testBit g=true ↔ Pw B (· ∈ ds) r g)->∀ r,R r->∀ g,((ks.foldl gW V) r).testBit g=true ↔ Pw B (· ∈ ds++ks) r g
 | [],ds,V,_,h,r,hr,g=>by rw[append_nil];exact h r hr g
 | k::ks,ds,V,hk,h,r,hr,g=>by
  have e:ds++k::ks=(ds++[k])++ks:=by simp
  rw[e]
  refine aOg hR ks (ds++[k]) (gW V k) (fun x hx=>hk x (mem_cons_of_mem _ hx)) (fun r hr g=>?_) r hr g
  have hk':=hk k mem_cons_self
  have up:∀ {a b:Nat},Pw B (· ∈ ds) a b->Pw B (· ∈ ds++[k]) a b:=fun z=>z.mono fun m hm=>List.mem_append_left _ hm
  have in_k:k∈ds++[k]:=by simp
  unfold gW
  by_cases hb:(V r).testBit k=true
  ·rw[if_pos hb,testBit_or,or_eq_true,h r hr g,h k hk' g]
   constructor
   ·rintro(z | z)
    ·exact up z
    ·exact .mid in_k (up ((h r hr k).mp hb)) (up z)
   ·intro z
    rcases z.cut (K:=(· ∈ ds)) (k:=k) (fun m hm=>by simpa using hm) with y | ⟨_,y⟩
    ·exact .inl y
    ·exact .inr y
  ·rw[if_neg hb,h r hr g]
   constructor
   ·exact up
   ·intro z
    rcases z.cut (K:=(· ∈ ds)) (k:=k) (fun m hm=>by simpa using hm) with y | ⟨y,_⟩
    ·exact y
    ·exact absurd ((h r hr k).mpr y) hb
section
variable{S:List (List Nat)}{rk:List Nat}{c n:Nat}
def oX(S:List (List Nat))(n:Nat):Nat->Nat:=fun r=>(bY (S.getD r [])|||2^r)&&&n
theorem aTl{g:Nat}:(oX S n r).testBit g=true ↔ (r=g\/g∈S.getD r [])/\n.testBit g=true:=by
 unfold oX
 rw[testBit_and,testBit_or,fJ,Nat.testBit_two_pow,and_eq_true,or_eq_true,decide_eq_true_eq,decide_eq_true_eq]
 exact⟨fun h=>⟨h.1.symm,h.2⟩,fun h=>⟨h.1.symm,h.2⟩⟩
theorem aQg(M:Mch S rk c)(hn:n<2^S.length)  (hr:r∈aH n) (g:Nat):(((aH n).foldl gW (oX S n)) r).testBit g=true ↔ Rch S c (fun g=>n.testBit g) r g:=by
 have hp:=aOg (B:=fun a b=>(a=b\/b∈S.getD a [])/\n.testBit b=true) (R:=(· ∈ aH n)) (fun a b _ h=>aN.mpr h.2) (aH n) [] (oX S n) (fun k hk=>hk) (fun r _ g=>by
  rw[aTl]
  constructor
  ·exact fun h => .one h
  ·intro h
   cases h with
   | one h=>exact h
   | mid h _ _=>cases h) r hr g
 rw[hp,nil_append]
 clear hp
 constructor
 ·intro h
  have hi:∀ {a b:Nat},Pw (fun a b=>(a=b\/b∈S.getD a [])/\n.testBit b=true) (· ∈ aH n) a b->a∈aH n->Rch S c (fun g=>n.testBit g) a b:=by
   intro a b h
   induction h with
   | one h =>
    intro ha
    obtain⟨rfl | h1,h2⟩:=h
    ·exact .here
    ·obtain⟨l,hl,rfl⟩:=(aF6 M (bZ hn ha)).mp h1
     exact .on .here hl h2
   | mid hm _ _ i1 i2=>exact fun ha=>Rch.trans (i1 ha) (i2 hm)
  exact hi h hr
 ·intro h
  induction h with
  | here=>exact .one ⟨.inl rfl,aN.mp hr⟩
  | on h1 hl ha ih =>
   have hx:_∈aH n:=aN.mpr (aF5 (al:=fun g=>n.testBit g) (aN.mp hr) h1)
   exact .mid hx ih (.one ⟨.inr ((aF6 M (bZ hn hx)).mpr ⟨_,hl,rfl⟩),ha⟩)
theorem aTm(M:Mch S rk c)(hn:n<2^S.length)  (hr:r∈aH n):((aH n).foldl gW (oX S n)) r=eO S c n r:=eq_of_testBit_eq fun g=>by
 have e:=(aQg M hn hr g).trans (iK M (bZ hn hr) g).symm
 cases h1:(((aH n).foldl gW (oX S n)) r).testBit g with
 | true=>exact(e.mp h1).symm
 | false =>
  cases h2:(eO S c n r).testBit g with
  | true=>rw[e.mpr h2]at h1;cases h1
  | false=>rfl
theorem aOh(a b:Nat):dOr (.int a) (.int b) = .ok (.int ((a|||b:Nat):Int)):=by
 rw[<-toNat_natCast a,<-toNat_natCast b]
 exact aF ⟨by omega,by omega⟩
def wA(S:List (List Nat))(n:Nat)(ks:List Nat)(V:Nat->Nat)(x4 x5:Option Sl):PSt:=[some (.v (.lst (stD S))),some (.v (.int n)),some (.v (.lst (nats (aH n)))),some (.o (.d false (nats ks)) (ks.map fun r=>D.int (V r:Nat))),x4,x5]
theorem aWx{V:Nat->Nat}{r:Nat}{x:D}(hr:r ∉ ks):pI (nats ks) (.int r)=nats (ks++[r])/\sE (nats ks) (ks.map fun r=>D.int (V r:Nat)) (.int r) x=(ks.map fun r=>D.int (V r:Nat))++[x]:=by
 have hk:oM (nats ks) (.int r)=false:=by rw[aK8,decide_eq_false hr]
 unfold pI sE
 rw[hk,aK9]
 exact⟨rfl,rfl⟩
theorem aWy{V:Nat->Nat}{r x:Nat}(hr:r∈ks):pI (nats ks) (.int r)=nats ks/\sE (nats ks) (ks.map fun r=>D.int (V r:Nat)) (.int r) (.int x)=ks.map fun k=>D.int ((if k=r then x else V k:Nat):Int):=by
 have hk:oM (nats ks) (.int r)=true:=by rw[aK8,decide_eq_true hr]
 unfold pI sE
 rw[hk,if_pos rfl,if_pos rfl]
 refine⟨rfl,?_⟩
 unfold nats
 rw[List.zip_map',List.map_map]
 refine List.map_congr_left fun k _=>?_
 show (if eqK (.int (k:Int)) (.int (r:Int))=true then D.int (x:Int) else D.int (V k:Int))=_
 by_cases e:k=r
 ·rw[if_pos e,if_pos (by rw[e];simp[eqK])]
 ·have:¬ (k:Int)=(r:Int):=by omega
  rw[if_neg e,if_neg (by simp[eqK,this])]
theorem aOi{st:PSt}{k:D}{ks vs:List D}(hf:f st = .ok d)(hg:g st = .ok k)(hs:st[i]?=some (some (.o (.d false ks) vs)))(hk:keyOk false k=true)(hl:vs.length<1000):sDPut i g f st = .ok (.nx (st.set i (some (.o (.d false (pI ks k)) (sE ks vs k d))))):=by
 unfold sDPut
 rw[hf,aM,hg,aM,hs]
 exact aF ⟨hk,aEb (by omega)⟩
theorem aH7(M:Mch S rk c):∀ (rs ks:List Nat) (x4:Option Sl),(ks++rs).Nodup->(∀ r∈ks++rs,r<S.length)->∃ x4',forR (tgN 4) wW (nats rs) (wA S n ks (oX S n) x4 none) = .ok (.nx (wA S n (ks++rs) (oX S n) x4' none))
 | [],ks,x4,_,_=>⟨x4,by rw[append_nil];rfl⟩
 | r::rs,ks,x4,nd,hl=>by
  have n8:=M.most
  have h1:ks++r::rs=(ks++[r])++rs:=by simp
  rw[h1]at nd hl
  obtain⟨x4',e⟩:=aH7 M rs (ks++[r]) (some (.v (.int r))) nd hl
  refine⟨x4',?_⟩
  rw[h1]
  have hr:r ∉ ks:=fun z=>(List.nodup_append.mp (List.nodup_append.mp nd).1).2.2 r z r (List.mem_singleton.mpr rfl) rfl
  have hrl:r<S.length:=hl r (by simp)
  have hlen:ks.length<=S.length:=gG S.length ks (List.nodup_append.mp (List.nodup_append.mp nd).1).1 fun x hx=>hl x (by simp[hx])
  have hg:S.getD r []=S[r]:=by rw[getD_eq_getElem?_getD,List.getElem?_eq_getElem hrl];rfl
  have hrow:=M.row S[r] (List.getElem_mem hrl)
  have c3:=M.c3
  have hb:=aBb (l:=S[r]) (fun x hx=>by have:=hrow.2 x hx;omega) (by rw[hrow.1];omega)
  obtain⟨p1,p2⟩:=aWx (V:=oX S n) (x := .int (oX S n r:Nat)) hr
  refine uO rfl (s2:=wA S n (ks++[r]) (oX S n) (some (.v (.int r))) none) ?_ e
  have hv:e2 zT (e2 dOr (aP iI (aC (e2 dIx (aB 0) (aB 4)) (aX))) (e2 vY (eC (.int 1)) (aB 4))) (aB 1) (wA S n ks (oX S n) (some (.v (.int r))) none) = .ok (.int (oX S n r:Nat)):=by
   unfold oX
   rw[hg]
   exact aV (aV (aR (bR (aV rfl rfl (jU (aCd hrl))) rfl) hb) (aV rfl rfl (aIh (by omega))) (aOh _ _)) rfl (aOf _ _)
  refine(aOi hv rfl rfl rfl (by rw[length_map];omega)).trans ?_
  rw[p1,p2]
  unfold wA
  rw[List.map_append]
  rfl
theorem aQh{V:Nat->Nat}  (hl:ks.length<1000) (hr:r∈ks) (hm:m∈ks):lK (wA S n ks V (some (.v (.int r))) (some (.v (.int m)))) = .ok (.nx (wA S n ks (fun k=>if k=r then gW V m r else V k) (some (.v (.int r))) (some (.v (.int m))))):=by
 have gr:e2 dIx (dR 3) (aB 4) (wA S n ks V (some (.v (.int r))) (some (.v (.int m)))) = .ok (.int (V r:Nat)):=aV rfl rfl (aBd (xN (fun r=>D.int (V r:Nat)) hr))
 have gm:e2 dIx (dR 3) (aB 5) (wA S n ks V (some (.v (.int r))) (some (.v (.int m)))) = .ok (.int (V m:Nat)):=aV rfl rfl (aBd (xN (fun r=>D.int (V r:Nat)) hm))
 have t:=aR (bR gr (show aC (aB 5) aX (wA S n ks V (some (.v (.int r))) (some (.v (.int m)))) = .ok [.int m] from rfl)) (aCe (V r) m)
 by_cases hb:(V r).testBit m=true
 ·rw[hb]at t
  obtain⟨p1,p2⟩:=aWy (V:=V) (x:=V r|||V m) hr
  refine aB5 t ((aOi (aV gr gm (aOh _ _)) rfl rfl rfl (by rw[length_map];omega)).trans ?_)
  rw[p1,p2]
  unfold gW
  rw[if_pos hb]
  rfl
 ·rw[Bool.eq_false_iff.mpr hb]at t
  refine rN t ?_
  have:(fun k=>if k=r then gW V m r else V k)=V:=funext fun k=>by
   by_cases e:k=r
   ·rw[if_pos e,e];unfold gW;rw[if_neg hb]
   ·rw[if_neg e]
  rw[this]
  rfl
theorem aH8{ks:List Nat}{V:Nat->Nat}{m:Nat}(hl:ks.length<1000)(hm:m∈ks):∀ (rs:List Nat) (W:Nat->Nat) (x4:Option Sl),(∀ r∈rs,r∈ks)->W m=V m->(∀ r∈rs,W r=V r\/W r=gW V m r)->∃ W' x4',forR (tgN 4) lK (nats rs) (wA S n ks W x4 (some (.v (.int m)))) = .ok (.nx (wA S n ks W' x4' (some (.v (.int m)))))/\∀ r,W' r=if r∈rs then gW V m r else W r
 | [],W,x4,_,_,_=>⟨W,x4,rfl,fun r=>by rw[if_neg (by simp)]⟩
 | r::rs,W,x4,hs,hw,hv=>by
  have ho:gW W m r=gW V m r:=by
   rcases hv r mem_cons_self with h | h
   ·unfold gW;rw[h,hw]
   ·unfold gW at h ⊢
    rw[h,hw]
    by_cases hb:(V r).testBit m=true
    ·rw[if_pos hb]
     by_cases hb2:(V r|||V m).testBit m=true
     ·rw[if_pos hb2,Nat.or_assoc,Nat.or_self]
     ·rw[if_neg hb2]
    ·rw[if_neg hb,if_neg hb]
  have hom:gW V m m=V m:=by
   unfold gW
   split
   ·exact Nat.or_self _
   ·rfl
  obtain⟨W',x4',e,h⟩:=aH8 hl hm rs (fun k=>if k=r then gW W m r else W k) (some (.v (.int r))) (fun x hx=>hs x (mem_cons_of_mem _ hx)) (by
   show (if m=r then gW W m r else W m)=V m
   by_cases e:m=r
   ·rw[if_pos e,ho,<-e,hom]
   ·rw[if_neg e,hw]) (fun x hx=>by
   show (if x=r then gW W m r else W x)=V x\/(if x=r then gW W m r else W x)=gW V m x
   by_cases e:x=r
   ·rw[if_pos e,ho,e];exact .inr rfl
   ·rw[if_neg e];exact hv x (mem_cons_of_mem _ hx))
  refine⟨W',x4',uO rfl (aQh hl (hs r mem_cons_self) hm) e,fun x=>?_⟩
  rw[h x]
  by_cases hx:x∈rs
  ·rw[if_pos hx,if_pos (mem_cons_of_mem _ hx)]
  ·rw[if_neg hx]
   by_cases e:x=r
   ·rw[if_pos e,if_pos (by rw[e];exact mem_cons_self),ho,e]
   ·rw[if_neg e,if_neg (by simp[e,hx])]
theorem aF7{ks:List Nat}{V W:Nat->Nat}{x4 x5:Option Sl}(h:∀ k∈ks,V k=W k):wA S n ks V x4 x5=wA S n ks W x4 x5:=by
 unfold wA
 rw[List.map_congr_left fun k hk=>congrArg (fun x:Nat=>D.int (x:Int)) (h k hk)]
theorem aH9(hl:(aH n).length<1000):∀ (ms:List Nat) (V:Nat->Nat) (x4 x5:Option Sl),(∀ m∈ms,m∈aH n)->∃ x4' x5',forR (tgN 5) wX (nats ms) (wA S n (aH n) V x4 x5) = .ok (.nx (wA S n (aH n) (ms.foldl gW V) x4' x5'))
 | [],V,x4,x5,_=>⟨x4,x5,rfl⟩
 | m::ms,V,x4,x5,hs=>by
  obtain⟨W,y4,e,h⟩:=aH8 (S:=S) (n:=n) (V:=V) hl (hs m mem_cons_self) (aH n) V x4 (fun r hr=>hr) rfl fun r _ => .inl rfl
  obtain⟨z4,z5,e'⟩:=aH9 hl ms (gW V m) y4 (some (.v (.int m))) fun x hx=>hs x (mem_cons_of_mem _ hx)
  refine⟨z4,z5,uO rfl (nF (L:=lK) rfl e) ?_⟩
  rw[aF7 (W:=gW V m) fun k hk=>by rw[h k,if_pos hk]]
  exact e'
theorem aKa(M:Mch S rk c)(hn:n<2^S.length):jG [.lst (stD S),.int n] = .ok (.dct false (nats (aH n)) ((aH n).map fun r=>D.int (eO S c n r:Nat))):=by
 have n8:=M.most
 have hro:=lQ hn (by omega)
 have hlen:(aH n).length<=S.length:=gG S.length _ (dC _) fun x hx=>bZ hn hx
 obtain⟨x4,e1⟩:=aH7 (n:=n) M (aH n) [] none (dC n) fun r hr=>bZ hn hr
 obtain⟨y4,y5,e2⟩:=aH9 (S:=S) (n:=n) (by omega) (aH n) (oX S n) x4 none fun m hm=>hm
 refine cO rfl (aW (st':=[some (.v (.lst (stD S))),some (.v (.int n)),some (.v (.lst (nats (aH n)))),none,none,none]) (cG (aR rfl hro)) (aW (st':=wA S n [] (oX S n) none none) rfl (aW (nF rfl e1) (aW (nF rfl e2) ?_))))
 rw[aF7 fun k hk=>aTm M hn hk]
 rfl
end
end Pu
namespace Pu
noncomputable def dW(S:List (List Nat))(c n r:Nat):Nat:=bY ((aH (eO S c n r)).filter fun g=>(eO S c n g).testBit r)
def roundN(S:List (List Nat))(m:Nat):Bool:=decide (1<(aH m).length)||decide ((aH m).headD 0∈S.getD ((aH m).headD 0) [])
noncomputable def kW(S:List (List Nat))(c n:Nat):List Nat:=(aH n).foldl (fun ps r=>if dW S c n r ∉ ps/\roundN S (dW S c n r)=true then ps++[dW S c n r] else ps) []
section
variable{S:List (List Nat)}{rk:List Nat}{c n:Nat}
theorem aIi:dW S c n r<2^S.length:=yI fun g hg=>bZ aBc (List.mem_filter.mp hg).1
theorem aTn(M:Mch S rk c)  (hm:m<2^S.length) (h0:m≠0):pB [.lst (stD S),.int m] = .ok (.bl (roundN S m)):=by
 have n8:=M.most
 have hro:=lQ hm (by omega)
 obtain⟨r,T,eT⟩:∃ r T,aH m=r::T:=by
  cases h:aH m with
  | nil =>
   refine absurd ?_ h0
   have:=iJ m
   rw[h]at this
   exact this.symm
  | cons r T=>exact⟨r,T,rfl⟩
 rw[eT]at hro
 have hr:r<S.length:=bZ hm (by rw[eT];exact mem_cons_self)
 refine cO rfl (aW (st':=[some (.v (.lst (stD S))),some (.v (.int m)),some (.v (.lst (nats (r::T))))]) (cG (aR rfl hro)) (gC ?_))
 have ln:e1 fC (aB 2) [some (.v (.lst (stD S))),some (.v (.int m)),some (.v (.lst (nats (r::T))))] = .ok (.int ((T.length+1:Nat):Int)):=by
  show R.ok (D.int (((nats (r::T)).length:Nat):Int))=_
  rw[aZ]
  rfl
 have v0:e2 dIx (aB 2) (eC (.int 0)) [some (.v (.lst (stD S))),some (.v (.int m)),some (.v (.lst (nats (r::T))))] = .ok (.int r):=aV rfl rfl (jU (atI_nat (i:=0) (by rw[aZ];exact Nat.succ_pos _)))
 have hg:S.getD r []=S[r]:=by rw[getD_eq_getElem?_getD,List.getElem?_eq_getElem hr];rfl
 have t:=aJu (aV ln (rfl:eC (.int 1) _=_) (rfl:dGt _ _=_)) fun _=>aV v0 (aV (rfl:aB 0 _ = .ok (.lst (stD S))) v0 (jU (aCd hr))) (aTk r S[r])
 refine pQ t ?_
 unfold roundN
 rw[eT]
 show (decide ((1:Int)<((T.length+1:Nat):Int))||decide (r∈S[r]))=(decide (1<T.length+1)||decide (r∈S.getD r []))
 rw[hg]
 congr 1
 exact decide_eq_decide.mpr (by omega)
noncomputable def pst(S:List (List Nat))(c n:Nat)(ps:List Nat)(x4 x5:Option Sl):PSt:=[some (.v (.lst (stD S))),some (.v (.int n)),some (.v (.dct false (nats (aH n)) ((aH n).map fun r=>D.int (eO S c n r:Nat)))),some (.o .l (nats ps)),x4,x5,none]
theorem aMd(M:Mch S rk c)(hn:n<2^S.length)  (hr:r∈aH n) (ps:List Nat) (hps:ps.length<=1000) (x5:Option Sl):∃ x5',oN (pst S c n ps (some (.v (.int r))) x5) = .ok (.nx (pst S c n (if dW S c n r ∉ ps/\roundN S (dW S c n r)=true then ps++[dW S c n r] else ps) (some (.v (.int r))) x5')):=by
 have n8:=M.most
 have hrl:=bZ hn hr
 have hrb:=aN.mp hr
 have hro:=lQ (aBc (S:=S) (c:=c) (n:=n) (r:=r)) (by omega)
 have hin:∀ g∈aH (eO S c n r),g∈aH n:=fun g hg=>aN.mpr (aF5 (al:=fun g=>n.testBit g) hrb ((iK M hrl g).mp (aN.mp hg)))
 have gk:∀ {g:Nat},g∈aH n->rB (nats (aH n)) ((aH n).map fun r=>D.int (eO S c n r:Nat)) (.int g)=some (.int (eO S c n g:Nat)):=fun {g} h=>xN (fun r=>D.int (eO S c n r:Nat)) h
 have hlen:(aH (eO S c n r)).length<=S.length:=gG S.length _ (dC _) fun x hx=>bZ aBc hx
 have ce:=fY (tg:=tgN 6) (C:=vM) (E:=vL) (st:=pst S c n ps (some (.v (.int r))) x5) (q:=fun g=>(eO S c n g).testBit r) (G:=fun g => .int g) (aH (eO S c n r)) (fun g hg=>⟨_,rfl,aR (bR (aV rfl rfl (aBd (gk (hin g hg)))) rfl) (aCe (eO S c n g) r),rfl⟩)
 have hi:itE (aP cI (aC (e2 dIx (aB 2) (aB 4)) aX)) (pst S c n ps (some (.v (.int r))) x5) = .ok (nats (aH (eO S c n r))):=sX (aR (bR (aV rfl rfl (aBd (gk hr))) rfl) hro)
 have hcomp:=jZ (is:=[6]) hi (by rw[aZ];omega) ce
 have hbi:iI [.lst (nats ((aH (eO S c n r)).filter fun g=>(eO S c n g).testBit r))] = .ok (.int (dW S c n r)):=aBb (fun g hg=>by have:=bZ aBc (List.mem_filter.mp hg).1;omega) (by have:=length_filter_le (fun g=>(eO S c n g).testBit r) (aH (eO S c n r));omega)
 have hne:dW S c n r≠0:=fun z=>by
  have:(dW S c n r).testBit r=true:=by
   unfold dW
   rw[fJ,decide_eq_true_eq,List.mem_filter]
   have h0:(eO S c n r).testBit r=true:=(iK M hrl r).mpr .here
   exact⟨aN.mpr h0,h0⟩
  rw[z,zero_testBit]at this
  cases this
 have hgo:=aTn M (aIi (S:=S) (c:=c) (n:=n) (r:=r)) hne
 obtain⟨p1,p2,_⟩:=fH ps
 refine⟨some (.v (.int (dW S c n r))),aW (st':=pst S c n ps (some (.v (.int r))) (some (.v (.int (dW S c n r))))) (cG (aR (bR hcomp rfl) hbi)) ?_⟩
 have t:=xH (st:=pst S c n ps (some (.v (.int r))) (some (.v (.int (dW S c n r))))) (aV (f:=aB 5) (g:=dR 3) rfl rfl (show mW (.int (dW S c n r)) (.lst (nats ps)) = .ok (.bl (!decide (dW S c n r∈ps))) by rw[<-yG];exact aF ⟨by rw[p2];exact zero_le 60,rfl,p1⟩)) fun _=>aR (r:=aC (aB 0) (aC (aB 5) aX)) rfl hgo
 by_cases h:dW S c n r ∉ ps/\roundN S (dW S c n r)=true
 ·rw[if_pos h]
  refine aB5 (pQ t (by rw[decide_eq_false h.1,h.2];rfl)) ?_
  rw[aEv (xs:=nats ps) (d := .int (dW S c n r)) rfl rfl (by rw[aZ];omega),<-aK9]
  rfl
 ·rw[if_neg h]
  refine rN (pQ t ?_) rfl
  cases h1:roundN S (dW S c n r) with
  | false=>rw[Bool.and_false]
  | true=>rw[decide_eq_true (Classical.byContradiction fun z=>h ⟨z,h1⟩)];rfl
theorem aF8(M:Mch S rk c)(hn:n<2^S.length):∀ (rs:List Nat) (ps:List Nat) (x4 x5:Option Sl),(∀ r∈rs,r∈aH n)->ps.length+rs.length<=1000->∃ x4' x5',forR (tgN 4) oN (nats rs) (pst S c n ps x4 x5) = .ok (.nx (pst S c n (rs.foldl (fun ps r=>if dW S c n r ∉ ps/\roundN S (dW S c n r)=true then ps++[dW S c n r] else ps) ps) x4' x5'))
 | [],ps,x4,x5,_,_=>⟨x4,x5,rfl⟩
 | r::rs,ps,x4,x5,h,hl=>by
  rw[length_cons]at hl
  obtain⟨x5',e1⟩:=aMd M hn (h r mem_cons_self) ps (by omega) x5
  obtain⟨y4,y5,e2⟩:=aF8 M hn rs (if dW S c n r ∉ ps/\roundN S (dW S c n r)=true then ps++[dW S c n r] else ps) (some (.v (.int r))) x5' (fun r hr=>h r (mem_cons_of_mem _ hr)) (by
   split
   ·rw[length_append,length_singleton];omega
   ·omega)
  exact⟨y4,y5,uO rfl e1 e2⟩
theorem aKb(M:Mch S rk c)(hn:n<2^S.length):nP [.lst (stD S),.int n] = .ok (.lst (nats (kW S c n))):=by
 have n8:=M.most
 have hro:=lQ hn (by omega)
 have hlen:(aH n).length<=S.length:=gG S.length _ (dC _) fun x hx=>bZ hn hx
 obtain⟨y4,y5,e⟩:=aF8 M hn (aH n) [] none none (fun _ h=>h) (by simp;omega)
 exact cO rfl (aW (cG (aR rfl (aKa M hn))) (aW (st':=pst S c n [] none none) (uN (pP rfl)) (aW (nF (sX (aR rfl hro)) e) rfl)))
theorem aKc(M:Mch S rk c)(hn:n<2^S.length):fV [mD S rk c,.int n] = .ok (.lst (nats (kW S c n))) :=
 cO rfl (gC (aR (bR (show iQ "Machine" "steps" (mD S rk c)=_ from sY) rfl) (aKb M hn)))
end
end Pu
namespace Pu
section
variable{S:List (List Nat)}{rk:List Nat}{c n:Nat}
theorem aA3:iQ "Machine" "ranks" (mD S rk c) = .ok (.lst (nats rk)):=by unfold mD;rw[wI,aF rfl];rfl
theorem aDw:∀ (l m:List Nat),gA (nats l) (nats m)=decide (l=m)
 | [],[]=>by simp[nats,gA]
 | [],y::m=>by simp[nats,gA]
 | x::l,[]=>by simp[nats,gA]
 | x::l,y::m=>by
  rw[aCc,aCc]
  unfold gA
  rw[aDw l m]
  by_cases h:x=y
  ·subst h
   simp[eqD]
  ·have:¬ (x:Int)=(y:Int):=by omega
   simp[eqD,h,this]
theorem Rch.mono{al':Nat->Bool}(m:∀ g,al g=true->al' g=true){a b:Nat}(h:Rch S c al a b):Rch S c al' a b:=by
 induction h with
 | here=>exact .here
 | on _ hl ha ih=>exact .on ih hl (m _ ha)
def inN(n:Nat):Nat->Bool:=fun g=>n.testBit g
def Mut(S:List (List Nat))(c n a b:Nat):Prop:=Rch S c (inN n) a b/\Rch S c (inN n) b a
theorem lR(M:Mch S rk c){g:Nat}(hr:r<S.length):(dW S c n r).testBit g=true ↔ Mut S c n r g:=by
 unfold dW
 rw[fJ,decide_eq_true_eq,List.mem_filter,aN,iK M hr]
 constructor
 ·rintro⟨h1,h2⟩
  exact⟨h1,(iK M (aCf M hr h1) r).mp h2⟩
 ·rintro⟨h1,h2⟩
  exact⟨h1,(iK M (aCf M hr h1) r).mpr h2⟩
theorem aKd(M:Mch S rk c){g:Nat}(hr:r<S.length)(h:Rch S c (inN n) r g)(hb:Rch S c (inN n) g r):Rch S c (inN (dW S c n r)) r g:=by
 induction h with
 | here=>exact .here
 | on h1 hl ha ih =>
  rename_i y l
  have hy:Rch S c (inN n) y r:=Rch.trans (.on .here hl ha) hb
  exact .on (ih hy) hl ((lR M hr).mpr ⟨.on h1 hl ha,hb⟩)
theorem Mut.symm{a b:Nat}(h:Mut S c n a b):Mut S c n b a:=⟨h.2,h.1⟩
theorem Mut.trans{a b d:Nat}(h1:Mut S c n a b)(h2:Mut S c n b d):Mut S c n a d:=⟨Rch.trans h1.1 h2.1,Rch.trans h2.2 h1.2⟩
theorem aTo(M:Mch S rk c){g:Nat}(hr:r<S.length)(h:Mut S c n r g):dW S c n g=dW S c n r:=eq_of_testBit_eq fun x=>by
 have hg:=aCf M hr h.1
 have e:(dW S c n g).testBit x=true ↔ (dW S c n r).testBit x=true:=by
  rw[lR M hg,lR M hr]
  exact⟨fun z=>h.trans z,fun z=>h.symm.trans z⟩
 cases h1:(dW S c n g).testBit x with
 | true=>exact(e.mp h1).symm
 | false =>
  cases h2:(dW S c n r).testBit x with
  | true=>rw[e.mpr h2]at h1;cases h1
  | false=>rfl
def LpN(S:List (List Nat))(c n:Nat):Prop:=n≠0/\(∀ a∈aH n,∀ b∈aH n,Rch S c (inN n) a b)/\roundN S n=true
theorem aKe(f:Nat->Nat)(q:Nat->Bool):∀ (rs ps:List Nat) (m:Nat),m∈rs.foldl (fun ps r=>if f r ∉ ps/\q (f r)=true then ps++[f r] else ps) ps ↔ m∈ps\/∃ r∈rs,f r=m/\q m=true
 | [],ps,m=>by simp
 | r::rs,ps,m=>by
  rw[foldl_cons,aKe f q rs]
  by_cases h:f r ∉ ps/\q (f r)=true
  ·rw[if_pos h]
   constructor
   ·rintro(h1 | ⟨r',h1,h2⟩)
    ·rcases List.mem_append.mp h1 with h1 | h1
     ·exact .inl h1
     ·rw[List.mem_singleton]at h1
      exact .inr ⟨r,mem_cons_self,h1.symm,by rw[h1];exact h.2⟩
    ·exact .inr ⟨r',mem_cons_of_mem _ h1,h2⟩
   ·rintro(h1 | ⟨r',h1,h2,h3⟩)
    ·exact .inl (List.mem_append_left _ h1)
    ·rcases List.mem_cons.mp h1 with rfl | h1
     ·exact .inl (List.mem_append_right _ (by rw[h2];simp))
     ·exact .inr ⟨r',h1,h2,h3⟩
  ·rw[if_neg h]
   constructor
   ·rintro(h1 | ⟨r',h1,h2⟩)
    ·exact .inl h1
    ·exact .inr ⟨r',mem_cons_of_mem _ h1,h2⟩
   ·rintro(h1 | ⟨r',h1,h2,h3⟩)
    ·exact .inl h1
    ·rcases List.mem_cons.mp h1 with rfl | h1
     ·refine .inl (Classical.byContradiction fun z=>h ⟨by rw[h2];exact z,by rw[h2];exact h3⟩)
     ·exact .inr ⟨r',h1,h2,h3⟩
theorem yJ:m∈kW S c n ↔ ∃ r∈aH n,dW S c n r=m/\roundN S m=true:=by
 unfold kW
 rw[aKe (fun r=>dW S c n r) (roundN S)]
 simp
theorem aKf(f:Nat->Nat)(q:Nat->Bool)(m:Nat):∀ (rs:List Nat),(∀ r∈rs,f r=m)->rs.foldl (fun ps r=>if f r ∉ ps/\q (f r)=true then ps++[f r] else ps) [m]=[m]
 | [],_=>rfl
 | r::rs,h=>by
  rw[foldl_cons,if_neg fun z=>z.1 (by rw[h r mem_cons_self];simp)]
  exact aKf f q m rs fun r hr=>h r (mem_cons_of_mem _ hr)
theorem aOj(M:Mch S rk c)  (hn:n<2^S.length) (hr:r∈aH n) {g:Nat} (hg:g∈aH (dW S c n r)):g∈aH n:=by
 have h:=(lR M (bZ hn hr)).mp (aN.mp hg)
 exact aN.mpr (aF5 (al:=inN n) (aN.mp hr) h.1)
theorem aTp(M:Mch S rk c)  (hn:n<2^S.length) (hr:r∈aH n):r∈aH (dW S c n r):=aN.mpr ((lR M (bZ hn hr)).mpr ⟨.here,.here⟩)
theorem aQi(M:Mch S rk c)(hn:n<2^S.length):kW S c n=[n] ↔ LpN S c n:=by
 constructor
 ·intro h
  have hm:n∈kW S c n:=by rw[h];simp
  obtain⟨r,hr,e,hq⟩:=yJ.mp hm
  have hrl:=bZ hn hr
  refine⟨(fun z=>by rw[z]at hr;rw[aN,zero_testBit]at hr;cases hr),fun a ha b hb=>?_,hq⟩
  have ha':=(lR (n:=n) M hrl).mp (by rw[e];exact aN.mp ha)
  have hb':=(lR (n:=n) M hrl).mp (by rw[e];exact aN.mp hb)
  exact Rch.trans ha'.2 hb'.1
 ·rintro⟨h0,hs,hq⟩
  have all:∀ r∈aH n,dW S c n r=n:=fun r hr=>eq_of_testBit_eq fun g=>by
   have e:(dW S c n r).testBit g=true ↔ n.testBit g=true:=by
    rw[lR M (bZ hn hr)]
    constructor
    ·exact fun z=>aF5 (al:=inN n) (aN.mp hr) z.1
    ·exact fun z=>⟨hs r hr g (aN.mpr z),hs g (aN.mpr z) r hr⟩
   cases h1:(dW S c n r).testBit g with
   | true=>exact(e.mp h1).symm
   | false =>
    cases h2:n.testBit g with
    | true=>rw[e.mpr h2]at h1;cases h1
    | false=>rfl
  unfold kW
  cases h:aH n with
  | nil =>
   refine absurd ?_ h0
   have:=iJ n
   rw[h]at this
   exact this.symm
  | cons r T =>
   rw[h]at all
   have er:=all r mem_cons_self
   rw[foldl_cons,if_pos ⟨by simp,by rw[er];exact hq⟩,er,nil_append]
   exact aKf (fun r=>dW S c n r) (roundN S) n T fun r hr=>all r (mem_cons_of_mem _ hr)
theorem aHa(M:Mch S rk c)  (hn:n<2^S.length) (hr:r∈aH n) (hq:roundN S (dW S c n r)=true):LpN S c (dW S c n r):=by
 have hrl:=bZ hn hr
 refine⟨(fun z=>by have:=aTp M hn hr;rw[z,aN,zero_testBit]at this;cases this),fun a ha b hb=>?_,hq⟩
 have ha':=(lR M hrl).mp (aN.mp ha)
 have hb':=(lR M hrl).mp (aN.mp hb)
 have hal:=aCf M hrl ha'.1
 have h1:=aKd (n:=n) M hal ha'.2 ha'.1
 rw[aTo M hrl ha']at h1
 exact Rch.trans h1 (aKd M hrl hb'.1 hb'.2)
theorem aWz(M:Mch S rk c){m:Nat}(hn:n<2^S.length)(hm:LpN S c m)(hs:∀ g∈aH m,g∈aH n)(hr:r∈aH m):∀ g∈aH m,g∈aH (dW S c n r):=fun g hg=>by
 have up:∀ {a b:Nat},Rch S c (inN m) a b->Rch S c (inN n) a b:=fun h=>Rch.mono (fun g hg=>aN.mp (hs g (aN.mpr hg))) h
 exact aN.mpr ((lR M (bZ hn (hs r hr))).mpr ⟨up (hm.2.1 r hr g hg),up (hm.2.1 g hg r hr)⟩)
end
end Pu
namespace Pu
section
variable{S:List (List Nat)}{rk:List Nat}{c n:Nat}
def uP(rk:List Nat)(n:Nat):Int:=aDk ((aH n).map fun r=>(rk.getD r 0:Int))
theorem bAy(M:Mch S rk c)(hn:n<2^S.length)(h0:n≠0):uK [mD S rk c,.int n] = .ok (.int (uP rk n)):=by
 have n8:=M.most
 have hro:=lQ hn (by omega)
 have hlen:(aH n).length<=S.length:=gG S.length _ (dC _) fun x hx=>bZ hn hx
 have hpos:0<(aH n).length:=by
  cases h:aH n with
  | nil =>
   refine absurd ?_ h0
   have:=iJ n
   rw[h]at this
   exact this.symm
  | cons r T=>simp
 have ce:=sW (tg:=tgN 2) (c:=fD) (f:=pC) (st:=[some (.v (mD S rk c)),some (.v (.int n)),none]) (fun d=>match d with | .int i => .int (rk.getD i.toNat 0:Nat) | d=>d) (nats (aH n)) fun d hd=>by
  obtain⟨r,hr,rfl⟩:=aB7 hd
  have hr':r<rk.length:=by rw[M.rks];exact bZ hn hr
  have ea:atI (nats rk) (r:Int)=some (.int (rk.getD r 0:Nat)):=by
   rw[atI_nat (by rw[aZ];exact hr')]
   simp[nats,getD_eq_getElem?_getD,List.getElem?_eq_getElem hr']
  refine⟨_,rfl,rfl,?_⟩
  simp[pC,aA3,ea]
 have em:(nats (aH n)).map (fun d=>match d with | .int i=>D.int (rk.getD i.toNat 0:Nat) | d=>d)=((aH n).map fun r=>(rk.getD r 0:Int)).map D.int:=by
  unfold nats
  simp[Function.comp_def]
 rw[em]at ce
 have hc:cR [2] (tgN 2) (itE (aP cI (aC (aB 1) aX))) fD pC [some (.v (mD S rk c)),some (.v (.int n)),none] = .ok (.lst (((aH n).map fun r=>(rk.getD r 0:Int)).map D.int)):=by
  have hi:itE (aP cI (aC (aB 1) aX)) [some (.v (mD S rk c)),some (.v (.int n)),none] = .ok (nats (aH n)):=by simp[hro]
  rw[wJ,hi]
  simp only[aM,aZ]
  rw[aF (eU (by omega)),show clr [2] [some (Sl.v (mD S rk c)),some (.v (.int n)),none]=[some (.v (mD S rk c)),some (.v (.int n)),none] from rfl,ce]
  rfl
 refine cO rfl ?_
 unfold zY
 have h0':¬ (n:Int)=0:=by omega
 refine fX (by simp[h0',h0]) ?_
 show sNX _ [some (.v (mD S rk c)),some (.v (.int n)),none]=_
 rw[bAk,oZ,aSq,hc]
 have hm:aAr (.lst (((aH n).map fun r=>(rk.getD r 0:Int)).map D.int)) = .ok (.int (uP rk n)):=by
  show (sI _).bind _=_
  rw[mY,aM,aF (by rw[length_map];exact hpos)]
  rfl
 rw[aM,hm]
 rfl
end
end Pu
namespace Pu
section
theorem aMe(M:Mch S rk c)(hn:n<2^S.length):sV [mD S rk c,.int n] = .ok (.bl (decide (kW S c n=[n]))):=by
 have e:=aKc M hn
 obtain⟨p1,p2,_⟩:=fH (kW S c n)
 have h:=aDw (kW S c n) [n]
 refine cO rfl ?_
 unfold aC8
 have e1:[D.int (n:Int)]=nats [n]:=rfl
 simp[e,p1,p2]
 rw[e1,h]
end
end Pu
namespace Pu
def cvL(ns:List Int)(k:Nat):Int:=if k<ns.length then ns.getD k 0 else if ns.length=0 then 7919*(k:Int) else ns.getD (k%ns.length) 0/((k:Int)+1)+7919*(k:Int)
theorem aOk{k:Nat}(h:k<ns.length):atI (ns.map D.int) (k:Int)=some (.int (ns.getD k 0)):=by
 rw[atI_nat (by simpa using h)]
 simp[getD_eq_getElem?_getD,List.getElem?_eq_getElem h]
theorem aF9:∀ ns:List Int,eV (ns.map D.int)=true/\fP (ns.map D.int)=0
 | []=>⟨rfl,by simp⟩
 | x::ns=>by
  obtain⟨h1,h2⟩:=aF9 ns
  rw[map_cons]
  exact⟨by simp[h1],by simp[h2]⟩
theorem aTq(ns:List Int):gA (ns.map D.int) []=decide (ns.length=0):=by
 cases ns<;>simp[gA]
theorem aTr(ns:List Int)(k:Nat)(hk:k<=100000):fQ [.lst (ns.map D.int),.int k] = .ok (.int (cvL ns k)):=by
 have ln:e1 fC (aB 0) [some (.v (.lst (ns.map D.int))),some (.v (.int k))] = .ok (.int (ns.length:Nat)):=by
  show R.ok (D.int (((ns.map D.int).length:Nat):Int))=_
  rw[length_map]
 have m7:∀ i:Int,oE (.int 7919) (.int i) = .ok (.int (7919*i)):=fun i=>aF (.inl (by decide))
 refine cO rfl ?_
 unfold cvL
 by_cases h:k<ns.length
 ·rw[if_pos h]
  exact aEt (aB5 (aV rfl ln (by show R.ok (D.bl (decide ((k:Int)<(ns.length:Nat))))=_;rw[bAn h])) (gC (aV rfl rfl (jU (aOk h)))))
 ·rw[if_neg h]
  obtain⟨p1,p2⟩:=aF9 ns
  have t2:e2 dEq (aB 0) (qG (aX)) [some (.v (.lst (ns.map D.int))),some (.v (.int k))] = .ok (.bl (decide (ns.length=0))):=aV rfl (pP rfl) (by
   rw[<-aTq]
   exact aF ⟨by show fP (ns.map D.int)+1<=64;rw[p2];decide,p1,rfl⟩)
  refine aW (rN (aV rfl ln (by show R.ok (D.bl (decide ((k:Int)<(ns.length:Nat))))=_;rw[bAo h])) rfl) ?_
  by_cases h0:ns.length=0
  ·rw[if_pos h0]
   exact aEt (aB5 (pQ t2 (decide_eq_true h0)) (gC (aV rfl rfl (m7 _))))
  ·rw[if_neg h0]
   have hm:k%ns.length<ns.length:=mod_lt _ (Nat.pos_of_ne_zero h0)
   have ec:((k%ns.length:Nat):Int)=(k:Int)%(ns.length:Nat):=by push_cast;rfl
   have e:=aOk hm
   rw[ec]at e
   exact aW (rN (pQ t2 (decide_eq_false h0)) rfl) (gC (aV (aV (aV rfl (aV rfl ln (xJ (by omega))) (jU e)) (aV rfl rfl rfl) (aIf ⟨by omega,by omega⟩)) (aV rfl rfl (m7 _)) rfl))
theorem yK(ns:List Int)(i:Int)(h:0<=i)(hi:i<=100000):fQ [.lst (ns.map D.int),.int i] = .ok (.int (cvL ns i.toNat)):=by
 have:=aTr ns i.toNat (by omega)
 rwa [Int.toNat_of_nonneg h]at this
def xO(c k m:Int):Int :=
 let a:=(c%2147483647+7919*k)*48271%2147483629
 let b:=a*a%2147483647*69621%2147483587
 b*b%2147483629%m
theorem qN(c k:Int){m:Int}(h:0<m):0<=xO c k m/\xO c k m<m:=⟨emod_nonneg _ (by omega),emod_lt_of_pos _ h⟩
theorem lU(c k m:Int)(h:0<m):cA [.int c,.int k,.int m] = .ok (.int (xO c k m)):=by
 unfold cA zU xO
 have a0:∀ x:Int,0<=x%2147483629:=fun x=>emod_nonneg _ (by decide)
 have a1:∀ x:Int,x%2147483629<2147483629:=fun x=>emod_lt_of_pos _ (by decide)
 have b0:∀ x:Int,0<=x%2147483587:=fun x=>emod_nonneg _ (by decide)
 have b1:∀ x:Int,x%2147483587<2147483587:=fun x=>emod_lt_of_pos _ (by decide)
 generalize hA:(c%2147483647+7919*k)*48271%2147483629=a
 have h1:=a0 ((c%2147483647+7919*k)*48271)
 have h2:=a1 ((c%2147483647+7919*k)*48271)
 rw[hA]at h1 h2
 generalize hB:a*a%2147483647*69621%2147483587=b
 have h3:=b0 (a*a%2147483647*69621)
 have h4:=b1 (a*a%2147483647*69621)
 rw[hB]at h3 h4
 have g1 : -18446744073709551616<a:=by omega
 have g2:a<18446744073709551616:=by omega
 have g3 : -18446744073709551616<b:=by omega
 have g4:b<18446744073709551616:=by omega
 simp[hA,g1,g2,hB,g3,g4,h]
end Pu
namespace Pu
section
variable{ns:List Int}{cl f:Int}{n c:Nat}
def mst(ns:List Int)(mo cl f:Int)(n c:Nat)(S rk:List D)(x9 x10 x11 x12:Option Sl):PSt :=
 [some (.v (.lst (ns.map D.int))),some (.v (.int 0)),some (.v (.int mo)),some (.v (.int cl)),some (.v (.int n)),some (.v (.int c)),some (.v (.int f)),some (.o .l S),some (.o .l rk),x9,x10,x11,x12,none]
theorem aTs(r:List Nat)(k v:Nat):(nats r).set k (.int (v:Int))=nats (r.set k v):=by
 unfold nats
 rw[List.map_set]
theorem aX0(S:List (List Nat))(r:List Nat):stD (S++[r])=stD S++[.lst (nats r)]:=by unfold stD;simp
theorem aQj(rk:List Nat){v:Int}(h:0<=v):nats (rk++[v.toNat])=nats rk++[.int v]:=by
 unfold nats
 rw[List.map_append,List.map_singleton,Int.toNat_of_nonneg h]
theorem aX1{v f:Int}(h0:0<=v)(h7:v<7):oE (.int v) (.int f) = .ok (.int (v*f)):=aF (.inl ⟨by omega,by omega⟩)
theorem bAz{e:Ex}{st:PSt}  {j:Int}  (he:e st = .ok d) (hg:g st = .ok (.int j)) (hs:st[i]?=some (some (.o .l xs))) (h0:0<=j) (h1:j<xs.length):aSn i g e st = .ok (.nx (st.set i (some (.o .l (xs.set j.toNat d))))):=by
 have:ixN xs.length j=some j.toNat:=by
  unfold ixN
  rw[if_pos h0,if_pos h1]
 rw[aWh,he,aM,hg,aM,hs]
 show R.bind (ofO (ixN xs.length j)) _=_
 rw[this]
 rfl
theorem aMf(mo:Int)(hf:0<=f)(hn:1<=n/\n<=8)(hc:1<=c/\c<=3)(S:List (List Nat))(rk:List Nat)(hS:S.length<=1000)(hrk:rk.length<=1000)(x:Nat)(hx:x<n)(x10 x11 x12:Option Sl) :
  ∃ r v y10 y11 y12,jF (mst ns mo cl f n c (stD S) (nats rk) (some (.v (.int x))) x10 x11 x12) = .ok (.nx (mst ns mo cl f n c (stD (S++[r])) (nats (rk++[v])) (some (.v (.int x))) y10 y11 y12))/\r.length=c/\∀ z∈r,z<n:=by
 have hcell:=yK ns (0+2+x) (by omega) (by omega)
 generalize cvL ns (0+2+(x:Int)).toNat=one at hcell
 have n0:(0:Int)<n:=by omega
 have c0:(0:Int)<c:=by omega
 obtain⟨r0,e0,l0,b0⟩:=aGz (E:=sJ) (st:=mst ns mo cl f n c (stD S) (nats rk) (some (.v (.int x))) (some (.v (.int one))) x11 x12) (j:=13) (v:=5) (n:=c) (m:=n) rfl (by omega) (fun k hk=>⟨xO one (11+k) n,aR rfl (lU _ _ _ n0),qN _ _ n0⟩)
 have m0:=lU one 10 7 (by decide)
 obtain⟨m1,m2⟩:=qN one 10 (m:=7) (by decide)
 generalize xO one 10 7=rv at m0 m1 m2
 obtain⟨r1,e1',l1,b1⟩:=aGz (E:=jE) (st:=mst ns mo cl f n c (stD S) (nats rk) (some (.v (.int x))) (some (.v (.int one))) (some (.o .l (nats r0))) (some (.v (.int rv)))) (j:=13) (v:=5) (n:=c) (m:=n) rfl (by omega) (fun k hk=>by
  have go:∀ w:Int,0<w/\w<1073741824->atI [D.int 1,.int 8,.int 64] (k:Int)=some (.int w)->∃ i,jE (((mst ns mo cl f n c (stD S) (nats rk) (some (.v (.int x))) (some (.v (.int one))) (some (.o .l (nats r0))) (some (.v (.int rv)))).set 13 none).set 13 (some (.v (.int k)))) = .ok (.int i)/\0<=i/\i<n:=fun w hw ha=>by
   refine⟨one/w%n,aV (aV rfl (aV (pP rfl) rfl (?_:_=R.ok (D.int w))) (aIf hw)) rfl (xJ n0),emod_nonneg _ (by omega),emod_lt_of_pos _ n0⟩
   show ofO (atI [D.int 1,.int 8,.int 64] (k:Int))=_
   rw[ha]
   rfl
  have h3:k=0\/k=1\/k=2:=by omega
  rcases h3 with rfl | rfl | rfl
  ·exact go 1 (by decide) rfl
  ·exact go 8 (by decide) rfl
  ·exact go 64 (by decide) rfl)
 have m6:=lU cl 6 2 (by decide)
 have m3:=lU cl 3 2 (by decide)
 have m8:=lU one 8 4 (by decide)
 have m9:=lU one 9 c c0
 obtain⟨m91,m92⟩:=qN one 9 (m:=c) c0
 have up:∀ {r:List Nat} {v:Int} (b:Bd),0<=v->v<7->r.length=c->(∀ z∈r,z<n)->b (mst ns mo cl f n c (stD S) (nats rk) (some (.v (.int x))) (some (.v (.int one))) (some (.o .l (nats r0))) (some (.v (.int rv)))) = .ok (.nx (mst ns mo cl f n c (stD S) (nats rk) (some (.v (.int x))) (some (.v (.int one))) (some (.o .l (nats r))) (some (.v (.int v))))) ->
   ∃ r v y10 y11 y12,(bN b (bN (sFz [11] (aC5 7 (aB 11))) (aC5 8 (e2 oE (aB 12) (aB 6))))) (mst ns mo cl f n c (stD S) (nats rk) (some (.v (.int x))) (some (.v (.int one))) (some (.o .l (nats r0))) (some (.v (.int rv)))) = .ok (.nx (mst ns mo cl f n c (stD (S++[r])) (nats (rk++[v])) (some (.v (.int x))) y10 y11 y12))/\r.length=c/\∀ z∈r,z<n:=fun {r v} b h0 h7 hl hr h=>by
  refine⟨r,(v*f).toNat,some (.v (.int one)),some (.v (.lst (nats r))),some (.v (.int v)),aW h ?_,hl,hr⟩
  rw[aX0,aQj rk (Int.mul_nonneg h0 hf)]
  refine aW (st':=mst ns mo cl f n c (stD S++[.lst (nats r)]) (nats rk) (some (.v (.int x))) (some (.v (.int one))) (some (.v (.lst (nats r)))) (some (.v (.int v)))) ?_ ?_
  ·exact aEv (st:=mst ns mo cl f n c (stD S) (nats rk) (some (.v (.int x))) (some (.v (.int one))) (some (.v (.lst (nats r)))) (some (.v (.int v)))) rfl rfl (by rw[iT];omega)
  ·exact aEv (aV rfl rfl (aX1 h0 h7)) rfl (by rw[aZ];omega)
 have key:∃ r v y10 y11 y12,(bN (sIf (e2 dEq (aP cA (aC (aB 3) (aC (eC (.int 6)) (aC (eC (.int 2)) (aX))))) (eC (.int 0))) (bN (pL 11 (cR [13] (tgN 13) (uA (aB 5)) fD (jE))) (dU 12 (e2 rA (e2 aCu (aB 10) (eC (.int 512))) (eC (.int 7))))) (sIf (pJ (e2 dEq (aP cA (aC (aB 3) (aC (eC (.int 3)) (aC (eC (.int 2)) (aX))))) (eC (.int 0))) (e2 dGt (aP cA (aC (aB 10) (aC (eC (.int 8)) (aC (eC (.int 4)) (aX))))) (eC (.int 0)))) (aSn 11 (aP cA (aC (aB 10) (aC (eC (.int 9)) (aC (aB 5) (aX))))) (e2 rA (e2 mV (aB 9) (eC (.int 1))) (aB 4))) (eE))) (bN (sFz [11] (aC5 7 (aB 11))) (aC5 8 (e2 oE (aB 12) (aB 6))))) (mst ns mo cl f n c (stD S) (nats rk) (some (.v (.int x))) (some (.v (.int one))) (some (.o .l (nats r0))) (some (.v (.int rv)))) = .ok (.nx (mst ns mo cl f n c (stD (S++[r])) (nats (rk++[v])) (some (.v (.int x))) y10 y11 y12))/\r.length=c/\∀ z∈r,z<n:=by
  have t6:=aV (op:=dEq) (f:=aP cA (aC (aB 3) (aC (eC (.int 6)) (aC (eC (.int 2)) (aX))))) (g:=eC (.int 0)) (st:=mst ns mo cl f n c (stD S) (nats rk) (some (.v (.int x))) (some (.v (.int one))) (some (.o .l (nats r0))) (some (.v (.int rv)))) (aR rfl m6) rfl (xK _ _)
  by_cases h6:xO cl 6 2=0
  ·rw[decide_eq_true h6]at t6
   refine up (r:=r1) (v:=one/512%7) _ (emod_nonneg _ (by decide)) (emod_lt_of_pos _ (by decide)) l1 (fun z hz=>by have:=b1 z hz;omega) (aB5 t6 ?_)
   exact aW (st':=mst ns mo cl f n c (stD S) (nats rk) (some (.v (.int x))) (some (.v (.int one))) (some (.o .l (nats r1))) (some (.v (.int rv)))) (uN e1') (cG (aV (aV rfl rfl (aIf (by decide))) rfl (xJ (by decide))))
  ·rw[decide_eq_false h6]at t6
   have t3:=xH (st:=mst ns mo cl f n c (stD S) (nats rk) (some (.v (.int x))) (some (.v (.int one))) (some (.o .l (nats r0))) (some (.v (.int rv)))) (aV (aR (r:=aC (aB 3) (aC (eC (.int 3)) (aC (eC (.int 2)) (aX)))) rfl m3) (rfl:eC (.int 0) _=_) (xK _ _)) (fun _=>aV (op:=dGt) (aR (r:=aC (aB 10) (aC (eC (.int 8)) (aC (eC (.int 4)) (aX)))) rfl m8) (rfl:eC (.int 0) _=_) rfl)
   cases h3:decide (xO cl 3 2=0)&&decide (0<xO one 8 4) with
   | true =>
    rw[h3]at t3
    have hv:((x:Int)+1)%n=(((x+1)%n:Nat):Int):=by push_cast;rfl
    have hp:=aTs r0 (xO one 9 c).toNat ((x+1)%n)
    rw[<-hv]at hp
    refine up (r:=r0.set (xO one 9 c).toNat ((x+1)%n)) (v:=rv) _ m1 m2 (by rw[length_set];exact l0) (fun z hz=>by
     rcases List.mem_or_eq_of_mem_set hz with hz | rfl
     ·have:=b0 z hz;omega
     ·exact mod_lt _ (by omega)) (rN t6 (aB5 t3 ?_))
    rw[<-hp]
    exact bAz (aV (aV rfl rfl rfl) rfl (xJ n0)) (aR rfl m9) rfl m91 (by rw[aZ,l0];exact m92)
   | false =>
    rw[h3]at t3
    exact up (r:=r0) (v:=rv) _ m1 m2 l0 (fun z hz=>by have:=b0 z hz;omega) (rN t6 (rN t3 rfl))
 obtain⟨r,v,y10,y11,y12,hk,hl,hr⟩:=key
 refine⟨r,v,y10,y11,y12,?_,hl,hr⟩
 exact aW (st':=mst ns mo cl f n c (stD S) (nats rk) (some (.v (.int x))) (some (.v (.int one))) x11 x12) (cG (aR rfl hcell)) (aW (st':=mst ns mo cl f n c (stD S) (nats rk) (some (.v (.int x))) (some (.v (.int one))) (some (.o .l (nats r0))) x12) (uN e0) (aW (st':=mst ns mo cl f n c (stD S) (nats rk) (some (.v (.int x))) (some (.v (.int one))) (some (.o .l (nats r0))) (some (.v (.int rv)))) (cG (aR rfl m0)) hk))
theorem aFa(mo:Int)(hf:0<=f)(hn:1<=n/\n<=8)(hc:1<=c/\c<=3):∀ (ks:List Nat) (S:List (List Nat)) (rk:List Nat) (x9 x10 x11 x12:Option Sl),(∀ x∈ks,x<n)->S.length+ks.length<=1000->rk.length=S.length->(∀ r∈S,r.length=c/\∀ z∈r,z<n) ->
  ∃ S' rk' y9 y10 y11 y12,forR (tgN 9) jF (ks.map fun(k:Nat)=>D.int (k:Int)) (mst ns mo cl f n c (stD S) (nats rk) x9 x10 x11 x12) = .ok (.nx (mst ns mo cl f n c (stD S') (nats rk') y9 y10 y11 y12))/\S'.length=S.length+ks.length/\rk'.length=S'.length/\∀ r∈S',r.length=c/\∀ z∈r,z<n
 | [],S,rk,x9,x10,x11,x12,_,_,he,hr=>⟨S,rk,x9,x10,x11,x12,rfl,rfl,he,hr⟩
 | x::ks,S,rk,x9,x10,x11,x12,hk,hl,he,hr=>by
  rw[length_cons]at hl
  obtain⟨r,v,y10,y11,y12,t,tl,tr⟩:=aMf (ns:=ns) (cl:=cl) mo hf hn hc S rk (by omega) (by omega) x (hk x mem_cons_self) x10 x11 x12
  obtain⟨S',rk',z9,z10,z11,z12,e,h1,h2,h3⟩:=aFa mo hf hn hc ks (S++[r]) (rk++[v]) (some (.v (.int x))) y10 y11 y12 (fun x hx=>hk x (mem_cons_of_mem _ hx)) (by rw[length_append,length_singleton];omega) (by rw[length_append,length_append,length_singleton,length_singleton,he]) (fun r' hr'=>by
   rcases List.mem_append.mp hr' with h | h
   ·exact hr r' h
   ·rw[List.mem_singleton.mp h];exact⟨tl,tr⟩)
  refine⟨S',rk',z9,z10,z11,z12,?_,by rw[h1,length_append,length_singleton,length_cons];omega,h2,h3⟩
  rw[<-e,map_cons,mX]
  show (jF (mst ns mo cl f n c (stD S) (nats rk) (some (.v (.int x))) x10 x11 x12)).bind _=_
  rw[t]
  rfl
end
theorem aYz{xs:List D}{a:Int}(h:xs.length=4)(h0:0<=a)(h1:a<4):∃ d∈xs,dIx (.lst xs) (.int a) = .ok d:=by
 obtain⟨d,hd,e⟩:=aWk h0 (show a<xs.length by omega)
 exact⟨d,hd,by show ofO (atI xs a)=_;rw[e];rfl⟩
theorem aTt(ns:List Int){mo:Int}(h1:1<=mo)(h8:mo<=8):∃ S rk c,iW [.lst (ns.map D.int),.int 0,.int mo] = .ok (.tup [.lst (stD S),.lst (nats rk)])/\Mch S rk c:=by
 have hc0:=yK ns 0 (by decide) (by decide)
 have hc1:=yK ns (0+1) (by decide) (by decide)
 generalize cvL ns (0:Int).toNat=cl at hc0
 generalize cvL ns (0+1:Int).toNat=cl1 at hc1
 let st (x3 x4 x5 x6 x7 x8:Option Sl):PSt:=[some (.v (.lst (ns.map D.int))),some (.v (.int 0)),some (.v (.int mo)),x3,x4,x5,x6,x7,x8,none,none,none,none,none]
 obtain⟨w,hw,w1,w8⟩:∃ w:Int,e2 dIx (qG (aC (eC (.int 4)) (aC (eC (.int 5)) (aC (eC (.int 5)) (aC (aB 2) aX))))) (aP cA (aC (aB 3) (aC (eC (.int 5)) (aC (eC (.int 4)) aX)))) (st (some (.v (.int cl))) none none none none none) = .ok (.int w)/\1<=w/\w<=8:=by
  obtain⟨a1,a2⟩:=qN cl 5 (m:=4) (by decide)
  obtain⟨d,hd,e⟩:=aYz (xs:=[.int 4,.int 5,.int 5,.int mo]) rfl a1 a2
  have:∃ w:Int,d = .int w/\1<=w/\w<=8:=by
   simp only[mem_cons,not_mem_nil,or_false]at hd
   rcases hd with rfl | rfl | rfl | rfl
   ·exact⟨4,rfl,by decide,by decide⟩
   ·exact⟨5,rfl,by decide,by decide⟩
   ·exact⟨5,rfl,by decide,by decide⟩
   ·exact⟨mo,rfl,h1,h8⟩
  obtain⟨w,rfl,hw⟩:=this
  exact⟨w,aV (pP rfl) (aR rfl (lU cl 5 4 (by decide))) e,hw⟩
 have m1:=lU cl 1 w (by omega)
 obtain⟨m11,m12⟩:=qN cl 1 (m:=w) (by omega)
 have m2:=lU cl 2 3 (by decide)
 obtain⟨m21,m22⟩:=qN cl 2 (m:=3) (by decide)
 obtain⟨n,hn⟩:∃ n:Nat,1+xO cl 1 w=n:=⟨(1+xO cl 1 w).toNat,by omega⟩
 obtain⟨c,hc⟩:∃ c:Nat,1+xO cl 2 3=c:=⟨(1+xO cl 2 3).toNat,by omega⟩
 obtain⟨f,hf,f0⟩:∃ f:Int,e2 dIx (qG (aC (eC (.int 1)) (aC (eC (.int 1)) (aC (eC (.int 1)) (aC (e2 mV (eC (.int 1)) (e2 oE (eC (.int 2)) (e2 rA (aP fQ (aC (aB 0) (aC (e2 mV (aB 1) (eC (.int 1))) (aX)))) (e2 aSl (eC (.int 10)) (eC (.int 27)))))) (aX)))))) (aP cA (aC (aB 3) (aC (eC (.int 4)) (aC (eC (.int 4)) (aX))))) (st (some (.v (.int cl))) (some (.v (.int n))) (some (.v (.int c))) none none none) = .ok (.int f)/\0<=f:=by
  obtain⟨a1,a2⟩:=qN cl 4 (m:=4) (by decide)
  have g0:0<=cl1%10^27:=emod_nonneg _ (by decide)
  obtain⟨d,hd,e⟩:=aYz (xs:=[.int 1,.int 1,.int 1,.int (1+2*(cl1%10^27))]) rfl a1 a2
  have:∃ w:Int,d = .int w/\0<=w:=by
   simp only[mem_cons,not_mem_nil,or_false]at hd
   rcases hd with rfl | rfl | rfl | rfl
   ·exact⟨1,rfl,by decide⟩
   ·exact⟨1,rfl,by decide⟩
   ·exact⟨1,rfl,by decide⟩
   ·exact⟨_,rfl,by omega⟩
  obtain⟨w,rfl,hw⟩:=this
  refine⟨w,aV (pP (bR rfl (bR rfl (bR rfl (bR (aV rfl (aV rfl (aV (aR rfl hc1) (aV rfl rfl (?_:_=R.ok (D.int (10^27)))) (xJ (j:=10^27) (by decide))) (?_:_=R.ok (D.int (2*(cl1%10^27))))) rfl) rfl))))) (aR rfl (lU cl 4 4 (by decide))) e,hw⟩
  ·exact aF ⟨by decide,by decide,by decide⟩
  ·exact aF (.inl (by decide))
 obtain⟨S,rk,y9,y10,y11,y12,e,k1,k2,k3⟩:=aFa (ns:=ns) (cl:=cl) (f:=f) (n:=n) (c:=c) mo f0 (by omega) (by omega) (List.range n) [] [] none none none none (fun x hx=>List.mem_range.mp hx) (by simp;omega) rfl (fun _ h=>nomatch h)
 rw[length_range,length_nil,Nat.zero_add]at k1
 refine⟨S,rk,c,cO rfl ?_,⟨by omega,by omega,by omega,by omega,by rw[k1];exact k3,k2⟩⟩
 refine aW (st':=st (some (.v (.int cl))) none none none none none) (cG (aR rfl hc0)) ?_
 refine aW (st':=st (some (.v (.int cl))) (some (.v (.int n))) none none none none) (cG (aV rfl (aR (bR rfl (bR rfl (bR hw rfl))) m1) (by rw[<-hn];rfl))) ?_
 refine aW (st':=st (some (.v (.int cl))) (some (.v (.int n))) (some (.v (.int c))) none none none) (cG (aV rfl (aR rfl m2) (by rw[<-hc];rfl))) ?_
 refine aW (st':=st (some (.v (.int cl))) (some (.v (.int n))) (some (.v (.int c))) (some (.v (.int f))) none none) (cG hf) ?_
 refine aW (st':=st (some (.v (.int cl))) (some (.v (.int n))) (some (.v (.int c))) (some (.v (.int f))) (some (.o .l [])) none) (uN (pP rfl)) ?_
 refine aW (st':=mst ns mo cl f n c [] [] none none none none) (uN (pP rfl)) ?_
 refine aW (st':=mst ns mo cl f n c (stD S) (nats rk) y9 y10 y11 y12) (nF (aJv rfl (by omega)) e) ?_
 exact gC (aF (eU (by show 2<=_;decide)))
end Pu
namespace Pu
theorem aX2{a b n r:Nat}{st:PSt}(ha:st[a]?=some (some (.v (.int (n:Int)))))(hb:st[b]?=some (some (.v (.int (r:Int))))):(e2 dEq (e2 zT (e2 aC6 (aB a) (aB b)) (eC (.int 1))) (eC (.int 1))) st = .ok (.bl (n.testBit r)):=by
 have ht:=aK7 n r
 have h0:0<=(n:Int)/2^r:=Int.ediv_nonneg (by omega) (Int.pow_nonneg (by decide))
 have t1:e2 aC6 (aB a) (aB b) st = .ok (.int ((n:Int)/2^r)):=by simp[ha,hb]
 have t2:e2 zT (e2 aC6 (aB a) (aB b)) (eC (.int 1)) st = .ok (.int ((if n.testBit r=true then 1 else 0:Nat):Int)):=by
  rw[aCv,t1,aM,aSp,aM,aK6,aF ⟨h0,by decide⟩,ht]
 rw[aCv,t2]
 cases n.testBit r<;>simp
section
variable{S:List (List Nat)}{rk:List Nat}{s c p j n:Nat}{acc:List (Nat × List Nat)}
def ast(S:List (List Nat))(n s:Nat)(acc:List (Nat × List Nat))(p:Nat)(x5:Option Sl):PSt :=
 [some (.v (.lst (stD S))),some (.v (.int n)),some (.v (.int s)),some (.o .l (kD acc)),some (.v (.int p)),x5]
theorem aMg(M:Mch S rk c)(b:BM S s c (inN n) p j acc)(g:Nat)(w:List Nat):lH (ast S n s acc p (some (.v (.int g)))) = .ok (.nx (ast S n s (bst (inN n) acc g w) p (some (.v (.int g))))):=by
 have n8:=M.most
 have hlen:=b.len
 obtain⟨p1,p2,_⟩:=fH (acc.map (·.1))
 have t2:e2 mW (aB 5) (dR 3) (ast S n s acc p (some (.v (.int g)))) = .ok (.bl (!decide (g∈acc.map (·.1)))):=aV rfl rfl (by
  show mW (.int g) (.lst (kD acc))=_
  rw[<-yG,aOd]
  exact aF ⟨by rw[p2];decide,rfl,p1⟩)
 have t:=xH (aX2 (a:=1) (b:=5) (n:=n) (r:=g) (st:=ast S n s acc p (some (.v (.int g)))) rfl rfl) fun _=>t2
 unfold bst
 by_cases h:inN n g=true/\g ∉ acc.map (·.1)
 ·rw[if_pos h]
  rw[show n.testBit g=true from h.1,decide_eq_false h.2]at t
  refine aB5 t ?_
  rw[aEv (xs:=kD acc) (d := .int g) rfl rfl (by rw[aF1];omega),<-aMb acc g w]
  rfl
 ·rw[if_neg h]
  refine rN (pQ t ?_) rfl
  cases h1:n.testBit g with
  | false=>rfl
  | true=>rw[decide_eq_true (Classical.byContradiction fun z=>h ⟨h1,z⟩)];rfl
theorem aD2(M:Mch S rk c):∀ (m j:Nat) (acc:List (Nat × List Nat)) (x5:Option Sl) (x:Nat × List Nat),j+m=c->BM S s c (inN n) p j acc->acc[p]?=some x ->
  ∃ acc' y5,forR (tgN 5) lH ((List.range' j m).map fun l=>D.int (stp S x.1 l:Nat)) (ast S n s acc p x5) = .ok (.nx (ast S n s acc' p y5))/\BM S s c (inN n) p c acc'/\acc'[p]?=some x
 | 0,j,acc,x5,x,hj,b,hx=>⟨acc,x5,rfl,by rw[show c=j by omega]at b ⊢; exact b,hx⟩
 | m+1,j,acc,x5,x,hj,b,hx=>by
  obtain⟨acc',y5,e,b',hx'⟩:=aD2 M m (j+1) _ (some (.v (.int (stp S x.1 j)))) x (by omega) (b.turn M hx (by omega)) (aTh hx)
  refine⟨acc',y5,?_,b',hx'⟩
  rw[List.range'_succ,map_cons,mX]
  show (lH (ast S n s acc p (some (.v (.int (stp S x.1 j)))))).bind _=_
  rw[aMg M b _ (x.2++[97+j])]
  exact e
theorem aTu(M:Mch S rk c){h:Nat}(hh:h<S.length):nats S[h]=(List.range' 0 c).map fun l=>D.int (stp S h l:Nat):=by
 have hr:=(M.row S[h] (List.getElem_mem hh)).1
 have e:∀ l,stp S h l=S[h].getD l 0:=fun l=>by simp[stp,getD_eq_getElem?_getD,List.getElem?_eq_getElem hh]
 have h1:=M.c1
 have h3:=M.c3
 simp only[e]
 generalize S[h]=r at hr
 match r,hr with
 | [],hr=>simp at hr;omega
 | [a],hr=>subst hr;rfl
 | [a,b],hr=>subst hr;rfl
 | [a,b,d],hr=>subst hr;rfl
 | _::_::_::_::r,hr=>simp at hr;omega
theorem aD3(M:Mch S rk c):∀ (m p:Nat) (acc:List (Nat × List Nat)) (x5:Option Sl) (f:Nat),S.length+1<=m+p->m<=f->BM S s c (inN n) p 0 acc->p<=acc.length ->
  ∃ acc' y5,jQ pM wR f (ast S n s acc p x5) = .ok (.nx (ast S n s acc' acc'.length y5))/\BM S s c (inN n) acc'.length 0 acc'
 | 0,p,acc,x5,f,hm,hf,b,hp=>by have:=b.len;omega
 | m+1,p,acc,x5,f,hm,hf,b,hp=>by
  obtain⟨f,rfl⟩:∃ g,f=g+1:=⟨f-1,by omega⟩
  have test:pM (ast S n s acc p x5) = .ok (.bl (decide ((p:Int)<((kD acc).length:Nat)))):=aV rfl rfl rfl
  rw[aF1]at test
  by_cases h:p<acc.length
  ·have hx:acc[p]?=some acc[p]:=List.getElem?_eq_getElem h
   generalize acc[p]=x at hx
   obtain⟨l1,_,_⟩:=b.lt x (List.mem_of_getElem? hx)
   obtain⟨acc',y5,e,b',hx'⟩:=aD2 M c 0 acc x5 x (by omega) b hx
   have hp':p<acc'.length:=(List.getElem?_eq_some_iff.mp hx').1
   obtain⟨acc2,z5,ew,b3⟩:=aD3 M m (p+1) acc' y5 f (by omega) (by omega) b'.next (by omega)
   refine⟨acc2,z5,aJw (pQ test (bAn h)) (st':=ast S n s acc' (p+1) y5) (aW (st':=ast S n s acc' p y5) (nF (xs:=nats S[x.1]) ?_ ?_) (cG rfl)) ew,b3⟩
   ·show ((e2 dIx (aB 0) (e2 dIx (dR 3) (aB 4))) (ast S n s acc p x5)).bind _=_
    rw[aV (rfl:aB 0 (ast S n s acc p x5)=_) (aV rfl rfl (jU (aYx hx))) (jU (aCd l1))]
    rfl
   ·rw[aTu M l1]
    exact e
  ·have:p=acc.length:=by omega
   subst this
   exact⟨acc,x5,aGy (pQ test (bAo h)),b⟩
theorem aKg(M:Mch S rk c){s:Nat}(hs:s<S.length)(n:Nat):∃ l:List Nat,fU [.lst (stD S),.int n,.int s] = .ok (.lst (nats l))/\l.Nodup/\∀ g,g∈l ↔ Rch S c (inN n) s g:=by
 have n8:=M.most
 obtain⟨acc,x5,e,b⟩:=aD3 (n:=n) M (S.length+1) 0 [(s,[])] none 100000 (by omega) (by omega) (BM.start hs) (by simp)
 refine⟨acc.map (·.1),cO rfl ?_,b.nd,fun g=>b.whole⟩
 unfold uC
 refine aW (st':=[some (.v (.lst (stD S))),some (.v (.int n)),some (.v (.int s)),some (.o .l (kD [(s,[])])),none,none]) (by simp[kD,eU]) ?_
 refine aW (st':=ast S n s [(s,[])] 0 none) (by simp[ast]) ?_
 refine aW (st':=ast S n s acc acc.length x5) (by rw[aGw];exact e) ?_
 simp[ast,ofK,aOd]
theorem sub_len{l m:List Nat}(h1:l.Nodup)(hs:∀ x∈l,x∈m)(he:l.length=m.length){x:Nat}(hx:x∈m):x∈l:=by
 refine Classical.byContradiction fun hn=>?_
 have:(x::l).length<=m.length:=List.Nodup.length_le_of_subset (List.nodup_cons.mpr ⟨hn,h1⟩) fun y hy=>by
  rcases List.mem_cons.mp hy with rfl | hy
  ·exact hx
  ·exact hs y hy
 rw[length_cons]at this
 omega
theorem aQk(M:Mch S rk c){r:Nat}{T:List Nat}(hr:r<S.length){x0:D}{e:Ex}{st:PSt}(hm:aH n=r::T)(hv:st[2]?=some (some (.v (.lst (nats (r::T))))))(he:e st = .ok (.lst (stD S))):(eOr (e2 dGt (e1 fC (aB 2)) (eC (.int 1))) (pJ (e2 dEq (e1 fC (aB 2)) (eC (.int 1))) (e2 dIn (e2 dIx (aB 2) (eC (.int 0))) (e2 dIx e (e2 dIx (aB 2) (eC (.int 0))))))) st = .ok (.bl (roundN S n)):=by
 have v2:aB 2 st = .ok (.lst (nats (r::T))):=by unfold aB;rw[hv]
 have ln:e1 fC (aB 2) st = .ok (.int ((T.length+1:Nat):Int)):=by
  show (aB 2 st).bind fC=_
  rw[v2]
  show R.ok (D.int (((nats (r::T)).length:Nat):Int))=_
  rw[aZ]
  rfl
 have v0:e2 dIx (aB 2) (eC (.int 0)) st = .ok (.int r):=aV v2 rfl (jU (atI_nat (i:=0) (by rw[aZ];exact Nat.succ_pos _)))
 have hg:S.getD r []=S[r]:=by rw[getD_eq_getElem?_getD,List.getElem?_eq_getElem hr];rfl
 obtain⟨p1,p2,_⟩:=fH S[r]
 have i0:e2 dIn (e2 dIx (aB 2) (eC (.int 0))) (e2 dIx e (e2 dIx (aB 2) (eC (.int 0)))) st = .ok (.bl (decide (r∈S[r]))):=aV v0 (aV he v0 (jU (aCd hr))) (by rw[<-yG];exact aF ⟨by rw[p2];exact zero_le 60,rfl,p1⟩)
 have t:=aJu (aV ln (rfl:eC (.int 1) st=_) (rfl:dGt _ _=_)) fun _=>xH (aV ln (rfl:eC (.int 1) st=_) (xK _ _)) fun _=>i0
 refine pQ t ?_
 unfold roundN
 rw[hm]
 show (decide ((1:Int)<((T.length+1:Nat):Int))||(decide (((T.length+1:Nat):Int)=1)&&decide (r∈S[r])))=(decide (1<T.length+1)||decide (r∈S.getD r []))
 rw[hg]
 by_cases h:1<T.length+1
 ·rw[decide_eq_true h,decide_eq_true (by omega:(1:Int)<((T.length+1:Nat):Int))];rfl
 ·rw[decide_eq_false h,decide_eq_false (by omega:¬ (1:Int)<((T.length+1:Nat):Int)),decide_eq_true (by omega:((T.length+1:Nat):Int)=1)];rfl
open Classical in
theorem aMh(M:Mch S rk c)(hn:n<2^S.length):lJ [.lst (stD S),.int n] = .ok (.bl (decide (LpN S c n))):=by
 have n8:=M.most
 have ce:=fY (tg:=tgN 3) (C:=sS) (E:=sO) (st:=[some (.v (.lst (stD S))),some (.v (.int n)),none,none]) (q:=fun r=>n.testBit r) (G:=fun r => .int r) (List.range S.length) (fun r _=>⟨_,rfl,aX2 (a:=1) (b:=3) rfl rfl,rfl⟩)
 rw[aF4 hn]at ce
 have hi:uA (e1 fC (aB 0)) [some (.v (.lst (stD S))),some (.v (.int n)),none,none] = .ok (nats (List.range S.length)):=aJv (by rw[<-iT S];rfl) (by omega)
 refine cO rfl (aW (st':=[some (.v (.lst (stD S))),some (.v (.int n)),some (.v (.lst (nats (aH n)))),none]) (cG (jZ hi (by rw[aZ,length_range];omega) ce)) ?_)
 obtain⟨x',look⟩:=aEu (L:=sU) (j:=3) (fun x=>[some (.v (.lst (stD S))),some (.v (.int n)),some (.v (.lst (nats (aH n)))),x]) (fun _ _=>rfl) (fun r => !decide (∀ b∈aH n,Rch S c (inN n) r b)) (fun _ => .bl false) (aH n) (fun r hr=>by
  have hrl:=bZ hn hr
  obtain⟨l,e,nd,hl⟩:=aKg M hrl n
  have hsub:∀ x∈l,x∈aH n:=fun x hx=>aN.mpr (aF5 (al:=inN n) (aN.mp hr) ((hl x).mp hx))
  have t:=aV (op:=dNe) (f:=e1 fC (aP fU (aC (aB 0) (aC (aB 1) (aC (aB 3) (aX)))))) (g:=e1 fC (aB 2)) (st:=[some (.v (.lst (stD S))),some (.v (.int n)),some (.v (.lst (nats (aH n)))),some (.v (.int r))]) (x := .int (l.length:Nat)) (y := .int ((aH n).length:Nat)) (by rw[<-aZ l];show R.bind (fU [.lst (stD S),.int n,.int r]) _=_;rw[e];rfl) (by rw[<-aZ (aH n)];rfl) (aT3 _ _)
  by_cases h:∀ b∈aH n,Rch S c (inN n) r b
  ·have he:l.length=(aH n).length:=Nat.le_antisymm (List.Nodup.length_le_of_subset nd hsub) (List.Nodup.length_le_of_subset (dC n) fun x hx=>(hl x).mpr (h x hx))
   rw[if_neg (by rw[decide_eq_true h];decide)]
   exact rN (pQ t (by rw[decide_eq_true (by omega)];rfl)) rfl
  ·have he:¬ l.length=(aH n).length:=fun z=>h fun b hb=>(hl b).mp (sub_len nd hsub z hb)
   rw[if_pos (by rw[decide_eq_false h];rfl)]
   exact aB5 (pQ t (by rw[decide_eq_false (by omega)];rfl)) rfl) none
 cases hf:(aH n).find? (fun r => !decide (∀ b∈aH n,Rch S c (inN n) r b)) with
 | some k =>
  rw[hf]at look
  have h1:=List.find?_some hf
  have h2:=List.mem_of_find?_eq_some hf
  have hno:¬ LpN S c n:=fun z=>by
   rw[decide_eq_true (z.2.1 k h2)]at h1
   cases h1
  rw[decide_eq_false hno]
  exact aEt (nF rfl look)
 | none =>
  rw[hf]at look
  have hall:∀ a∈aH n,∀ b∈aH n,Rch S c (inN n) a b:=fun a ha=>by
   have:=List.find?_eq_none.mp hf a ha
   exact Classical.byContradiction fun z=>this (by rw[decide_eq_false z];rfl)
  refine aW (nF rfl look) (gC ?_)
  cases hm:aH n with
  | nil =>
   have h0:n=0:=by
    have:=iJ n
    rw[hm]at this
    exact this.symm
   rw[decide_eq_false fun z=>z.1 h0]
   exact aJu (p:=false) (q:=false) (aV rfl rfl rfl) fun _=>xH (p:=false) (q:=false) (aV rfl rfl (xK 0 1)) fun h=>nomatch h
  | cons r T =>
   have h0:n≠0:=fun z=>by
    have:r∈aH n:=by rw[hm];exact mem_cons_self
    rw[z,aN,zero_testBit]at this
    cases this
   have hrl:r<S.length:=bZ hn (by rw[hm];exact mem_cons_self)
   have hd:decide (LpN S c n)=roundN S n:=by
    by_cases h:roundN S n=true
    ·rw[h,decide_eq_true ⟨h0,hall,h⟩]
    ·rw[decide_eq_false fun z=>h z.2.2];simpa using h
   rw[hd]
   exact aQk M (x0 := .non) hrl hm rfl rfl
open Classical in
noncomputable def rP(S:List (List Nat))(c:Nat):List Nat:=(List.range' 1 (2^S.length-1)).filter fun m=>decide (LpN S c m)
open Classical in
theorem aQl{m:Nat}:m∈rP S c ↔ m<2^S.length/\LpN S c m:=by
 unfold rP
 rw[List.mem_filter,List.mem_range'_1,decide_eq_true_eq]
 constructor
 ·rintro⟨h1,h2⟩
  exact⟨by omega,h2⟩
 ·rintro⟨h1,h2⟩
  have:=h2.1
  exact⟨by omega,h2⟩
theorem aMi(n:Nat):gB 1 n=nats (List.range' 1 n):=by
 unfold gB nats
 rw[List.range'_eq_map_range,List.map_map]
 refine List.map_congr_left fun k _=>?_
 show D.int (1+(k:Int))=D.int ((1+k:Nat):Int)
 push_cast
 rfl
theorem aOl(M:Mch S rk c):2^S.length<=256:=by
 have:=M.most
 have:2^S.length<=2^8:=Nat.pow_le_pow_right (by decide) this
 omega
theorem aQm(M:Mch S rk c):pA [.lst (stD S)] = .ok (.lst (nats (rP S c))):=by
 have n8:=M.most
 have n2:=aOl M
 have n1:1<=2^S.length:=Nat.one_le_two_pow
 have ce:=fY (tg:=tgN 1) (C:=pO) (E:=pN) (st:=[some (.v (.lst (stD S))),none]) (q:=fun m=>@decide (LpN S c m) (Classical.propDecidable _)) (G:=fun r => .int r) (List.range' 1 (2^S.length-1)) (fun m hm=>⟨_,rfl,by
  have hlt:m<2^S.length:=by have:=(List.mem_range'_1.mp hm).2;omega
  have:=aMh M hlt
  simp[pO,this],by simp[pN]⟩)
 refine cO rfl ?_
 unfold uD
 show dO _ [some (.v (.lst (stD S))),none]=_
 have hi:aWc (eC (.int 1)) (e2 vY (eC (.int 1)) (e1 fC (aB 0))) [some (.v (.lst (stD S))),none] = .ok (nats (List.range' 1 (2^S.length-1))):=by
  rw[<-aMi]
  have g1:(S.length:Int)<=1000000:=by omega
  have g2:(2:Int)^S.length=((2^S.length:Nat):Int):=by push_cast;rfl
  have g3:(2:Int)^S.length<=(big:Int):=by rw[g2];exact tY (by omega)
  have g4 : -(big:Int)<=(2:Int)^S.length:=by rw[g2];exact aDr (by omega)
  have g5 : -(big:Int)<=1:=aDr (by decide)
  have g6:(1:Int)<=(big:Int):=tY (by decide)
  have g7:((2:Int)^S.length-1).toNat=2^S.length-1:=by rw[g2];omega
  simp[iT,g1,g3,g4,g5,g6,g7]
 rw[oZ,wJ,hi]
 simp only[aM,aZ,List.length_range']
 rw[aF (eU (by omega)),show clr [1] [some (Sl.v (.lst (stD S))),none]=[some (.v (.lst (stD S))),none] from rfl,ce]
 rfl
end
end Pu
namespace Pu
section
theorem aTv{m o:Nat}:o|||m=o ↔ ∀ g∈aH m,g∈aH o:=by
 constructor
 ·intro h g hg
  rw[aN]at hg ⊢
  rw[<-h,testBit_or,hg,Bool.or_true]
 ·intro h
  refine eq_of_testBit_eq fun g=>?_
  rw[testBit_or]
  cases hm:m.testBit g with
  | false=>rw[Bool.or_false]
  | true=>rw[aN.mp (h g (aN.mpr hm))];rfl
theorem bB0{m o:Nat}(h1:∀ g∈aH m,g∈aH o)(h2:∀ g∈aH o,g∈aH m):m=o:=by
 rw[<-iJ m,<-iJ o]
 exact aIg fun r=>⟨h1 r,h2 r⟩
theorem aTw{m o:Nat}(hm:LpN S c m)(hs:∀ g∈aH m,g∈aH o):roundN S o=true:=by
 have hq:=hm.2.2
 have hne:∃ r,r∈aH m:=by
  cases h:aH m with
  | nil =>
   refine absurd ?_ hm.1
   have:=iJ m
   rw[h]at this
   exact this.symm
  | cons r T=>exact⟨r,by simp⟩
 obtain⟨r,hr⟩:=hne
 have hl:(aH m).length<=(aH o).length:=List.Nodup.length_le_of_subset (dC m) fun x hx=>hs x hx
 unfold roundN at hq ⊢
 by_cases h1:1<(aH o).length
 ·rw[decide_eq_true h1];rfl
 ·have he:(aH m).length=(aH o).length:=by
   have:0<(aH m).length:=List.length_pos_of_mem hr
   omega
  have:m=o:=bB0 hs fun g hg=>sub_len (dC m) hs he hg
  rw[<-this]
  exact hq
theorem eqE{a b:Ex}{m o:Nat}{st:PSt}(ha:a st = .ok (.int (m:Int)))(hb:b st = .ok (.int (o:Int))):e2 dEq a b st = .ok (.bl (decide (m=o))):=by
 rw[aCv,ha,aM,hb,aM]
 by_cases h:m=o
 ·subst h;simp
 ·have:¬ (m:Int)=(o:Int):=by omega
  simp[h,this]
theorem aQn:(rP S c).length<=2^S.length:=by
 unfold rP
 refine Nat.le_trans (length_filter_le _ _) ?_
 rw[List.length_range']
 exact Nat.sub_le _ _
end
end Pu
namespace Pu
section
theorem aFb:bY (List.range n)<2^n:=yI fun r hr=>List.mem_range.mp hr
theorem aOm(M:Mch S rk c):lC [mD S rk c] = .ok (.int (bY (List.range S.length))):=by
 have n8:=M.most
 refine cO rfl (gC (aR (bR (d := .lst (nats (List.range S.length))) ?_ rfl) (aBb (fun r hr=>by have:=List.mem_range.mp hr;omega) (by rw[length_range];omega))))
 show R.bind (iQ "Machine" "many" (mD S rk c)) aI9=_
 rw[aEy,aM,<-xM]
 exact aF ⟨aDr (by omega),tY (by omega)⟩
theorem aX3(M:Mch S rk c){st:PSt}(h:st[0]?=some (some (.v (mD S rk c)))):aP jG (aC (e1 (iQ "Machine" "steps") (aB 0)) (aC (aP lC (aC (aB 0) (aX))) (aX))) st = .ok (.dct false (nats (aH (bY (List.range S.length)))) ((aH (bY (List.range S.length))).map fun r=>D.int (eO S c (bY (List.range S.length)) r:Nat))):=by
 have e:aB 0 st = .ok (mD S rk c):=by unfold aB;rw[h]
 exact aR (bR (show R.bind (aB 0 st) (iQ "Machine" "steps")=_ by rw[e,aM,sY]) (bR (aR (bR e rfl) (aOm M)) rfl)) (aKa M aFb)
theorem aX4{r:Nat}(hr:r<S.length):dIx (.dct false (nats (aH (bY (List.range S.length)))) ((aH (bY (List.range S.length))).map fun r=>D.int (eO S c (bY (List.range S.length)) r:Nat))) (.int r) = .ok (.int (eO S c (bY (List.range S.length)) r:Nat)):=aBd (xN (fun r=>D.int (eO S c (bY (List.range S.length)) r:Nat)) (lF.mpr (List.mem_range.mpr hr)))
end
end Pu
namespace Pu
theorem aQo(l:List Nat)(k:Nat):bY (l++[k])=bY l|||2^k:=by
 unfold bY orN
 rw[List.foldl_append]
 rfl
theorem pR(p:Nat->Bool):∀ k,(((List.range k).filter p).map fun r=>2^r).sum=bY ((List.range k).filter p)
 | 0=>rfl
 | k+1=>by
  rw[List.range_succ,List.filter_append]
  have ih:=pR p k
  have hlt:bY ((List.range k).filter p)<2^k:=yI fun r hr=>List.mem_range.mp (List.mem_filter.mp hr).1
  cases hp:p k with
  | true =>
   rw[filter_cons_of_pos hp,List.filter_nil,aQo,List.map_append,List.sum_append,ih,List.map_singleton,List.sum_singleton,Nat.or_comm]
   have:=Nat.two_pow_add_eq_or_of_lt hlt 1
   rw[Nat.mul_one]at this
   rw[<-this,Nat.add_comm]
  | false=>rw[filter_cons_of_neg (by rw[hp];decide),List.filter_nil,append_nil,ih]
theorem aKh:∀ ks:List Nat,(ks.map fun r=>((2^r:Nat):Int)).sum=(((ks.map fun r=>2^r).sum:Nat):Int)
 | []=>rfl
 | k::ks=>by rw[map_cons,map_cons,sum_cons,sum_cons,aKh ks,Int.natCast_add]
section
variable{S:List (List Nat)}{rk:List Nat}{c n:Nat}
noncomputable def aA4(S:List (List Nat))(c G:Nat):Nat->Bool:=fun r=>decide (0<eO S c (bY (List.range S.length)) r&&&G)
theorem aTx(M:Mch S rk c)(G:Nat):uL [mD S rk c,.int G] = .ok (.int (bY ((List.range S.length).filter (aA4 S c G)))):=by
 have n8:=M.most
 refine cO rfl (aW (cG (aX3 M rfl)) (gC (aR (bR (d := .lst (nats ((List.range S.length).filter (aA4 S c G)))) (jZ (xs:=nats (List.range S.length)) ?_ (by rw[aZ,length_range];omega) ?_) rfl) (aBb (l:=(List.range S.length).filter (aA4 S c G)) (fun r hr=>by have:=List.mem_range.mp (List.mem_filter.mp hr).1;omega) (by have:=length_filter_le (aA4 S c G) (List.range S.length);rw[length_range]at this;omega)))))
 ·exact aJv (by show iQ "Machine" "many" (mD S rk c)=_;exact aEy) (by omega)
 ·exact fY (q:=aA4 S c G) (G:=fun r => .int r) (List.range S.length) (fun r hr=>⟨_,rfl,pQ (aV (aV (aV rfl rfl (aX4 (List.mem_range.mp hr))) rfl (aOf _ _)) rfl (aT3 _ _)) (by
   unfold aA4
   by_cases h:0<eO S c (bY (List.range S.length)) r&&&G
   ·rw[decide_eq_true h,decide_eq_false (by omega)];rfl
   ·rw[decide_eq_false h,decide_eq_true (by omega)];rfl),rfl⟩)
end
end Pu
namespace Pu
section
theorem aX5(M:Mch S rk c)(hn:n<2^S.length)(h0:n≠0):uG [.lst (nats rk),.int n] = .ok (.int (uP rk n)):=by
 have n8:=M.most
 have hpos:0<(aH n).length:=by
  cases h:aH n with
  | nil =>
   refine absurd ?_ h0
   have:=iJ n
   rw[h]at this
   exact this.symm
  | cons r T=>simp
 have ce:=fY (tg:=tgN 2) (C:=uF) (E:=uE) (st:=[some (.v (.lst (nats rk))),some (.v (.int n)),none]) (q:=fun r=>n.testBit r) (G:=fun r => .int (rk.getD r 0:Nat)) (List.range rk.length) (fun r hr=>⟨_,rfl,by
  unfold uF
  exact aX2 (a:=1) (b:=2) rfl rfl,by
  have hr':=List.mem_range.mp hr
  have ea:atI (nats rk) (r:Int)=some (.int (rk.getD r 0:Nat)):=by
   rw[atI_nat (by rw[aZ];exact hr')]
   simp[nats,getD_eq_getElem?_getD,List.getElem?_eq_getElem hr']
  simp[uE,ea]⟩)
 rw[M.rks,aF4 hn]at ce
 have em:(aH n).map (fun r=>D.int (rk.getD r 0:Nat))=((aH n).map fun r=>(rk.getD r 0:Int)).map D.int:=by simp[Function.comp_def]
 rw[em]at ce
 refine cO rfl ?_
 unfold zV
 show dO _ [some (.v (.lst (nats rk))),some (.v (.int n)),none]=_
 have hi:uA (e1 fC (aB 0)) [some (.v (.lst (nats rk))),some (.v (.int n)),none] = .ok (nats (List.range S.length)):=by
  rw[<-xM]
  simp[aZ,M.rks,show (S.length:Int)<=(big:Int) from tY (by omega)]
 have hm:aAr (.lst (((aH n).map fun r=>(rk.getD r 0:Int)).map D.int)) = .ok (.int (uP rk n)):=by
  show (sI _).bind _=_
  rw[mY,aM,aF (by rw[length_map];exact hpos)]
  rfl
 rw[oZ,aSq,wJ,hi]
 simp only[aM,aZ,length_range]
 rw[aF (eU (by omega)),show clr [2] [some (Sl.v (.lst (nats rk))),some (.v (.int n)),none]=[some (.v (.lst (nats rk))),some (.v (.int n)),none] from rfl,ce,aM,aM,hm]
 rfl
end
end Pu
namespace Pu
theorem bB1{st:PSt}{p:Bool}(h:st[i]?=some (some (.v (.bl p)))):pK (eB aQ7 (aB i)) st = .ok (.bl false):=by
 have e:aB i st = .ok (.bl p):=by unfold aB;rw[h]
 refine rO (p:=true) ?_
 unfold eB
 rw[e]
 exact aF rfl
theorem aHb(i:Int):lL [.int i] = .ok (.bl true):=cO rfl (gC (xH (p:=true) (q:=true) (aF rfl) fun _=>rO (p:=false) (aF rfl)))
theorem bB2(p q:Bool):dNe (.bl p) (.bl q) = .ok (.bl (!(p==q))):=aF ⟨zero_le 64,rfl,rfl⟩
end Pu
namespace Pu
theorem aX6{l:List Int}(h:l≠[]):aDk l∈l/\∀ x∈l,x<=aDk l:=by
 cases l with
 | nil=>exact(h rfl).elim
 | cons i r =>
  obtain⟨h1,h2,h3⟩:=yF r i
  refine⟨?_,fun x hx=>?_⟩
  ·rcases h3 with h3 | h3
   ·show r.foldl _ i∈_;rw[h3];exact mem_cons_self
   ·exact mem_cons_of_mem _ h3
  ·rcases List.mem_cons.mp hx with rfl | hx
   ·exact h1
   ·exact h2 x hx
theorem aOn{x:Int}:∀ (l acc:List Int),x∈l.foldl (fun acc x=>if acc.any (· == x) then acc else acc++[x]) acc ↔ x∈acc\/x∈l
 | [],acc=>by simp
 | y::l,acc=>by
  rw[foldl_cons,aOn l]
  by_cases h:acc.any (· == y)=true
  ·rw[if_pos h]
   have hy:y∈acc:=by
    obtain⟨z,hz,e⟩:=List.any_eq_true.mp h
    rw[<-eq_of_beq e]
    exact hz
   constructor
   ·rintro(z | z)
    ·exact .inl z
    ·exact .inr (mem_cons_of_mem _ z)
   ·rintro(z | z)
    ·exact .inl z
    ·rcases List.mem_cons.mp z with rfl | z
     ·exact .inl hy
     ·exact .inr z
  ·rw[if_neg h,List.mem_append,List.mem_singleton,mem_cons,or_assoc]
theorem bB3{x:Int}{l:List Int}:x∈aDl (wM l) ↔ x∈l:=by
 rw[(wO _).mem_iff]
 unfold wM
 rw[aOn]
 simp
theorem aMj(l:List Int):∀ acc:List Int,(l.foldl (fun acc x=>if acc.any (· == x) then acc else acc++[x]) acc).length<=acc.length+l.length:=by
 induction l with
 | nil=>intro acc;exact Nat.le_refl _
 | cons y l ih =>
  intro acc
  rw[foldl_cons,length_cons]
  refine Nat.le_trans (ih _) ?_
  split
  ·omega
  ·rw[length_append,length_singleton];omega
section
variable{S:List (List Nat)}{rk:List Nat}{c n al:Nat}{p:Int}{w:Bool}
theorem aIj(h0:n≠0):aH n≠[]:=fun z=>h0 (by
 have:=iJ n
 rw[z]at this
 exact this.symm)
theorem aKi(h0:n≠0):(∃ r∈aH n,(rk.getD r 0:Int)=uP rk n)/\∀ r∈aH n,(rk.getD r 0:Int)<=uP rk n:=by
 obtain⟨h1,h2⟩:=aX6 (l:=(aH n).map fun r=>(rk.getD r 0:Int)) (by simpa using aIj h0)
 obtain⟨r,hr,e⟩:=List.mem_map.mp h1
 exact⟨⟨r,hr,e⟩,fun r hr=>h2 _ (List.mem_map.mpr ⟨r,hr,rfl⟩)⟩
theorem bB4{r:Nat}(hr:r∈aH n)(e:(rk.getD r 0:Int)=p)(hx:∀ r∈aH n,(rk.getD r 0:Int)<=p):uP rk n=p :=
 aI8 (List.mem_map.mpr ⟨r,hr,e⟩) fun x hx'=>by
  obtain⟨r,hr,rfl⟩:=List.mem_map.mp hx'
  exact hx r hr
def uQ(rk:List Nat)(al:Nat)(p:Int):Nat:=bY ((aH al).filter fun r=>decide ((rk.getD r 0:Int)<=p))
theorem aIk:r∈aH (uQ rk al p) ↔ r∈aH al/\(rk.getD r 0:Int)<=p:=by
 unfold uQ
 rw[lF,List.mem_filter,decide_eq_true_eq]
theorem aCg(ha:al<2^S.length):uQ rk al p<2^S.length:=yI fun r hr=>bZ ha (List.mem_filter.mp hr).1
noncomputable def qO(S:List (List Nat))(c:Nat)(rk:List Nat)(al:Nat)(p:Int):List Nat:=(kW S c (uQ rk al p)).filter fun m=>decide (uP rk m=p)
noncomputable def aQp(rk:List Nat)(al:Nat)(w:Bool):List Int:=(aDl (wM ((aH al).map fun r=>(rk.getD r 0:Int)))).filter fun p=>decide (p%2=0)==w
noncomputable def aTy(S:List (List Nat))(c:Nat)(rk:List Nat)(al:Nat)(w:Bool):List Nat:=(aQp rk al w).flatMap (qO S c rk al)
noncomputable def aFc(S:List (List Nat))(c:Nat)(rk:List Nat)(al:Nat)(p:Int)(r:Nat):Bool:=roundN S (dW S c (uQ rk al p) r)&&decide (uP rk (dW S c (uQ rk al p) r)=p)
theorem aQq(M:Mch S rk c)(ha:al<2^S.length){r:Nat}(hr:r∈aH (uQ rk al p))(hg:aFc S c rk al p r=true):LpN S c (dW S c (uQ rk al p) r)/\(∀ g∈aH (dW S c (uQ rk al p) r),g∈aH al)/\uP rk (dW S c (uQ rk al p) r)=p:=by
 unfold aFc at hg
 rw[and_eq_true,decide_eq_true_eq]at hg
 exact⟨aHa M (aCg ha) hr hg.1,fun g hg=>(aIk.mp (aOj M (aCg ha) hr hg)).1,hg.2⟩
theorem aQr(M:Mch S rk c)(ha:al<2^S.length){m:Nat}(hm:LpN S c m)(hs:∀ g∈aH m,g∈aH al)(ht:uP rk m=p)  (hr:r∈aH m):r∈aH (uQ rk al p)/\aFc S c rk al p r=true/\∀ g∈aH m,g∈aH (dW S c (uQ rk al p) r):=by
 obtain⟨⟨g,hg,eg⟩,hx⟩:=aKi (rk:=rk) hm.1
 rw[ht]at eg hx
 have hsub:∀ g∈aH m,g∈aH (uQ rk al p):=fun g hg=>aIk.mpr ⟨hs g hg,hx g hg⟩
 have hin:=aWz M (aCg ha) hm hsub hr
 refine⟨hsub r hr,?_,hin⟩
 unfold aFc
 rw[aTw hm hin,decide_eq_true (bB4 (hin g hg) eg fun y hy=>(aIk.mp (aOj M (aCg ha) (hsub r hr) hy)).2)]
 rfl
theorem aQs(M:Mch S rk c)(ha:al<2^S.length){m:Nat}(h:m∈qO S c rk al p):m<2^S.length/\LpN S c m/\(∀ g∈aH m,g∈aH al)/\uP rk m=p:=by
 obtain⟨h1,h2⟩:=List.mem_filter.mp h
 obtain⟨r,hr,rfl,hq⟩:=yJ.mp h1
 exact⟨aIi,aQq M ha hr (by unfold aFc;rw[hq,h2];rfl)⟩
theorem aOo:p∈aQp rk al w ↔ (∃ r∈aH al,(rk.getD r 0:Int)=p)/\(decide (p%2=0)==w)=true:=by
 unfold aQp
 rw[List.mem_filter,bB3,List.mem_map]
end
end Pu
namespace Pu
theorem aKj{tg:Tg}{C E:Ex}{st:PSt}{q:Int->Bool}:∀ (ks:List Int),(∀ k∈ks,∃ s1,tg (.int k) st = .ok s1/\C s1 = .ok (.bl (q k))/\E s1 = .ok (.int k))->oV tg C E st (ks.map D.int) = .ok ((ks.filter q).map D.int)
 | [],_=>rfl
 | k::ks,h=>by
  obtain⟨s1,a1,a2,a3⟩:=h k mem_cons_self
  have ih:=aKj ks fun k hk=>h k (mem_cons_of_mem _ hk)
  rw[map_cons,uB,a1,aM,a2,aM,rF]
  cases hq:q k with
  | true=>rw[filter_cons_of_pos hq,map_cons,if_pos rfl,a3,aM,ih];rfl
  | false=>rw[filter_cons_of_neg (by rw[hq];decide),if_neg Bool.false_ne_true,ih]
theorem bB5(p q:Bool):dEq (.bl p) (.bl q) = .ok (.bl (p==q)):=aF ⟨zero_le 64,rfl,rfl⟩
theorem aTz(l:List Nat):dEq (.lst (nats l)) (.lst []) = .ok (.bl (decide (l=[]))):=by
 obtain⟨p1,p2,_⟩:=fH l
 have:=aDw l []
 rw[show nats []=[] from rfl]at this
 simp[p1,p2,this]
section
variable   {al:Nat} {p:Int} {w:Bool}
theorem aZ0(M:Mch S rk c){r:Nat}(hr:r<S.length):atI (nats rk) (r:Int)=some (.int (rk.getD r 0:Nat)):=by
 have hr':r<rk.length:=by rw[M.rks];exact hr
 rw[atI_nat (by rw[aZ];exact hr')]
 simp[nats,getD_eq_getElem?_getD,List.getElem?_eq_getElem hr']
theorem aBe(hn:n<2^S.length):(aH n).length<=S.length:=gG S.length _ (dC _) fun x hx=>bZ hn hx
theorem aX7(M:Mch S rk c)(ha:al<2^S.length):jW [mD S rk c,.int al,.bl w] = .ok (.lst ((aQp rk al w).map D.int)):=by
 have n8:=M.most
 have hro:=lQ ha (by omega)
 have hl:=aBe ha
 have c1:=fY (tg:=tgN 5) (C:=fD) (E:=lM) (st:=[some (.v (mD S rk c)),some (.v (.int al)),some (.v (.bl w)),none,none,none]) (q:=fun _=>true) (G:=fun r => .int (rk.getD r 0:Nat)) (aH al) (fun r hr=>⟨_,rfl,rfl,aV (show iQ "Machine" "ranks" (mD S rk c)=_ from aA3) rfl (jU (aZ0 M (bZ ha hr)))⟩)
 rw[List.filter_eq_self.mpr fun _ _=>rfl]at c1
 have em:(aH al).map (fun r=>D.int (rk.getD r 0:Nat))=((aH al).map fun r=>(rk.getD r 0:Int)).map D.int:=by rw[List.map_map];rfl
 rw[em]at c1
 have h1:e1 aIa (cR [5] (tgN 5) (itE (aP cI (aC (aB 1) (aX)))) fD (lM)) [some (.v (mD S rk c)),some (.v (.int al)),some (.v (.bl w)),none,none,none] = .ok (.lst ((aDl (wM ((aH al).map fun r=>(rk.getD r 0:Int)))).map D.int)):=by
  rw[aSq,jZ (sX (aR rfl hro)) (by rw[aZ];omega) c1,aM]
  show (sI _).bind _=_
  rw[mY,aM]
  exact aF ⟨by rw[length_map];omega,Nat.lt_of_le_of_lt (aMj _ []) (by rw[length_map,length_nil];omega)⟩
 have hs:(aDl (wM ((aH al).map fun r=>(rk.getD r 0:Int)))).length<=S.length:=by
  rw[(wO _).length_eq]
  refine Nat.le_trans (aMj _ []) ?_
  rw[length_map]
  simpa using hl
 refine cO rfl (aW (cG h1) (gC (jZ (sX rfl) (by rw[length_map];omega) (aKj (q:=fun p=>decide (p%2=0)==w) _ fun k _=>⟨_,rfl,aV (aV (aV rfl rfl (xJ (by decide))) rfl (xK _ _)) rfl (bB5 _ _),rfl⟩))))
theorem aHc:(kW S c n).length<=(aH n).length:=by
 have hf:∀ (rs ps:List Nat),(rs.foldl (fun ps r=>if dW S c n r ∉ ps/\roundN S (dW S c n r)=true then ps++[dW S c n r] else ps) ps).length<=ps.length+rs.length:=fun rs=>by
  induction rs with
  | nil=>intro ps;exact Nat.le_refl _
  | cons r rs ih =>
   intro ps
   rw[foldl_cons,length_cons]
   refine Nat.le_trans (ih _) ?_
   split
   ·rw[length_append,length_singleton];omega
   ·omega
 have:=hf (aH n) []
 unfold kW
 simpa using this
theorem aOp(M:Mch S rk c)(hn:n<2^S.length)  (h:m∈kW S c n):m<2^S.length/\m≠0:=by
 obtain⟨r,hr,rfl,hq⟩:=yJ.mp h
 exact⟨aIi,(aHa M hn hr hq).1⟩
theorem aQt(M:Mch S rk c)(ha:al<2^S.length):iY [mD S rk c,.int al,.int p] = .ok (.lst (nats (qO S c rk al p))):=by
 have n8:=M.most
 have hro:=lQ ha (by omega)
 have hl:=aBe ha
 have hlow:=aCg (rk:=rk) (p:=p) ha
 have h1:jX [some (.v (mD S rk c)),some (.v (.int al)),some (.v (.int p)),none,none,none] = .ok (.nx [some (.v (mD S rk c)),some (.v (.int al)),some (.v (.int p)),some (.v (.int (uQ rk al p))),none,none]):=by
  refine aW (cG (aR (bR (jZ (sX (aR rfl hro)) (by rw[aZ];omega) (fY (q:=fun r=>decide ((rk.getD r 0:Int)<=p)) (G:=fun r => .int r) (aH al) fun r hr=>⟨_,rfl,aV (aV (show iQ "Machine" "ranks" (mD S rk c)=_ from aA3) rfl (jU (aZ0 M (bZ ha hr)))) rfl rfl,rfl⟩)) rfl) (aBb (l:=(aH al).filter fun r=>decide ((rk.getD r 0:Int)<=p)) (fun r hr=>by have:=bZ ha (List.mem_filter.mp hr).1;omega) (by have:=length_filter_le (fun r=>decide ((rk.getD r 0:Int)<=p)) (aH al);omega)))) rfl
 have hpl:=Nat.le_trans (aHc (S:=S) (c:=c) (n:=uQ rk al p)) (aBe hlow)
 have h2:=jZ (is:=[4]) (it:=itE (aP fV (aC (aB 0) (aC (aB 3) (aX))))) (st:=[some (.v (mD S rk c)),some (.v (.int al)),some (.v (.int p)),some (.v (.int (uQ rk al p))),none,none]) (sX (aR rfl (aKc M hlow))) (by rw[aZ];omega) (fY (tg:=tgN 4) (C:=jJ) (E:=jH) (q:=fun m=>decide (uP rk m=p)) (G:=fun r => .int r) (kW S c (uQ rk al p)) fun m hm=>⟨_,rfl,aV (aR rfl (by rw[bAl,bAy M (aOp M hlow hm).1 (aOp M hlow hm).2];rfl)) rfl (xK _ _),rfl⟩)
 refine cO rfl ?_
 show wN jX _ [some (.v (mD S rk c)),some (.v (.int al)),some (.v (.int p)),none,none,none]=_
 unfold wN
 rw[h1]
 show R.bind (cR [4] (tgN 4) (itE (aP fV (aC (aB 0) (aC (aB 3) (aX))))) (jJ) (jH) [some (.v (mD S rk c)),some (.v (.int al)),some (.v (.int p)),some (.v (.int (uQ rk al p))),none,none]) _=_
 rw[h2]
 rfl
theorem aHd(M:Mch S rk c)(ha:al<2^S.length):∀ (ps:List Int) (F:List Nat) (x4:Option Sl),F.length+8*ps.length<=1000->∃ x4',forR (tgN 4) qJ (ps.map D.int) [some (.v (mD S rk c)),some (.v (.int al)),some (.v (.bl w)),some (.o .l (nats F)),x4] = .ok (.nx [some (.v (mD S rk c)),some (.v (.int al)),some (.v (.bl w)),some (.o .l (nats (F++ps.flatMap (qO S c rk al)))),x4'])
 | [],F,x4,_=>⟨x4,by rw[List.flatMap_nil,append_nil];rfl⟩
 | p::ps,F,x4,hl=>by
  rw[length_cons]at hl
  have n8:=M.most
  have ht:(qO S c rk al p).length<=8:=Nat.le_trans (length_filter_le _ _) (Nat.le_trans (aHc (S:=S) (c:=c)) (Nat.le_trans (aBe (aCg ha)) n8))
  obtain⟨x4',e⟩:=aHd M ha ps (F++qO S c rk al p) (some (.v (.int p))) (by rw[length_append];omega)
  rw[List.append_assoc]at e
  have hx:=aT4 (i:=3) (f:=aP iY (aC (aB 0) (aC (aB 1) (aC (aB 4) (aX))))) (st:=[some (.v (mD S rk c)),some (.v (.int al)),some (.v (.bl w)),some (.o .l (nats F)),some (.v (.int p))]) (aR rfl (aQt (p:=p) M ha)) rfl (eU (by rw[aZ,aZ];omega))
  refine⟨x4',uO rfl hx ?_⟩
  rw[<-(show nats (F++qO S c rk al p)=nats F++nats (qO S c rk al p) from List.map_append),List.flatMap_cons]
  exact e
theorem aX8(M:Mch S rk c)(ha:al<2^S.length):jY [mD S rk c,.int al,.bl w] = .ok (.lst (nats (aTy S c rk al w))):=by
 have n8:=M.most
 have hr:(aQp rk al w).length<=8:=by
  refine Nat.le_trans (length_filter_le _ _) ?_
  rw[(wO _).length_eq]
  refine Nat.le_trans (aMj _ []) ?_
  rw[length_map]
  have:=aBe ha
  simp only[length_nil]
  omega
 obtain⟨x4,e⟩:=aHd (w:=w) M ha (aQp rk al w) [] none (by simp only[length_nil];omega)
 exact cO rfl (aW (uN (pP rfl)) (aW (nF (sX (aR rfl (aX7 M ha))) e) rfl))
end
end Pu
namespace Pu
section
variable{S:List (List Nat)}{rk:List Nat}{c n s g:Nat}{al:Nat->Bool}{acc:List (Nat × List Nat)}
def Pat(S:List (List Nat))(c:Nat)(al:Nat->Bool):List Nat->Nat->Nat->Prop
 | [],s,g=>s=g
 | ch::u,s,g=>∃ l,l<c/\ch=97+l/\al (stp S s l)=true/\Pat S c al u (stp S s l) g
theorem yL:∀ {u v:List Nat} {s r g:Nat},Pat S c al u s r->Pat S c al v r g->Pat S c al (u++v) s g
 | [],v,s,r,g,h1,h2=>by
  have e:s=r:=h1
  rw[e]
  exact h2
 | ch::u,v,s,r,g,h1,h2=>by
  obtain⟨l,a,b,d,e⟩:=h1
  exact⟨l,a,b,d,yL e h2⟩
theorem aOq:∀ {u v:List Nat} {s g:Nat},Pat S c al (u++v) s g->∃ r,Pat S c al u s r/\Pat S c al v r g
 | [],v,s,g,h=>⟨s,rfl,h⟩
 | ch::u,v,s,g,h=>by
  obtain⟨l,a,b,d,e⟩:=h
  obtain⟨r,h1,h2⟩:=aOq e
  exact⟨r,⟨l,a,b,d,h1⟩,h2⟩
theorem aQu{u v w:List Nat}(h1:slB u v)(h2:slB v w):slB u w:=by
 rcases h1 with h1 | ⟨h1,h3⟩
 ·rcases h2 with h2 | ⟨h2,_⟩
  ·exact .inl (by omega)
  ·exact .inl (by omega)
 ·rcases h2 with h2 | ⟨h2,h4⟩
  ·exact .inl (by omega)
  ·exact .inr ⟨by omega,List.lt_trans h3 h4⟩
theorem snoc_ind{P:List Nat->Prop}(h0:P [])(h1:∀ u a,P u->P (u++[a])):∀ (k:Nat) (u:List Nat),u.length=k->P u
 | 0,u,h=>by rw[List.length_eq_zero_iff.mp h];exact h0
 | k+1,u,h=>by
  rcases List.eq_nil_or_concat u with e | ⟨v,a,e⟩
  ·rw[e]at h;simp at h
  ·rw[List.concat_eq_append]at e
   rw[e]at h ⊢
   exact h1 v a (snoc_ind h0 h1 k v (by simpa using h))
theorem BM.least(b:BM S s c al acc.length 0 acc):∀ (u:List Nat) (g:Nat),Pat S c al u s g->∃ y∈acc,y.1=g/\(y.2=u\/slB y.2 u):=fun u =>
 snoc_ind (P:=fun u=>∀ g,Pat S c al u s g->∃ y∈acc,y.1=g/\(y.2=u\/slB y.2 u)) (fun g h=>⟨(s,[]),List.mem_of_getElem? b.hd,h,.inl rfl⟩) (fun u a ih g h=>by
  obtain⟨r,h1,l,hl,ea,ha,e⟩:=aOq h
  obtain⟨y,hy,rfl,hq⟩:=ih r h1
  have e':stp S y.1 l=g:=e
  obtain⟨i,hi⟩:=List.mem_iff_getElem?.mp hy
  obtain⟨z,hz,ez,hw⟩:=b.cls i y l hi hl (.inl (List.getElem?_eq_some_iff.mp hi).1) ha
  refine⟨z,hz,ez.trans e',?_⟩
  rw[ea]
  rcases hq with rfl | hq
  ·exact hw
  ·have:=aOc (97+l) (97+l) hq
   rcases hw with hw | hw
   ·rw[hw];exact .inr this
   ·exact .inr (aQu hw this)) u.length u rfl
theorem BM.path(b:BM S s c al acc.length 0 acc):∀ (k:Nat) (x:Nat × List Nat),acc[k]?=some x->Pat S c al x.2 s x.1:=by
 intro k
 induction k using strongRecOn with
 | ind k ih =>
  intro x hx
  by_cases hk:k=0
  ·subst hk
   rw[b.hd]at hx
   cases hx
   exact rfl
  ·obtain⟨h0,q,y,ch,h1,h2,_⟩:=b.par k x hx (by omega)
   have hl:x.2.length=y.2.length+1:=by rw[h2];simp
   have hq:q<k:=by
    rcases Nat.lt_trichotomy q k with h | h | h
    ·exact h
    ·subst h
     rw[hx]at h1
     cases h1
     omega
    ·rcases b.ord k q x y hx h1 h with h3 | ⟨h3,_⟩ <;> omega
   obtain⟨_,x2,x3⟩:=b.lt x (List.mem_of_getElem? hx)
   obtain⟨_,y2,_⟩:=b.lt y (List.mem_of_getElem? h1)
   have hch:=x3 ch (by rw[h2];simp)
   have e:x.1=stp S y.1 (ch-97):=by rw[<-x2,h2,yH,y2]
   rw[h2]
   exact yL (ih q hq y h1) ⟨ch-97,by omega,by omega,by rw[<-e];exact h0,e.symm⟩
def Lst(S:List (List Nat))(c:Nat)(al:Nat->Bool)(s g:Nat)(u:List Nat):Prop:=Pat S c al u s g/\∀ v,Pat S c al v s g->u=v\/slB u v
theorem bB6(n:Nat):(fun g=>decide (g∈aH n))=fun g=>n.testBit g:=funext fun g=>by
 cases h:n.testBit g with
 | true=>exact decide_eq_true (aN.mpr h)
 | false=>exact decide_eq_false fun z=>by rw[aN.mp z]at h;cases h
theorem aU0(M:Mch S rk c)(hn:n<2^S.length)(hs:s<S.length)(g:Nat):(jT [mD S rk c,.int n,.int s,.int g] = .ok .non/\¬ (n.testBit s=true/\∃ u,Pat S c (fun g=>n.testBit g) u s g))\/∃ u,jT [mD S rk c,.int n,.int s,.int g] = .ok (.str u)/\n.testBit s=true/\Lst S c (fun g=>n.testBit g) s g u/\Ltr c u/\u.length+1<=(aH n).length:=by
 have n8:=M.most
 cases hb:n.testBit s with
 | false=>exact .inl ⟨cO rfl (aEt (aB5 (rO (p:=false) (aR rfl (by rw[aCe,hb]))) (gC rfl))),fun z=>nomatch z.1⟩
 | true =>
  obtain⟨acc,e,b⟩:=aWv M hs (aH n)
  rw[bB6]at b
  have hr:∀ {d:D},aT0 (aP lA (aC (e1 (iQ "Machine" "steps") (aB 0)) (aC (aB 2) (aC (aP cI (aC (aB 1) (aX))) (aX))))) (aB 3) (eC .non) [some (.v (mD S rk c)),some (.v (.int n)),some (.v (.int s)),some (.v (.int g))] = .ok d->jT [mD S rk c,.int n,.int s,.int g] = .ok d:=fun hd=>cO rfl (fX (rN (rO (p:=true) (aR rfl (by rw[aCe,hb]))) rfl) (gC hd))
  have hg:∀ {r:R D},aEj (.dct false (kD acc) (wD acc)) (.int g) .non=r->aT0 (aP lA (aC (e1 (iQ "Machine" "steps") (aB 0)) (aC (aB 2) (aC (aP cI (aC (aB 1) (aX))) (aX))))) (aB 3) (eC .non) [some (.v (mD S rk c)),some (.v (.int n)),some (.v (.int s)),some (.v (.int g))]=r:=fun h=>by
   unfold aT0
   rw[aR (bR (show iQ "Machine" "steps" (mD S rk c)=_ from sY) (bR rfl (bR (aR rfl (lQ hn (by omega))) rfl))) e]
   exact h
  have hh:=aMc g acc
  by_cases hm:g∈acc.map (·.1)
  ·rw[decide_eq_true hm]at hh
   obtain⟨x,hx,rfl⟩:=List.mem_map.mp hm
   obtain⟨k,hk⟩:=List.mem_iff_getElem?.mp hx
   have hkl:=(List.getElem?_eq_some_iff.mp hk).1
   refine .inr ⟨x.2,hr (hg ?_),rfl,⟨b.path k x hk,fun v hv=>?_⟩,(b.lt x hx).2.2,?_⟩
   ·show aJ (keyOk false (.int x.1)=true) _=_
    rw[aF (c:=keyOk false (.int x.1)=true) rfl,if_pos hh,aTi b.nd hx]
    rfl
   ·obtain⟨y,hy,ey,hq⟩:=b.least v x.1 hv
    obtain⟨j,hj⟩:=List.mem_iff_getElem?.mp hy
    have:y=x:=by
     have hkj:j=k:=by
      have h1:(acc.map (·.1))[j]?=some x.1:=by rw[List.getElem?_map,hj,<-ey];rfl
      have h2:(acc.map (·.1))[k]?=some x.1:=by rw[List.getElem?_map,hk];rfl
      obtain⟨a1,b1⟩:=List.getElem?_eq_some_iff.mp h1
      obtain⟨a2,b2⟩:=List.getElem?_eq_some_iff.mp h2
      exact(List.getElem_inj b.nd).mp (b1.trans b2.symm)
     rw[hkj,hk]at hj
     exact(Option.some.inj hj).symm
    rw[this]at hq
    exact hq
   ·have h1:=b.wlen k x hk
    have h2:(acc.map (·.1)).length<=(aH n).length:=List.Nodup.length_le_of_subset b.nd fun y hy=>by
     obtain⟨z,hz,rfl⟩:=List.mem_map.mp hy
     obtain⟨j,hj⟩:=List.mem_iff_getElem?.mp hz
     by_cases hj0:j=0
     ·subst hj0
      rw[b.hd]at hj
      cases hj
      exact aN.mpr hb
     ·exact aN.mpr (b.par j z hj (by omega)).1
    rw[length_map]at h2
    omega
  ·rw[decide_eq_false hm]at hh
   refine .inl ⟨hr (hg ?_),fun⟨_,u,hu⟩=>?_⟩
   ·show aJ (keyOk false (.int g)=true) _=_
    rw[aF (c:=keyOk false (.int g)=true) rfl,if_neg (by rw[hh];decide)]
   ·obtain⟨y,hy,ey,_⟩:=b.least u g hu
    exact hm (List.mem_map.mpr ⟨y,hy,ey⟩)
end
end Pu
namespace Pu
theorem aCh{b:Bd}{st:PSt}{x:Fl}(h:b st = .ok x):sNX b st = .ok x:=by unfold sNX;rw[h];rfl
theorem aU1{st:PSt}{x:D}(h:f st = .ok x):eNX f st = .ok x:=by unfold eNX;rw[h];rfl
theorem aX9{l:Nat}(h:l<3):dIx (.str [97,98,99]) (.int l) = .ok (.str [97+l]):=by
 show aJ _ _=_
 rw[aF (eU (by show 3<=_;omega)),atI_nat (xs:=[97,98,99]) (i:=l) (by show l<3;exact h)]
 have:l=0\/l=1\/l=2:=by omega
 rcases this with rfl | rfl | rfl<;>rfl
theorem bB7(l m:List Nat):dEq (.lst (nats l)) (.lst (nats m)) = .ok (.bl (decide (l=m))):=by
 obtain⟨p1,p2,_⟩:=fH l
 obtain⟨q1,_,_⟩:=fH m
 have:=aDw l m
 simp[p1,p2,q1,this]
section
variable{S:List (List Nat)}{rk:List Nat}{c n s g r:Nat}{al:Nat->Bool}
theorem aIl:∀ {u:List Nat} {s g:Nat},Pat S c al u s g->Ltr c u
 | [],_,_,_=>fun _ h=>nomatch h
 | ch::u,s,g,⟨l,a,b,_,e⟩=>fun x hx=>by
  rcases List.mem_cons.mp hx with rfl | hx
  ·omega
  ·exact aIl e x hx
theorem xP:∀ {u:List Nat} {s g:Nat},Pat S c al u s g->lE S s u=g
 | [],_,_,h=>h
 | ch::u,s,g,⟨l,a,b,_,e⟩=>by
  show lE S (stp S s (ch-97)) u=g
  rw[b,show 97+l-97=l by omega]
  exact xP e
theorem aKk:∀ {u:List Nat} {s g:Nat},Pat S c al u s g->∀ y∈runs S s u,al y=true
 | [],_,_,_=>fun _ h=>nomatch h
 | ch::u,s,g,⟨l,a,b,d,e⟩=>fun y hy=>by
  have hy':y∈stp S s (ch-97)::runs S (stp S s (ch-97)) u:=hy
  rw[b,show 97+l-97=l by omega]at hy'
  rcases List.mem_cons.mp hy' with rfl | hy'
  ·exact d
  ·exact aKk e y hy'
theorem aFd:∀ (x y:List Nat) (q:Nat),runs S q (x++y)=runs S q x++runs S (lE S q x) y
 | [],_,_=>rfl
 | ch::x,y,q=>congrArg (stp S q (ch-97) :: ·) (aFd x y _)
theorem aIm:∀ (x:List Nat) (q:Nat),lE S q x∈q::runs S q x
 | [],_=>mem_cons_self
 | ch::x,q=>mem_cons_of_mem _ (aIm x (stp S q (ch-97)))
theorem aU2{x:List Nat}(h:x≠[])(q:Nat):lE S q x∈runs S q x:=by
 cases x with
 | nil=>exact absurd rfl h
 | cons ch x=>exact aIm x (stp S q (ch-97))
theorem aOr{s g:Nat}(h:Rch S c al s g):∃ u,Pat S c al u s g:=by
 induction h with
 | here=>exact⟨[],rfl⟩
 | on _ hl ha ih =>
  obtain⟨u,hu⟩:=ih
  exact⟨u++[97+_],yL hu ⟨_,hl,rfl,ha,rfl⟩⟩
structure Rnd(S:List (List Nat))(c n r:Nat)(u:List Nat):Prop where
 pat:Pat S c (fun g=>n.testBit g) u r r
 ne:u≠[]
 len:u.length<=(aH n).length*(aH n).length
 all:∀ g∈aH n,g∈runs S r u
def aU3(S:List (List Nat))(rk:List Nat)(c n r:Nat)(x:List Nat)(h:Nat)(x5:Option Sl):PSt:=[some (.v (mD S rk c)),some (.v (.int n)),some (.v (.int r)),some (.v (.str x)),some (.v (.int h)),x5]
theorem aMk{e:Exs}{st:PSt}(hf:f st = .ok (mD S rk c))(hr:e st = .ok xs):sH "Machine" "rooms_along" p [] f e st=p (mD S rk c::xs):=by
 rw[aEh,hf,hr]
 show aJ _ (p (mD S rk c::(xs++[])))=_
 rw[append_nil]
 exact aF ⟨rfl,by decide⟩
theorem aKl(M:Mch S rk c)(hn:n<2^S.length)(hL:LpN S c n){a b:Nat}(ha:a∈aH n)(hb:b∈aH n):∃ u,jT [mD S rk c,.int n,.int a,.int b] = .ok (.str u)/\Pat S c (fun g=>n.testBit g) u a b/\u.length+1<=(aH n).length:=by
 rcases aU0 M hn (bZ hn ha) b with ⟨_,h2⟩ | ⟨u,h1,_,h3,_,h5⟩
 ·exact absurd ⟨aN.mp ha,aOr (hL.2.1 a ha b hb)⟩ h2
 ·exact⟨u,h1,h3.1,h5⟩
theorem aA5(M:Mch S rk c)(hn:n<2^S.length)(hL:LpN S c n)(hr:r∈aH n):∀ (gs:List Nat) (x:List Nat) (h j:Nat) (x5:Option Sl),(∀ g∈gs,g∈aH n)->Pat S c (fun g=>n.testBit g) x r h->h∈aH n->x.length<=j*((aH n).length-1)->j+gs.length<=8 ->
  ∃ x' h' j' x5',forR (tgN 5) aAx (nats gs) (aU3 S rk c n r x h x5) = .ok (.nx (aU3 S rk c n r x' h' x5'))/\Pat S c (fun g=>n.testBit g) x' r h'/\h'∈aH n/\x'.length<=j' * ((aH n).length-1)/\j'<=j+(gs.filter fun g => !decide (g=r)).length/\(∀ g∈gs,g∈r::runs S r x')/\∀ g∈r::runs S r x,g∈r::runs S r x'
 | [],x,h,j,x5,_,h1,h2,h3,_=>⟨x,h,j,x5,rfl,h1,h2,h3,le_add_right _ _,fun _ z=>(nomatch z),fun _ z=>z⟩
 | g::gs,x,h,j,x5,hg,h1,h2,h3,h4=>by
  have n8:=M.most
  rw[length_cons]at h4
  have hk:(aH n).length<=8:=Nat.le_trans (gG S.length _ (dC _) fun y hy=>bZ hn hy) n8
  have hx:x.length<=100:=by
   have:j*((aH n).length-1)<=8*7:=Nat.mul_le_mul (by omega) (by omega)
   omega
  have hrl:=bZ hn hr
  obtain⟨p1,p2,_⟩:=fH (r::runs S r x)
  have t:e2 mW (aB 5) (sH "Machine" "rooms_along" (bG) [] (aB 0) (aC (aB 2) (aC (aB 3) (aX)))) (aU3 S rk c n r x h (some (.v (.int g)))) = .ok (.bl (!decide (g∈r::runs S r x))):=aV rfl ((aMk rfl rfl).trans (aK0 M hrl x (aIl h1) (by omega))) (by
   rw[<-yG]
   exact aF ⟨by rw[p2];exact zero_le 60,rfl,p1⟩)
  by_cases hm:g∈r::runs S r x
  ·rw[decide_eq_true hm]at t
   obtain⟨x',h',j',x5',e,k1,k2,k3,k4,k5,k6⟩:=aA5 M hn hL hr gs x h j (some (.v (.int g))) (fun y hy=>hg y (mem_cons_of_mem _ hy)) h1 h2 h3 (by omega)
   refine⟨x',h',j',x5',uO rfl (rN t rfl) e,k1,k2,k3,Nat.le_trans k4 ?_,fun y hy=>?_,k6⟩
   ·by_cases z:(!decide (g=r))=true
    ·rw[filter_cons_of_pos (p:=fun g => !decide (g=r)) z,length_cons];omega
    ·rw[filter_cons_of_neg (p:=fun g => !decide (g=r)) z];exact Nat.le_refl _
   ·rcases List.mem_cons.mp hy with rfl | hy
    ·exact k6 _ hm
    ·exact k5 y hy
  ·rw[decide_eq_false hm]at t
   have hgr:g≠r:=fun z=>hm (by rw[z];exact mem_cons_self)
   obtain⟨u,w1,w2,w3⟩:=aKl M hn hL h2 (hg g mem_cons_self)
   have hl:(x++u).length<=(j+1)*((aH n).length-1):=by
    rw[length_append,Nat.add_mul,Nat.one_mul]
    omega
   obtain⟨x',h',j',x5',e,k1,k2,k3,k4,k5,k6⟩:=aA5 M hn hL hr gs (x++u) g (j+1) (some (.v (.int g))) (fun y hy=>hg y (mem_cons_of_mem _ hy)) (yL h1 w2) (hg g mem_cons_self) hl (by omega)
   have up:∀ y∈r::runs S r x,y∈r::runs S r (x++u):=fun y hy=>by
    rw[aFd]
    rcases List.mem_cons.mp hy with rfl | hy
    ·exact mem_cons_self
    ·exact mem_cons_of_mem _ (List.mem_append_left _ hy)
   refine⟨x',h',j',x5',uO rfl (aB5 t (aW (st':=aU3 S rk c n r (x++u) h (some (.v (.int g)))) (cG (aV rfl (aR rfl w1) (aF (eU (by omega))))) (cG rfl))) e,k1,k2,k3,Nat.le_trans k4 ?_,fun y hy=>?_,fun y hy=>k6 y (up y hy)⟩
   ·rw[filter_cons_of_pos (by rw[decide_eq_false hgr];rfl),length_cons];omega
   ·rcases List.mem_cons.mp hy with rfl | hy
    ·refine k6 _ ?_
     have:=aIm (S:=S) (x++u) r
     rw[xP (yL h1 w2)]at this
     exact this
    ·exact k5 y hy
theorem bB8(nd:l.Nodup)(hr:r∈l):(l.filter fun g => !decide (g=r)).length+1<=l.length:=by
 have h1:(l.filter fun g => !decide (g=r)).length<l.length:=by
  rcases Nat.lt_or_eq_of_le (length_filter_le (fun g => !decide (g=r)) l) with h | h
  ·exact h
  ·have:=List.length_filter_eq_length_iff.mp h r hr
   rw[decide_eq_true rfl]at this
   cases this
 omega
theorem aMl(M:Mch S rk c)(hn:n<2^S.length)(hL:LpN S c n)(hr:r∈aH n):∃ u,uJ [mD S rk c,.int n,.int r] = .ok (.str u)/\Rnd S c n r u:=by
 have n8:=M.most
 have c3:=M.c3
 have hrl:=bZ hn hr
 have hro:=lQ hn (by omega)
 have hk:(aH n).length<=8:=Nat.le_trans (gG S.length _ (dC _) fun y hy=>bZ hn hy) n8
 have a1:sIf (eNX (pK (aP sV (aC (aB 0) (aC (aB 1) (aX)))))) (rG "NoLoop" (aC (eC (.str [116,104,105,115,32,115,101,116,32,111,102,32,114,111,111,109,115,32,105,115,32,110,111,32,108,111,111,112])) (aX))) eE [some (.v (mD S rk c)),some (.v (.int n)),some (.v (.int r)),none,none,none] = .ok (.nx [some (.v (mD S rk c)),some (.v (.int n)),some (.v (.int r)),none,none,none]):=rN (aU1 (rO (p:=true) (aR rfl (by rw[aMe M hn,decide_eq_true ((aQi M hn).mpr hL)])))) rfl
 have a2:sIf (eNX (pK (aP gY (aC (aB 1) (aC (aB 2) (aX)))))) (rG "NoLoop" (aC (eC (.str [116,104,101,32,114,111,111,109,32,105,115,32,110,111,116,32,105,110,32,116,104,101,32,108,111,111,112])) (aX))) eE [some (.v (mD S rk c)),some (.v (.int n)),some (.v (.int r)),none,none,none] = .ok (.nx [some (.v (mD S rk c)),some (.v (.int n)),some (.v (.int r)),none,none,none]):=rN (aU1 (rO (p:=true) (aR rfl (by rw[aCe,aN.mp hr])))) rfl
 have t3:=aV (op:=dEq) (f:=aP cI (aC (aB 1) (aX))) (g:=qG (aC (aB 2) (aX))) (st:=[some (.v (mD S rk c)),some (.v (.int n)),some (.v (.int r)),none,none,none]) (aR rfl hro) (pP (ds:=nats [r]) rfl) (bB7 (aH n) [r])
 by_cases h1:aH n=[r]
 ·rw[decide_eq_true h1]at t3
  have hq:=hL.2.2
  unfold roundN at hq
  rw[h1]at hq
  have hq':r∈S.getD r []:=by
   have:=of_decide_eq_true (show decide (r∈S.getD r [])=true from hq)
   exact this
  have hg:S.getD r []=S[r]:=by rw[getD_eq_getElem?_getD,List.getElem?_eq_getElem hrl];rfl
  rw[hg]at hq'
  have hrow:=(M.row S[r] (List.getElem_mem hrl)).1
  have hs:((S[r].map fun(x:Nat)=>(x:Int)).findIdx? fun i=>i==(r:Int)).isSome=true:=by
   rw[List.findIdx?_isSome,List.any_eq_true]
   exact⟨(r:Int),List.mem_map.mpr ⟨r,hq',rfl⟩,by simp⟩
  obtain⟨k,hk'⟩:=Option.isSome_iff_exists.mp hs
  obtain⟨k1,k2,_⟩:=List.findIdx?_eq_some_iff_getElem.mp hk'
  rw[length_map]at k1
  have hkr:S[r][k]=r:=by
   rw[List.getElem_map,beq_iff_eq]at k2
   exact Int.ofNat_inj.mp k2
  have hst:stp S r k=r:=by
   unfold stp
   rw[hg,getD_eq_getElem?_getD,List.getElem?_eq_getElem k1]
   exact hkr
  have hix:eMt aNz (e2 dIx (e1 (iQ "Machine" "steps") (aB 0)) (aB 2)) (aC (aB 2) (aX)) [some (.v (mD S rk c)),some (.v (.int n)),some (.v (.int r)),none,none,none] = .ok (.int k):=by
   unfold eMt
   rw[aV (show e1 (iQ "Machine" "steps") (aB 0) [some (.v (mD S rk c)),some (.v (.int n)),some (.v (.int r)),none,none,none]=_ from sY) rfl (jU (aCd hrl))]
   show (sI (nats S[r])).bind _=_
   rw[show nats S[r]=(S[r].map fun(x:Nat)=>(x:Int)).map D.int by rw[List.map_map];rfl,mY,aM,hk']
   show R.bind (.ok k) _=_
   rw[aM]
   exact aF (eU (by rw[length_map,length_map];omega))
  refine⟨[97+k],cO rfl (fX a1 (fX a2 (aEt (aCh (aB5 t3 (gC (aV rfl hix (aX9 (by omega)))))))) ),⟨⟨k,by omega,rfl,by rw[hst];exact aN.mp hr,hst⟩,by simp,by rw[h1];exact Nat.le_refl _,fun g hg=>?_⟩⟩
  rw[h1,List.mem_singleton]at hg
  show g∈stp S r (97+k-97)::[]
  rw[show 97+k-97=k by omega,hst,hg]
  exact mem_cons_self
 ·rw[decide_eq_false h1]at t3
  obtain⟨g0,hg0,hne⟩:∃ g0∈aH n,g0≠r:=Classical.byContradiction fun z=>h1 (by
   have all:∀ y∈aH n,y=r:=fun y hy=>Classical.byContradiction fun w=>z ⟨y,hy,w⟩
   have nd:=dC n
   cases hm:aH n with
   | nil=>rw[hm]at hr;cases hr
   | cons a T =>
    rw[hm]at all nd
    have ea:=all a mem_cons_self
    cases T with
    | nil=>rw[ea]
    | cons b T =>
     have eb:=all b (by simp)
     exact absurd (by simp[ea,eb]) (List.nodup_cons.mp nd).1)
  obtain⟨x,h,j,x5,e,k1,k2,k3,k4,k5,_⟩:=aA5 M hn hL hr (aH n) [] r 0 none (fun _ z=>z) rfl hr (zero_le _) (by omega)
  obtain⟨y,w1,w2,w3⟩:=aKl M hn hL k2 hr
  have hc:=bB8 (dC n) hr
  have hxl:x.length<=((aH n).length-1)*((aH n).length-1):=Nat.le_trans k3 (Nat.mul_le_mul_right _ (by omega))
  have hxn:x≠[]:=fun z=>by
   rw[z]at k5
   rcases List.mem_cons.mp (k5 g0 hg0) with z' | z'
   ·exact hne z'
   ·cases z'
  have hp:=yL k1 w2
  have hne':x++y≠[]:=fun z=>hxn (List.append_eq_nil_iff.mp z).1
  have hlen:(x++y).length<=(aH n).length*(aH n).length:=by
   obtain⟨k,hk2⟩:∃ k,(aH n).length=k+1:=⟨(aH n).length-1,by omega⟩
   rw[hk2,Nat.add_sub_cancel]at hxl
   rw[length_append,hk2,Nat.add_mul,Nat.mul_add,Nat.one_mul]
   omega
  have h64:(aH n).length*(aH n).length<=8*8:=Nat.mul_le_mul hk hk
  refine⟨x++y,cO rfl (fX a1 (fX a2 (fX (aCh (rN t3 rfl)) (aW (aCh (cG rfl)) (aW (st':=aU3 S rk c n r [] r none) (aCh (cG rfl)) (aW (aCh (nF (sX (aR rfl hro)) e)) (aCh (gC (aV rfl (aR rfl w1) (aF (eU (by rw[length_append]at hlen;omega)))))))))))),⟨hp,hne',hlen,fun g hg=>?_⟩⟩
  rcases List.mem_cons.mp (k5 g hg) with rfl | z
  ·have:=aU2 (S:=S) hne' g
   rwa [xP hp]at this
  ·rw[aFd]
   exact List.mem_append_left _ z
end
end Pu
namespace Pu
section
variable    {f:Nat->Nat} {s e:Nat}
theorem Lp.later(L:Lp S f q s e){s':Nat}(h:s<=s'):Lp S f q s' (s'+(e-s)):=by
 have:=L.lt
 exact⟨by omega,fun n hn=>by rw[show s'+(e-s)-s'=e-s by omega];exact L.per n (by omega),(L.at s' h).symm⟩
theorem Lp.window(L:Lp S f q s e){a b:Nat}(h:s<=a)(hb:a+(e-s)<=b)(r:Nat):r∈seg S f q a b ↔ r∈seg S f q s e:=by
 rw[pD,pD]
 constructor
 ·rintro⟨n,h1,_,rfl⟩
  obtain⟨m,a1,a2,a3⟩:=L.into n (by omega)
  exact⟨m,a1,a2,a3.symm⟩
 ·rintro⟨n,h1,h2,rfl⟩
  obtain⟨m,a1,a2,a3⟩:=L.sub (L.later h) n h1
  exact⟨m,a1,by omega,a3.symm⟩
theorem aMm(hf:∀ n,97<=f n/\(f n:Int)<97+c){al:Nat->Bool}{m:Nat}:∀ k,(∀ j,m<j->j<=m+k->al (fw S f q j)=true)->Rch S c al (fw S f q m) (fw S f q (m+k))
 | 0,_ => .here
 | k+1,h=>by
  have ih:=aMm hf (al:=al) (m:=m) k fun j h1 h2=>h j h1 (by omega)
  have h3:=h (m+k+1) (by omega) (by omega)
  have hk:=hf (m+k)
  exact Rch.on (l:=f (m+k)-97) ih (by omega) h3
theorem aQv(M:Mch S rk c)(hf:∀ n,97<=f n/\(f n:Int)<97+c)(hq:q<S.length)(L:Lp S f q s e):LpN S c (bY (seg S f q s e)):=by
 have hl:=L.lt
 have mem:∀ {x},x∈aH (bY (seg S f q s e)) ↔ ∃ n,s<=n/\n<e/\fw S f q n=x:=fun {x}=>by rw[lF,pD]
 have al:∀ j,s<=j->inN (bY (seg S f q s e)) (fw S f q j)=true:=fun j hj=>by
  obtain⟨m,a1,a2,a3⟩:=L.into j hj
  exact aN.mp (mem.mpr ⟨m,a1,a2,a3.symm⟩)
 have h0:fw S f q s∈aH (bY (seg S f q s e)):=mem.mpr ⟨s,Nat.le_refl _,hl,rfl⟩
 refine⟨fun z=>?_,fun a ha b hb=>?_,?_⟩
 ·rw[z,aN,zero_testBit]at h0
  cases h0
 ·obtain⟨i,i1,i2,rfl⟩:=mem.mp ha
  obtain⟨j,j1,j2,rfl⟩:=mem.mp hb
  have:=aMm (S:=S) (q:=q) hf (al:=inN (bY (seg S f q s e))) (m:=i) (j+(e-s)-i) fun k h1 h2=>al k (by omega)
  rw[show i+(j+(e-s)-i)=j+(e-s) by omega,L.at j j1]at this
  exact this
 ·unfold roundN
  by_cases h1:1<(aH (bY (seg S f q s e))).length
  ·rw[decide_eq_true h1];rfl
  ·have h2:fw S f q (s+1)∈aH (bY (seg S f q s e)):=aN.mpr (al (s+1) (by omega))
   have:=hf s
   cases hm:aH (bY (seg S f q s e)) with
   | nil=>rw[hm]at h0;cases h0
   | cons x T =>
    rw[hm]at h0 h1 h2
    have hT:T=[]:=by
     cases T with
     | nil=>rfl
     | cons y T=>simp at h1
    subst hT
    have e0:=List.mem_singleton.mp h0
    have e1:=List.mem_singleton.mp h2
    have:x∈S.getD x []:=(aF6 M (by rw[<-e0];exact aD1 M hf hq s)).mpr ⟨f s-97,by omega,by
     have h9:stp S (fw S f q s) (f s-97)=fw S f q (s+1):=rfl
     rw[e0,e1]at h9
     exact h9⟩
    rw[or_eq_true]
    exact .inr (decide_eq_true this)
theorem aQw(M:Mch S rk c)(hf:∀ n,97<=f n/\(f n:Int)<97+c)(hq:q<S.length)(n:Nat):fw S f q n∈aH (eO S c (bY (List.range S.length)) q):=by
 refine aN.mpr ((iK M hq _).mpr ?_)
 have:=aMm (S:=S) (q:=q) hf (al:=fun g=>(bY (List.range S.length)).testBit g) (m:=0) n fun j _ _=>by
  show (bY (List.range S.length)).testBit _=true
  rw[fJ]
  exact decide_eq_true (List.mem_range.mpr (aD1 M hf hq j))
 rw[Nat.zero_add]at this
 exact this
theorem aXa{a b:Nat}:0<a&&&b ↔ ∃ g,a.testBit g=true/\b.testBit g=true:=by
 constructor
 ·intro h
  obtain⟨g,hg⟩:=Nat.exists_testBit_of_ne_zero (Nat.pos_iff_ne_zero.mp h)
  rw[testBit_and,and_eq_true]at hg
  exact⟨g,hg⟩
 ·rintro⟨g,h1,h2⟩
  refine Nat.pos_of_ne_zero fun z=>?_
  have:(a&&&b).testBit g=true:=by rw[testBit_and,h1,h2];rfl
  rw[z,zero_testBit]at this
  cases this
end
end Pu
namespace Pu
section
variable{S:List (List Nat)}{rk:List Nat}{c n al:Nat}{q:Nat}{w:Bool}
def jn(L:List Nat)(b:Nat):Nat:=L.foldl (fun b m=>b|||m) b
theorem aMn{g:Nat}:∀ (L:List Nat) (b:Nat),g∈aH (jn L b) ↔ g∈aH b\/∃ m∈L,g∈aH m
 | [],b=>by
  constructor
  ·exact .inl
  ·rintro(z | ⟨m,h,_⟩)
   ·exact z
   ·cases h
 | m::L,b=>by
  show g∈aH (jn L (b|||m)) ↔ _
  rw[aMn L,aN,testBit_or,or_eq_true,<-aN,<-aN]
  constructor
  ·rintro((z | z) | ⟨o,h1,h2⟩)
   ·exact .inl z
   ·exact .inr ⟨m,mem_cons_self,z⟩
   ·exact .inr ⟨o,mem_cons_of_mem _ h1,h2⟩
  ·rintro(z | ⟨o,h1,h2⟩)
   ·exact .inl (.inl z)
   ·rcases List.mem_cons.mp h1 with rfl | h1
    ·exact .inl (.inr h2)
    ·exact .inr ⟨o,h1,h2⟩
theorem aZ1(a b:Nat):dOr (.int a) (.int b) = .ok (.int ((a|||b:Nat):Int)):=by
 have:dOr (.int (a:Int)) (.int (b:Int)) = .ok (.int (((a:Int).toNat|||(b:Int).toNat:Nat):Int)):=aF ⟨by omega,by omega⟩
 rw[this,toNat_natCast,toNat_natCast]
theorem aOs(x0:Option Sl):∀ (L:List Nat) (b:Nat) (x2:Option Sl),∃ y2,forR (tgN 2) aEm (nats L) [x0,some (.v (.int b)),x2] = .ok (.nx [x0,some (.v (.int (jn L b))),y2])
 | [],b,x2=>⟨x2,rfl⟩
 | m::L,b,x2=>by
  obtain⟨y2,e⟩:=aOs x0 L (b|||m) (some (.v (.int m)))
  exact⟨y2,uO rfl (cG (aV rfl rfl (aZ1 b m))) e⟩
theorem bEj(L:List Nat):aAz [.lst (nats L)] = .ok (.int (jn L 0)):=by
 obtain⟨y2,e⟩:=aOs (some (.v (.lst (nats L)))) L 0 none
 exact cO rfl (aW (cG rfl) (aW (nF (sX rfl) e) rfl))
theorem aMo(p:Nat->Bool):∀ k,bY ((List.range k).filter p)+bY ((List.range k).filter fun r => !p r)=bY (List.range k):=fun k=>by
 have h1:=pR p k
 have h2:=pR (fun r => !p r) k
 have h3:=pR (fun _=>true) k
 have e3:(List.range k).filter (fun _=>true)=List.range k:=List.filter_eq_self.mpr fun _ _=>rfl
 rw[e3]at h3
 rw[<-h1,<-h2,<-h3]
 generalize List.range k=l
 induction l with
 | nil=>rfl
 | cons a l ih =>
  cases h:p a with
  | true=>rw[filter_cons_of_pos h,filter_cons_of_neg (by rw[h];decide),map_cons,map_cons,sum_cons,sum_cons];omega
  | false=>rw[filter_cons_of_neg (by rw[h];decide),filter_cons_of_pos (by rw[h];rfl),map_cons,map_cons,sum_cons,sum_cons];omega
theorem aXb(p:Nat->Bool)(k:Nat):aT1 (.int (bY (List.range k):Nat)) (.int (bY ((List.range k).filter p):Nat)) = .ok (.int (bY ((List.range k).filter fun r => !p r):Nat)):=by
 have e:aT1 (.int (bY (List.range k):Nat)) (.int (bY ((List.range k).filter p):Nat)) = .ok (.int ((((bY (List.range k):Int).toNat|||(bY ((List.range k).filter p):Int).toNat:Nat):Int)-(((bY (List.range k):Int).toNat&&&(bY ((List.range k).filter p):Int).toNat:Nat):Int))):=aF ⟨by omega,by omega⟩
 have o1:bY (List.range k)|||bY ((List.range k).filter p)=bY (List.range k):=aTv.mpr fun g hg=>lF.mpr (List.mem_filter.mp (lF.mp hg)).1
 have o2:bY (List.range k)&&&bY ((List.range k).filter p)=bY ((List.range k).filter p):=eq_of_testBit_eq fun r=>by
  rw[testBit_and,fJ,fJ]
  by_cases h:r∈(List.range k).filter p
  ·rw[decide_eq_true h,decide_eq_true (List.mem_filter.mp h).1];rfl
  ·rw[decide_eq_false h,Bool.and_false]
 rw[e,toNat_natCast,toNat_natCast,o1,o2]
 have:=aMo p k
 congr 2
 omega
noncomputable def aD4(S:List (List Nat))(c:Nat)(rk:List Nat)(w:Bool):Nat:=jn (aTy S c rk (bY (List.range S.length)) w) 0
theorem aKm(M:Mch S rk c):fW [mD S rk c,.bl w] = .ok (.int (bY ((List.range S.length).filter fun r => !aA4 S c (aD4 S c rk w) r))) :=
 cO rfl (aW (cG (aR rfl (aOm M))) (aW (cG (aR (bR (aR rfl (aX8 M aFb)) rfl) (bEj _))) (gC (aV rfl (aR rfl (aTx M _)) (aXb _ _)))))
theorem aOt(M:Mch S rk c)  (hr:r<S.length):aA4 S c (aD4 S c rk w) r=true ↔ ∃ m,m<2^S.length/\LpN S c m/\(∀ g∈aH m,g∈aH (eO S c (bY (List.range S.length)) r))/\(decide (uP rk m%2=0)==w)=true:=by
 have ha:bY (List.range S.length)<2^S.length:=aFb
 unfold aA4
 rw[decide_eq_true_eq,aXa]
 have sees:∀ {g},(eO S c (bY (List.range S.length)) r).testBit g=true ↔ Rch S c (inN (bY (List.range S.length))) r g:=fun {g}=>iK M hr g
 have inAll:∀ {m:Nat},m<2^S.length->∀ g∈aH m,g∈aH (bY (List.range S.length)):=fun hm g hg=>lF.mpr (List.mem_range.mpr (bZ hm hg))
 constructor
 ·rintro⟨g,h1,h2⟩
  rcases (aMn _ _).mp (aN.mpr h2) with z | ⟨m,hm,hgm⟩
  ·rw[aN,zero_testBit]at z;cases z
  ·obtain⟨p,hp,ht⟩:=List.mem_flatMap.mp hm
   obtain⟨t1,t2,t3,t4⟩:=aQs M ha ht
   refine⟨m,t1,t2,fun x hx=>aN.mpr (sees.mpr ?_),by rw[t4];exact(aOo.mp hp).2⟩
   exact Rch.trans (sees.mp h1) (Rch.mono (fun y hy=>aN.mp (inAll t1 y (aN.mpr hy))) (t2.2.1 g hgm x hx))
 ·rintro⟨m,h1,h2,h3,h4⟩
  have h0:=aIj h2.1
  obtain⟨g,T,hg⟩:∃ g T,aH m=g::T:=by
   cases h:aH m with
   | nil=>exact(h0 h).elim
   | cons g T=>exact⟨g,T,rfl⟩
  have hgm:g∈aH m:=by rw[hg];exact mem_cons_self
  obtain⟨l1,l2,l3⟩:=aQr M ha h2 (inAll h1) rfl hgm
  obtain⟨⟨x,hx,ex⟩,_⟩:=aKi (rk:=rk) h2.1
  refine⟨g,aN.mp (h3 g hgm),aN.mp ((aMn _ _).mpr (.inr ⟨dW S c (uQ rk (bY (List.range S.length)) (uP rk m)) g,?_,l3 g hgm⟩))⟩
  refine List.mem_flatMap.mpr ⟨uP rk m,aOo.mpr ⟨⟨x,inAll h1 x hx,ex⟩,h4⟩,List.mem_filter.mpr ⟨yJ.mpr ⟨g,l1,rfl,?_⟩,?_⟩⟩
  ·unfold aFc at l2
   exact(Bool.and_eq_true_iff.mp l2).1
  ·unfold aFc at l2
   exact(Bool.and_eq_true_iff.mp l2).2
end
end Pu
namespace Pu
theorem bGz{op:D->R D}  {st:PSt} {x:D} {z:R D} (h:f st = .ok x) (ho:op x=z):e1 op f st=z:=by
 show (f st).bind op=_
 rw[h]
 exact ho
theorem aU4(h:p ds = .ok d):pNX p ds = .ok d:=by
 show (p ds).nox=_
 rw[h];rfl
theorem aXc{r:Exs}{st:PSt}{a b:D}(h:r st = .ok [a,b]):aQ9 r st = .ok (.tup [a,b]):=by
 show (r st).bind _=_
 rw[h]
 exact aF (eU (show 2<=10000000 by decide))
theorem aXd(n:Nat):bY (List.range n)=2^n-1:=eq_of_testBit_eq fun r=>by
 rw[fJ,Nat.testBit_two_pow_sub_one,decide_eq_decide.mpr List.mem_range]
theorem aOu{st:PSt}  (h:f st = .ok (.int n)) (hn:n<=8):e2 aI6 (e2 vY (eC (.int 1)) f) (eC (.int 1)) st = .ok (.int (bY (List.range n):Nat)):=by
 refine aV (aV rfl h (aIh (by omega))) rfl ?_
 show R.ok (D.int (((2^n:Nat):Int)-1))=_
 rw[aXd,Int.natCast_sub Nat.one_le_two_pow]
 rfl
theorem aHe(p:Nat->Bool)(k:Nat):bY ((List.range (k+1)).filter p)=bY ((List.range k).filter p)+if p k=true then 2^k else 0:=by
 rw[<-pR,<-pR,List.range_succ,List.filter_append,List.map_append,List.sum_append]
 cases h:p k with
 | true=>rw[filter_cons_of_pos h];simp
 | false=>rw[filter_cons_of_neg (by rw[h];decide)];simp
theorem sum_set{l:List Nat}(nd:l.Nodup)(h:∀ g∈l,g<n):(l.map fun r=>2^r).sum=bY l:=by
 have perm:l.Perm ((List.range n).filter fun g=>decide (g∈l)):=(List.perm_ext_iff_of_nodup nd (List.nodup_range.filter _)).mpr fun a=>by
  rw[List.mem_filter,List.mem_range,decide_eq_true_eq]
  exact⟨fun z=>⟨h a z,z⟩,fun z=>z.2⟩
 rw[(perm.map fun r=>2^r).sum_nat,pR]
 exact aIg fun r=>perm.mem_iff.symm
section
variable{S:List (List Nat)}{rk:List Nat}{c n:Nat}{q:Nat}
theorem aQx{e:Exs}{st:PSt}{z:R D}(hf:f st = .ok (mD S rk c))(hr:e st = .ok xs)(h:p (mD S rk c::xs)=z):sH "Machine" "lets" p [] f e st=z:=by
 rw[aEh,hf,hr]
 show aJ _ (p (mD S rk c::(xs++[])))=_
 rw[append_nil,<-h]
 exact aF ⟨rfl,by decide⟩
theorem aXe{f:Nat->Nat}{s e:Nat}{v:Bool}(L:Lp S f q s e)(h:Ev S rk f q v):v=decide (mx rk (aH (bY (seg S f q s e)))%2=0):=by
 rw[h.alone ⟨s,e,L,rfl⟩,aO8 (l2:=aH (bY (seg S f q s e))) (aM9 L.lt) fun r=>lF.symm]
theorem aIn{f:Nat->Nat}:∀ (x:List Nat) (n:Nat),(∀ i,i<x.length->x.getD i 0=f (n+i))->lE S (fw S f q n) x=fw S f q (n+x.length)
 | [],_,_=>rfl
 | ch::x,n,h=>by
  have h0:ch=f n:=by have:=h 0 (by simp);simpa using this
  have:=aIn (f:=f) x (n+1) fun i hi=>by
   have:=h (i+1) (by simp;omega)
   rw[show n+1+i=n+(i+1) by omega,<-this]
   simp
  rw[length_cons,show n+(x.length+1)=n+1+x.length by omega,<-this]
  show lE S (stp S (fw S f q n) (ch-97)) x=lE S (fw S f q (n+1)) x
  rw[h0]
  rfl
theorem aMp{b u:List Nat}(hb:lE S q b=r)(Q:Rnd S c n r u):∃ s e,Lp S (lt b u) q s e/\bY (seg S (lt b u) q s e)=n:=by
 have u1:1<=u.length:=by
  cases hu:u with
  | nil=>exact(Q.ne hu).elim
  | cons a T=>simp
 have e0:=aIn (S:=S) (q:=q) (f:=lt b u) b 0 fun i hi=>aTd hi
 rw[Nat.zero_add]at e0
 have er0:fw S (lt b u) q b.length=r:=by rw[<-e0];exact hb
 have hu:∀ i,i<u.length->u.getD i 0=lt b u (b.length+i):=fun i hi=>by
  have:=aTe (b:=b) (t:=u) 0 hi
  rw[Nat.zero_mul,Nat.add_zero]at this
  exact this
 have e1':=aIn (S:=S) (q:=q) u b.length hu
 rw[er0,xP Q.pat]at e1'
 have L0:Lp S (lt b u) q b.length (b.length+u.length):=⟨by omega,fun n hn=>by
  rw[show b.length+u.length-b.length=u.length by omega]
  have:=aDu (b:=b) (t:=u) (n:=n) hn 1
  rw[Nat.one_mul]at this
  exact this,by rw[er0];exact e1'⟩
 have er:=aF0 (S:=S) (q:=q) u b.length hu
 rw[er0]at er
 refine⟨_,_,L0,(aIg (l':=aH n) fun g=>?_).trans (iJ n)⟩
 rw[<-L0.window (a:=b.length+1) (b:=b.length+1+u.length) (by omega) (by omega),<-er]
 exact⟨fun h=>aN.mpr (aKk Q.pat g h),fun h=>Q.all g h⟩
noncomputable def sees(S:List (List Nat))(c r:Nat):Nat:=eO S c (bY (List.range S.length)) r
noncomputable def dH(S:List (List Nat))(c r:Nat):List Nat:=(rP S c).filter fun m=>decide (m|||sees S c r=sees S c r)
noncomputable def cJ(S:List (List Nat))(rk:List Nat)(c r:Nat):List Nat:=(dH S c r).filter fun m=>decide (uP rk m%2=0)
theorem pU{m:Nat}:m∈dH S c r ↔ (m<2^S.length/\LpN S c m)/\∀ g∈aH m,g∈aH (sees S c r):=by
 unfold dH
 rw[List.mem_filter,aQl,decide_eq_true_eq,Nat.or_comm,aTv]
theorem aU5(M:Mch S rk c)  (hr:r<S.length):decide (cJ S rk c r=[]) = !aA4 S c (aD4 S c rk true) r:=by
 have h:=aOt (w:=true) M hr
 cases hh:aA4 S c (aD4 S c rk true) r with
 | true =>
  obtain⟨m,h1,h2,h3,h4⟩:=h.mp hh
  refine decide_eq_false fun z=>?_
  have:m∈cJ S rk c r:=List.mem_filter.mpr ⟨pU.mpr ⟨⟨h1,h2⟩,h3⟩,by simpa using h4⟩
  rw[z]at this
  cases this
 | false =>
  refine decide_eq_true (List.eq_nil_iff_forall_not_mem.mpr fun m hm=>?_)
  obtain⟨a,b⟩:=List.mem_filter.mp hm
  obtain⟨⟨h1,h2⟩,h3⟩:=pU.mp a
  rw[h.mpr ⟨m,h1,h2,h3,by simpa using b⟩]at hh
  cases hh
theorem aU6(M:Mch S rk c)  (hr:r<S.length):decide ((cJ S rk c r).length=(dH S c r).length) = !aA4 S c (aD4 S c rk false) r:=by
 have h:=aOt (w:=false) M hr
 cases hh:aA4 S c (aD4 S c rk false) r with
 | true =>
  obtain⟨m,h1,h2,h3,h4⟩:=h.mp hh
  refine decide_eq_false fun z=>?_
  have:=(List.length_filter_eq_length_iff.mp z) m (pU.mpr ⟨⟨h1,h2⟩,h3⟩)
  rw[this]at h4
  cases h4
 | false =>
  refine decide_eq_true (List.length_filter_eq_length_iff.mpr fun m hm=>?_)
  obtain⟨⟨h1,h2⟩,h3⟩:=pU.mp hm
  cases hd:decide (uP rk m%2=0) with
  | true=>rfl
  | false =>
   rw[h.mpr ⟨m,h1,h2,h3,by rw[hd];rfl⟩]at hh
   cases hh
theorem aXf(M:Mch S rk c)  (hr:r<S.length):dH S c r≠[]:=fun z=>by
 have l2:Ltr c [97]:=fun z hz=>by rw[List.mem_singleton.mp hz];have:=M.c1;exact⟨by omega,by omega⟩
 have hf:=aM8 (b:=[]) (t:=[97]) (c:=c) (fun _ h=>nomatch h) l2 (by decide)
 obtain⟨J,hJ,⟨i,hi,ei⟩,_⟩:=aD0 (fun i=>fw S (lt [] [97]) r (([]:List Nat).length+i * [97].length)) S.length fun i=>aD1 M hf hr _
 have L:=aOa (by decide) hi ei
 have:bY (seg S (lt [] [97]) r _ _)∈dH S c r:=pU.mpr ⟨⟨yI fun x hx=>by
  obtain⟨n,_,_,rfl⟩:=pD.mp hx
  exact aD1 M hf hr n,aQv M hf hr L⟩,fun g hg=>by
  obtain⟨n,_,_,rfl⟩:=pD.mp (lF.mp hg)
  exact aQw M hf hr n⟩
 rw[z]at this
 cases this
end
end Pu
namespace Pu
section
variable{S:List (List Nat)}{rk:List Nat}{c n:Nat}{q:Nat}
noncomputable def aBf(ns:List Int)(S:List (List Nat))(rk:List Nat)(c:Nat)(de su:Nat)(x6 x9 x10 x11 x12 x13 x14 x15:Option Sl):PSt:=[some (.v (.lst (ns.map D.int))),some (.v (.int S.length)),some (.v (mD S rk c)),some (.v (.lst (nats (rP S c)))),some (.v (.int de)),some (.v (.int su)),x6,some (.v (.lst (stD S))),some (.v (.lst (nats rk))),x9,x10,x11,x12,x13,x14,x15,none,none]
theorem aU7(ns:List Int)(M:Mch S rk c){r:Nat}(hr:r<S.length)(de su:Nat)(x9 x10 x11 x12 x13 x14 x15:Option Sl):e1 bAj (cR [17] (tgN 17) (itE (aP fU (aC (aB 7) (aC (e2 aI6 (e2 vY (eC (.int 1)) (aB 1)) (eC (.int 1))) (aC (aB 6) (aX)))))) fD (aIe)) (aBf ns S rk c de su (some (.v (.int r))) x9 x10 x11 x12 x13 x14 x15) = .ok (.int (sees S c r:Nat)):=by
 have h8:=M.most
 obtain⟨l,e,nd,hl⟩:=aKg M hr (bY (List.range S.length))
 have hlt:∀ g∈l,g<S.length:=fun g hg=>aCf M hr ((hl g).mp hg)
 have hlen:=gG S.length l nd hlt
 have hc:=fY (tg:=tgN 17) (C:=fD) (E:=aIe) (st:=aBf ns S rk c de su (some (.v (.int r))) x9 x10 x11 x12 x13 x14 x15) (q:=fun _=>true) (G:=fun k=>D.int ((2^k:Nat):Int)) l fun k hk=>⟨_,rfl,rfl,aV rfl rfl (aIh (by have:=hlt k hk;omega))⟩
 rw[List.filter_eq_self.mpr fun _ _=>rfl]at hc
 refine bGz (jZ (xs:=nats l) (sX (aR (bR rfl (bR (aOu rfl h8) (bR rfl rfl))) e)) (by rw[aZ];omega) hc) ?_
 have em:(l.map fun k=>D.int ((2^k:Nat):Int))=(l.map fun k=>((2^k:Nat):Int)).map D.int:=by
  rw[List.map_map]
  rfl
 rw[em]
 show (sI _).bind _=_
 rw[mY,aM,aKh,sum_set nd hlt]
 refine congrArg (fun n:Nat=>R.ok (D.int (n:Int))) ?_
 refine eq_of_testBit_eq fun g=>Bool.eq_iff_iff.mpr ?_
 rw[fJ,decide_eq_true_eq,hl]
 exact(iK M hr g).symm
theorem aU8(ns:List Int)(M:Mch S rk c)  (hr:r<S.length) (de su:Nat) (x9 x10 x11 x12 x13 x14 x15:Option Sl):∃ y9 y10 y11 y12 y13 y14 y15,aEs (aBf ns S rk c de su (some (.v (.int r))) x9 x10 x11 x12 x13 x14 x15) = .ok (.nx (aBf ns S rk c (de+if decide (cJ S rk c r=[])=true then 2^r else 0) (su+if decide ((cJ S rk c r).length=(dH S c r).length)=true then 2^r else 0) (some (.v (.int r))) y9 y10 y11 y12 y13 y14 y15)):=by
 have h8:=M.most
 have n2:=aOl M
 have hlo:(rP S c).length<=256:=Nat.le_trans aQn n2
 have hso:(dH S c r).length<=256:=Nat.le_trans (length_filter_le _ _) hlo
 have hgo:(cJ S rk c r).length<=256:=Nat.le_trans (length_filter_le _ _) hso
 have c10:∀ de su x10 x11 x12 x13 x14 x15,cR [12] (tgN 12) (itE (aB 3)) (aO2) (aO1) (aBf ns S rk c de su (some (.v (.int r))) (some (.v (.int (sees S c r:Nat)))) x10 x11 x12 x13 x14 x15) = .ok (.lst (nats (dH S c r))):=fun de su x10 x11 x12 x13 x14 x15=>by
  refine jZ (xs:=nats (rP S c)) (sX rfl) (by rw[aZ];omega) ?_
  exact fY (tg:=tgN 12) (q:=fun m=>decide (m|||sees S c r=sees S c r)) (G:=fun k=>D.int (k:Nat)) (rP S c) fun k _=>⟨_,rfl,eqE (aV rfl rfl (aZ1 k (sees S c r))) rfl,rfl⟩
 have c11:∀ de su x11 x12 x13 x14 x15,cR [12] (tgN 12) (itE (aB 10)) (aO4) (aO3) (aBf ns S rk c de su (some (.v (.int r))) (some (.v (.int (sees S c r:Nat)))) (some (.v (.lst (nats (dH S c r))))) x11 x12 x13 x14 x15) = .ok (.lst (nats (cJ S rk c r))):=fun de su x11 x12 x13 x14 x15=>by
  refine jZ (xs:=nats (dH S c r)) (sX rfl) (by rw[aZ];omega) ?_
  refine fY (tg:=tgN 12) (q:=fun m=>decide (uP rk m%2=0)) (G:=fun k=>D.int (k:Nat)) (dH S c r) fun k hk=>?_
  obtain⟨⟨k1,k2⟩,_⟩:=pU.mp hk
  exact⟨_,rfl,aV (aV (aR rfl (aX5 M k1 k2.1)) rfl (xJ (by decide))) rfl (xK _ _),rfl⟩
 have hpos:0<(dH S c r).length:=List.length_pos_iff.mpr (aXf M hr)
 have hcell:=yK ns 1 (by decide) (by decide)
 generalize cvL ns (1:Int).toNat=c1 at hcell
 have hmix:=lU c1 (21+r) ((dH S c r).length:Int) (by omega)
 obtain⟨i0,i1⟩:=qN c1 (21+r) (m:=((dH S c r).length:Int)) (by omega)
 obtain⟨i,hi⟩:∃ i:Nat,xO c1 (21+r) ((dH S c r).length:Int)=(i:Int):=⟨(xO c1 (21+r) ((dH S c r).length:Int)).toNat,by omega⟩
 rw[hi]at hmix i1
 have hil:i<(dH S c r).length:=by omega
 obtain⟨m,hm,hix⟩:∃ m,m∈dH S c r/\dIx (.lst (nats (dH S c r))) (.int i) = .ok (.int m):=by
  refine⟨(dH S c r)[i],List.getElem_mem hil,jU ?_⟩
  rw[atI_nat (by rw[aZ];exact hil)]
  unfold nats
  simp
 obtain⟨⟨m1,m2⟩,m3⟩:=pU.mp hm
 obtain⟨g,T,hF⟩:∃ g T,(List.range S.length).filter (fun x=>m.testBit x)=g::T:=by
  cases h:(List.range S.length).filter (fun x=>m.testBit x) with
  | cons g T=>exact⟨g,T,rfl⟩
  | nil =>
   refine(aIj m2.1 (List.eq_nil_iff_forall_not_mem.mpr fun x hx=>?_)).elim
   have:x∈(List.range S.length).filter (fun x=>m.testBit x):=List.mem_filter.mpr ⟨List.mem_range.mpr (bZ m1 hx),aN.mp hx⟩
   rw[h]at this
   cases this
 have hg0:g∈(List.range S.length).filter (fun x=>m.testBit x):=by rw[hF];exact mem_cons_self
 have hgm:g∈aH m:=aN.mpr (List.mem_filter.mp hg0).2
 have hgl:=bZ m1 hgm
 have c13:∀ de su x13 x14 x15,e2 dIx (cR [17] (tgN 17) (uA (aB 1)) (aEr) (aEq)) (eC (.int 0)) (aBf ns S rk c de su (some (.v (.int r))) (some (.v (.int (sees S c r:Nat)))) (some (.v (.lst (nats (dH S c r))))) (some (.v (.lst (nats (cJ S rk c r))))) (some (.v (.int m))) x13 x14 x15) = .ok (.int g):=fun de su x13 x14 x15=>by
  have hc:=fY (tg:=tgN 17) (C:=aEr) (E:=aEq) (st:=aBf ns S rk c de su (some (.v (.int r))) (some (.v (.int (sees S c r:Nat)))) (some (.v (.lst (nats (dH S c r))))) (some (.v (.lst (nats (cJ S rk c r))))) (some (.v (.int m))) x13 x14 x15) (q:=fun x=>m.testBit x) (G:=fun k=>D.int (k:Nat)) (List.range S.length) fun k _=>⟨_,rfl,aX2 rfl rfl,rfl⟩
  rw[hF]at hc
  refine aV (jZ (xs:=nats (List.range S.length)) (aJv rfl (by omega)) (by rw[aZ,length_range];omega) hc) rfl (jU ?_)
  show atI (D.int g::T.map fun k=>D.int (k:Nat)) ((0:Nat):Int)=_
  rw[atI_nat (by simp)]
  rfl
 obtain⟨u,hu,Q⟩:=aMl M m1 m2 hgm
 have hway:∃ b,jT [mD S rk c,.int (bY (List.range S.length):Nat),.int r,.int g] = .ok (.str b)/\lE S r b=g/\Ltr c b/\b.length<=10000:=by
  rcases aU0 M (n:=bY (List.range S.length)) aFb hr g with ⟨_,z⟩ | ⟨b,h1,_,h3,h4,h5⟩
  ·refine(z ⟨?_,?_⟩).elim
   ·rw[fJ];exact decide_eq_true (List.mem_range.mpr hr)
   ·have hs:Rch S c (fun g=>(bY (List.range S.length)).testBit g) r g:=(iK M hr g).mp (aN.mp (m3 g hgm))
    exact aOr hs
  ·have:=gG S.length _ (dC (bY (List.range S.length))) fun x hx=>bZ aFb hx
   exact⟨b,h1,xP h3.1,h4,by omega⟩
 obtain⟨b,hb,hlast,lb,bl⟩:=hway
 have hml:(aH m).length<=8:=Nat.le_trans (gG S.length _ (dC m) fun x hx=>bZ m1 hx) h8
 have hul:u.length<=64:=Nat.le_trans Q.len (Nat.le_trans (Nat.mul_le_mul hml hml) (by decide))
 have u1:1<=u.length:=by
  cases hu:u with
  | nil=>exact(Q.ne hu).elim
  | cons a T=>simp
 obtain⟨v,hv,hlet⟩:=aWs M hr lb (aIl Q.pat) u1 (by omega) bl
 obtain⟨s,e,L,es⟩:=aMp hlast Q
 have ev:=aXe L hv
 rw[es]at ev
 have ev':v=decide (m∈cJ S rk c r):=by
  rw[ev]
  refine decide_eq_decide.mpr ?_
  unfold cJ
  rw[List.mem_filter,decide_eq_true_eq]
  exact⟨fun z=>⟨hm,z⟩,fun z=>z.2⟩
 refine⟨some (.v (.int (sees S c r:Nat))),some (.v (.lst (nats (dH S c r)))),some (.v (.lst (nats (cJ S rk c r)))),some (.v (.int m)),some (.v (.int g)),some (.v (.str b)),some (.v (.bl v)),?_⟩
 refine aW (cG (aU7 ns M hr _ _ _ _ _ _ _ _ _)) ?_
 refine aW (cG (c10 _ _ _ _ _ _ _ _)) ?_
 refine aW (cG (c11 _ _ _ _ _ _ _)) ?_
 have sh:∀ st:PSt,aB 6 st = .ok (.int r)->e2 vY (eC (.int 1)) (aB 6) st = .ok (.int ((2^r:Nat):Int)):=fun st h=>aV rfl h (aIh (by omega))
 refine aW (st':=aBf ns S rk c (de+if decide (cJ S rk c r=[])=true then 2^r else 0) su (some (.v (.int r))) (some (.v (.int (sees S c r:Nat)))) (some (.v (.lst (nats (dH S c r))))) (some (.v (.lst (nats (cJ S rk c r))))) x12 x13 x14 x15) ?_ ?_
 ·cases hd:decide (cJ S rk c r=[]) with
  | true =>
   refine aB5 (aV rfl (pP rfl) (by rw[<-hd];exact aTz _)) (cG (aV rfl (sh _ rfl) ?_))
   show R.ok (D.int ((de:Int)+((2^r:Nat):Int)))=_
   rw[if_pos rfl,Int.natCast_add]
  | false=>exact rN (aV rfl (pP rfl) (by rw[<-hd];exact aTz _)) rfl
 generalize (de+if decide (cJ S rk c r=[])=true then 2^r else 0)=de'
 refine aW (st':=aBf ns S rk c de' (su+if decide ((cJ S rk c r).length=(dH S c r).length)=true then 2^r else 0) (some (.v (.int r))) (some (.v (.int (sees S c r:Nat)))) (some (.v (.lst (nats (dH S c r))))) (some (.v (.lst (nats (cJ S rk c r))))) x12 x13 x14 x15) ?_ ?_
 ·have hle:e2 dEq (e1 fC (aB 11)) (e1 fC (aB 10)) (aBf ns S rk c de' su (some (.v (.int r))) (some (.v (.int (sees S c r:Nat)))) (some (.v (.lst (nats (dH S c r))))) (some (.v (.lst (nats (cJ S rk c r))))) x12 x13 x14 x15) = .ok (.bl (decide ((cJ S rk c r).length=(dH S c r).length))):=by
   refine eqE ?_ ?_
   ·show R.ok (D.int (((nats (cJ S rk c r)).length:Nat):Int))=_
    rw[aZ]
   ·show R.ok (D.int (((nats (dH S c r)).length:Nat):Int))=_
    rw[aZ]
  cases hd:decide ((cJ S rk c r).length=(dH S c r).length) with
  | true =>
   rw[hd]at hle
   refine aB5 hle (cG (aV rfl (sh _ rfl) ?_))
   show R.ok (D.int ((su:Int)+((2^r:Nat):Int)))=_
   rw[if_pos rfl,Int.natCast_add]
  | false =>
   rw[hd]at hle
   exact rN hle rfl
 generalize (su+if decide ((cJ S rk c r).length=(dH S c r).length)=true then 2^r else 0)=su'
 refine aW (cG (aV rfl (aR (bR (aR rfl hcell) (bR (aV rfl rfl rfl) (bR (d := .int ((dH S c r).length:Nat)) (by show R.ok (D.int (((nats (dH S c r)).length:Nat):Int))=_;rw[aZ]) rfl))) hmix) hix)) ?_
 refine aW (cG (c13 _ _ _ _ _)) ?_
 refine aW (cG (aR (bR rfl (bR (aOu rfl h8) (bR rfl (bR rfl rfl)))) hb)) ?_
 refine aW (cG (aQx rfl (bR (aXc (bR rfl (bR (aR rfl (aU4 hu)) rfl))) (bR rfl rfl)) (aU4 hlet))) ?_
 refine rN (aJu (p:=false) (q:=false) (bB1 rfl) fun _=>aV rfl (aV rfl rfl (aTk m (cJ S rk c r))) ?_) rfl
 rw[bB2,ev']
 cases decide (m∈cJ S rk c r) <;> rfl
theorem aHf(ns:List Int)(M:Mch S rk c):∀ (m k:Nat) (x6 x9 x10 x11 x12 x13 x14 x15:Option Sl),k+m=S.length->∃ y6 y9 y10 y11 y12 y13 y14 y15,forR (tgN 6) aEs (nats (List.range' k m)) (aBf ns S rk c (bY ((List.range k).filter fun r=>decide (cJ S rk c r=[]))) (bY ((List.range k).filter fun r=>decide ((cJ S rk c r).length=(dH S c r).length))) x6 x9 x10 x11 x12 x13 x14 x15) = .ok (.nx (aBf ns S rk c (bY ((List.range S.length).filter fun r=>decide (cJ S rk c r=[]))) (bY ((List.range S.length).filter fun r=>decide ((cJ S rk c r).length=(dH S c r).length))) y6 y9 y10 y11 y12 y13 y14 y15))
 | 0,k,x6,x9,x10,x11,x12,x13,x14,x15,h=>by
  rw[Nat.add_zero]at h
  subst h
  exact⟨x6,x9,x10,x11,x12,x13,x14,x15,rfl⟩
 | m+1,k,x6,x9,x10,x11,x12,x13,x14,x15,h=>by
  obtain⟨y9,y10,y11,y12,y13,y14,y15,e⟩:=aU8 ns M (r:=k) (by omega) (bY ((List.range k).filter fun r=>decide (cJ S rk c r=[]))) (bY ((List.range k).filter fun r=>decide ((cJ S rk c r).length=(dH S c r).length))) x9 x10 x11 x12 x13 x14 x15
  rw[<-aHe (fun r=>decide (cJ S rk c r=[])) k,<-aHe (fun r=>decide ((cJ S rk c r).length=(dH S c r).length)) k]at e
  obtain⟨z6,z9,z10,z11,z12,z13,z14,z15,e2'⟩:=aHf ns M m (k+1) (some (.v (.int k))) y9 y10 y11 y12 y13 y14 y15 (by omega)
  exact⟨z6,z9,z10,z11,z12,z13,z14,z15,by rw[List.range'_succ];exact uO rfl e e2'⟩
end
theorem law_true(ns:List Int)(hn:ns.length<=63):aGx [.lst (ns.map D.int)] = .ok (.bl true):=by
 obtain⟨S,rk,c,em,M⟩:=aTt ns (mo:=8) (by decide) (by decide)
 have n8:=M.most
 have cp:=aH0 (E:=aO0) (st:=[some (.v (.lst (ns.map D.int))),some (.v (.int S.length)),none,none,none,none,none,some (.v (.lst (stD S))),some (.v (.lst (nats rk))),none,none,none,none,none,none,none,none,none]) (j:=16) (v:=7) (xs:=stD S) rfl (by rw[iT];omega) (fun d hd=>by
  obtain⟨r,hr,rfl⟩:=aDt hd
  rfl)
 obtain⟨y6,y9,y10,y11,y12,y13,y14,y15,e⟩:=aHf ns M S.length 0 none none none none none none none none (by omega)
 have ed:lN [mD S rk c] = .ok (.int (bY ((List.range S.length).filter fun r=>decide (cJ S rk c r=[])):Nat)):=by
  rw[show (List.range S.length).filter (fun r=>decide (cJ S rk c r=[]))=(List.range S.length).filter (fun r => !aA4 S c (aD4 S c rk true) r) from List.filter_congr fun r hr=>aU5 M (List.mem_range.mp hr)]
  exact cO rfl (gC (aR rfl (aKm M)))
 have es:lO [mD S rk c] = .ok (.int (bY ((List.range S.length).filter fun r=>decide ((cJ S rk c r).length=(dH S c r).length)):Nat)):=by
  rw[show (List.range S.length).filter (fun r=>decide ((cJ S rk c r).length=(dH S c r).length))=(List.range S.length).filter (fun r => !aA4 S c (aD4 S c rk false) r) from List.filter_congr fun r hr=>aU6 M (List.mem_range.mp hr)]
  exact cO rfl (gC (aR rfl (aKm M)))
 generalize bY ((List.range S.length).filter fun r=>decide (cJ S rk c r=[]))=de at e ed
 generalize bY ((List.range S.length).filter fun r=>decide ((cJ S rk c r).length=(dH S c r).length))=su at e es
 refine cO rfl (aW (st':=[some (.v (.lst (ns.map D.int))),none,none,none,none,none,none,some (.v (.lst (stD S))),some (.v (.lst (nats rk))),none,none,none,none,none,none,none,none,none]) ?_ ?_)
 ·show R.bind (iW [.lst (ns.map D.int),.int 0,.int 8]) _=_
  rw[em]
  rfl
 refine aW (st':=[some (.v (.lst (ns.map D.int))),some (.v (.int S.length)),none,none,none,none,none,some (.v (.lst (stD S))),some (.v (.lst (nats rk))),none,none,none,none,none,none,none,none,none]) (cG (by show R.ok (D.int (((stD S).length:Nat):Int))=_;rw[iT])) ?_
 refine aW (cG (aR (bR cp rfl) (aWl M))) ?_
 refine aW (cG (aR rfl (aQm M))) ?_
 refine aW (cG rfl) (aW (cG rfl) ?_)
 refine aW (st':=aBf ns S rk c de su y6 y9 y10 y11 y12 y13 y14 y15) (nF (aJv (n:=S.length) rfl (by omega)) ?_) ?_
 ·have:=e
  rw[show List.range' 0 S.length=List.range S.length from List.range_eq_range'.symm]at this
  exact this
 refine aW (rN (aJu (p:=false) (q:=false) (rO (p:=true) (aR (bR (aR rfl ed) rfl) (aHb _))) fun _=>rO (p:=true) (aR (bR (aR rfl es) rfl) (aHb _))) rfl) ?_
 refine gC (xH (p:=true) (q:=true) ((eqE (aR rfl ed) rfl).trans (by rw[decide_eq_true rfl])) fun _=>(eqE (aR rfl es) rfl).trans (by rw[decide_eq_true rfl]))
end Pu
namespace Pu
open PySem PySem.Spec PyProof.Rows L2
abbrev LSt:=L2.St
def mQ:Key->D
 | .inl i => .int i
 | .inr x => .str x.cps.toList
structure ExcCl(K:Frag)(C:Addr):Prop where
 ga:findIn K (.ref C) "__getattribute__" = some (some (.builtin "BaseException.__getattribute__"))
 gn:findIn K (.ref C) "__getattr__" = some none
 mb:mroIn K C (.type "BaseException")=some true
 cl:(clsIn K C).isSome=true
 fd:findIn K (.ref C) "__class__" = some (some (.builtin "object.__class__"))
 sp:specialIn K (.builtin "object.__class__") "__get__" = some (some (.builtin "getset_descriptor.__get__"))
 tk:takesIn K (.builtin "object.__class__")=some true
 mr:mroIn K C (.type "object")=some true
structure ExcAt(K:Frag)(c:String)(C:Addr)(bm:List Value):Prop where
 ns:nsIn K mainGlobals (Str.ofString c)=some (some (.ref C))
 ob:∃ (B newId initId:String) (bmB:List Value),ExcBaseFacts B newId initId bmB/\∀ h,K.In h->∃ N nm q bs hdct sn sub ab col dd k0 k1 k2 k3 k5 mN,
  h.get? C=some (excClassObj nm q C N bs bm hdct sn sub ab col dd k0 k1 k2 k3 k5 newId)/\h.Ns N mN/\mN "__init__" = none/\OwnTail h bmB bm
 ic:ExcCl K C
def bEk(a C:Addr)(h:Heap):Prop:=∃ o,h.get? a=some o/\o.cls = .ref C/\notCls o=true
structure ExcIs(K:Frag)(c:String)(C:Addr):Prop where
 ns:nsIn K mainGlobals (Str.ofString c)=some (some (.ref C))
 ic:ExcCl K C
def xOb(x C:Addr)(d:Option Addr)(h:Heap):Prop:=∃ o,h.get? x=some o/\o.cls = .ref C/\notCls o=true/\o.dict=d
def xFs(dx:Addr)(fs:List (Str × V))(h:Heap):Prop:=∃ mA,h.Ns1 dx mA/\(∀ f,tV (fs.lookup f) (mA f))/\PySem.Within mA (fs.map (·.1))
mutual
def Rep(K:Frag)(H:Hp):D->V->Prop
 | .non,v=>v=V.non
 | .bl b,v=>v=V.bl b
 | .int i,v=>v=V.int i
 | .str s,v=>v=V.str ⟨s.toArray⟩
 | .tup ds,v=>∃ a vs,v=V.ref a/\H a=some (.tup vs)/\bD K H ds vs
 | .lst ds,v=>∃ a vs,v=V.ref a/\SqL K H a vs/\bD K H ds vs
 | .dct t ks ds,v=>∃ a vs,v=V.ref a/\((t=false/\∃ kvs:List (Key × V),H a=some (.dK kvs)/\kvs.map (fun p=>mQ p.1)=ks/\vs=kvs.map (·.2))\/(t=true/\∃ kvs:List (List Key × V),H a=some (.dT kvs)/\kvs.map (fun p=>D.tup (p.1.map mQ))=ks/\vs=kvs.map (·.2)))/\bD K H ds vs
 | .ins c ns ds,v=>∃ a C dx fs vs,v=V.ref a/\H a=some (.ins C dx fs)/\nsIn K mainGlobals (Str.ofString c)=some (some (.ref C))/\fs.map (·.1)=ns.map Str.ofString/\vs=fs.map (·.2)/\bD K H ds vs
 | .exn c ns ds,v=>∃ a φ C,v=V.ref a/\H a=some (.ext φ)/\(∀ h,φ h->bEk a C h)/\ExcIs K c C/\∃ dx fs vs,((ns=[]/\vs=[])\/(φ=xOb a C (some dx)/\dx≠a/\H dx=some (.ext (xFs dx fs))/\fs.map (·.1)=ns.map Str.ofString/\vs=fs.map (·.2)))/\bD K H ds vs
 | .fn f,v=>∃ a,v=V.ref a/\nsIn K mainGlobals (Str.ofString f)=some (some (.ref a))
def bD(K:Frag)(H:Hp):List D->List V->Prop
 | [],vs=>vs=[]
 | d::ds,vs=>∃ v r,vs=v::r/\Rep K H d v/\bD K H ds r
end
theorem xQ{K:Frag}   {xs:List V} (e:bA H H') (h:SqT K H a xs):SqT K H' a xs:=by
 rcases h with (h | ⟨o,h⟩) | h
 ·exact .inl (.inl (e _ _ h))
 ·exact .inl (.inr ⟨o,e _ _ h⟩)
 ·exact .inr h
mutual
theorem Rep.mono{K:Frag}{H H':Hp}(s:bA H H'):∀ {d:D} {v:V},Rep K H d v->Rep K H' d v
 | .non,_,h=>by unfold Rep at h ⊢; exact h
 | .bl _,_,h=>by unfold Rep at h ⊢; exact h
 | .int _,_,h=>by unfold Rep at h ⊢; exact h
 | .str _,_,h=>by unfold Rep at h ⊢; exact h
 | .tup _,_,h=>by
  unfold Rep at h ⊢
  obtain⟨a,vs,e,q,r⟩:=h
  exact⟨a,vs,e,s _ _ q,bD.mono s r⟩
 | .lst _,_,h=>by
  unfold Rep at h ⊢
  obtain⟨a,vs,e,q,r⟩:=h
  exact⟨a,vs,e,s.seq q,bD.mono s r⟩
 | .dct _ _ _,_,h=>by
  unfold Rep at h ⊢
  obtain⟨a,vs,e,q,r⟩:=h
  refine⟨a,vs,e,?_,bD.mono s r⟩
  rcases q with ⟨q0,kvs,q1,q2⟩ | ⟨q0,kvs,q1,q2⟩
  ·exact .inl ⟨q0,kvs,s _ _ q1,q2⟩
  ·exact .inr ⟨q0,kvs,s _ _ q1,q2⟩
 | .ins _ _ _,_,h=>by
  unfold Rep at h ⊢
  obtain⟨a,C,dx,fs,vs,e,q1,q2,q3,q4,r⟩:=h
  exact⟨a,C,dx,fs,vs,e,s _ _ q1,q2,q3,q4,bD.mono s r⟩
 | .fn _,_,h=>by unfold Rep at h ⊢; exact h
 | .exn _ _ _,_,h=>by
  unfold Rep at h ⊢
  obtain⟨a,φ,C,e,q,hφ,hi,dx,fs,vs,h1,r⟩:=h
  refine⟨a,φ,C,e,s _ _ q,hφ,hi,dx,fs,vs,?_,bD.mono s r⟩
  rcases h1 with h1 | ⟨h1,h2,h3,h4⟩
  ·exact .inl h1
  ·exact .inr ⟨h1,h2,s _ _ h3,h4⟩
theorem bD.mono{K:Frag}{H H':Hp}(s:bA H H'):∀ {ds:List D} {vs:List V},bD K H ds vs->bD K H' ds vs
 | [],_,h=>by unfold bD at h ⊢; exact h
 | d::ds,_,h=>by
  unfold bD at h ⊢
  obtain⟨v,r,e,q,t⟩:=h
  exact⟨v,r,e,Rep.mono s q,bD.mono s t⟩
end
section
variable{K:Frag} 
theorem cC:Rep K H .non v ↔ v=V.non:=by unfold Rep;exact Iff.rfl
theorem bL:Rep K H (.bl b) v ↔ v=V.bl b:=by unfold Rep;exact Iff.rfl
theorem aU{i:Int}  : Rep K H (.int i) v ↔ v=V.int i:=by unfold Rep;exact Iff.rfl
theorem bI{s:List Nat}  : Rep K H (.str s) v ↔ v=V.str ⟨s.toArray⟩:=by unfold Rep;exact Iff.rfl
theorem sZ:Rep K H (.tup ds) v ↔ ∃ a vs,v=V.ref a/\H a=some (.tup vs)/\bD K H ds vs:=by conv=>lhs;unfold Rep
theorem bJ(h:Rep K H (.tup ds) v):∃ a vs,v=V.ref a/\SqT K H a vs/\bD K H ds vs :=
 let ⟨a,vs,e,q,r⟩:=sZ.mp h;⟨a,vs,e,SqT.of q,r⟩
theorem bU:Rep K H (.lst ds) v ↔ ∃ a vs,v=V.ref a/\SqL K H a vs/\bD K H ds vs:=by conv=>lhs;unfold Rep
theorem aBg{t:Bool}{ks:List D}  : Rep K H (.dct t ks ds) v ↔ ∃ a vs,v=V.ref a/\((t=false/\∃ kvs:List (Key × V),H a=some (.dK kvs)/\kvs.map (fun p=>mQ p.1)=ks/\vs=kvs.map (·.2))\/(t=true/\∃ kvs:List (List Key × V),H a=some (.dT kvs)/\kvs.map (fun p=>D.tup (p.1.map mQ))=ks/\vs=kvs.map (·.2)))/\bD K H ds vs:=by conv=>lhs;unfold Rep
theorem aOv{c:String}{ns:List String}   : Rep K H (.ins c ns ds) v ↔ ∃ a C dx fs vs,v=V.ref a/\H a=some (.ins C dx fs)/\nsIn K mainGlobals (Str.ofString c)=some (some (.ref C))/\fs.map (·.1)=ns.map Str.ofString/\vs=fs.map (·.2)/\bD K H ds vs:=by conv=>lhs;unfold Rep
theorem cY:bD K H [] vs ↔ vs=[]:=by unfold bD;exact Iff.rfl
theorem bT{d:D}   : bD K H (d::ds) vs ↔ ∃ v r,vs=v::r/\Rep K H d v/\bD K H ds r:=by conv=>lhs;unfold bD
theorem bD.nil:bD K H [] []:=cY.mpr rfl
theorem bD.cons{d:D}  {v:V}  (h:Rep K H d v) (t:bD K H ds vs):bD K H (d::ds) (v::vs):=bT.mpr ⟨v,vs,rfl,h,t⟩
theorem bD.length:∀ {ds:List D} {vs:List V},bD K H ds vs->vs.length=ds.length
 | [],_,h=>by rw[cY.mp h];rfl
 | _::ds,_,h=>by
  obtain⟨v,r,rfl,_,t⟩:=bT.mp h
  rw[length_cons,length_cons,bD.length t]
theorem bD.get:∀ {ds:List D} {vs:List V} {i:Nat} {d:D},bD K H ds vs->ds[i]?=some d->∃ v,vs[i]?=some v/\Rep K H d v
 | [],_,_,_,_,e=>by simp at e
 | _::ds,_,0,d,h,e=>by
  obtain⟨v,r,rfl,q,t⟩:=bT.mp h
  simp at e;subst e
  exact⟨v,rfl,q⟩
 | _::ds,_,i+1,d,h,e=>by
  obtain⟨v,r,rfl,q,t⟩:=bT.mp h
  obtain⟨u,e1,e2⟩:=bD.get (i:=i) t (by simpa using e)
  exact⟨u,by simpa using e1,e2⟩
theorem bD.append:∀ {ds es:List D} {vs us:List V},bD K H ds vs->bD K H es us->bD K H (ds++es) (vs++us)
 | [],_,_,_,h,t=>by rw[cY.mp h];exact t
 | _::_,_,_,_,h,t=>by
  obtain⟨v,r,rfl,q,w⟩:=bT.mp h
  exact .cons q (bD.append w t)
theorem bD.set{d:D}{v:V}(hd:Rep K H d v):∀ {ds:List D} {vs:List V} (i:Nat),bD K H ds vs->bD K H (ds.set i d) (vs.set i v)
 | [],_,_,h=>by rw[cY.mp h];exact .nil
 | _::_,_,0,h=>by
  obtain⟨v,r,rfl,q,w⟩:=bT.mp h
  exact .cons hd w
 | _::_,_,i+1,h=>by
  obtain⟨v,r,rfl,q,w⟩:=bT.mp h
  exact .cons q (bD.set hd i w)
theorem bD.take:∀ {ds:List D} {vs:List V} (n:Nat),bD K H ds vs->bD K H (ds.take n) (vs.take n)
 | _,_,0,_ => .nil
 | [],_,_+1,h=>by rw[cY.mp h];exact .nil
 | _::_,_,n+1,h=>by
  obtain⟨v,r,rfl,q,w⟩:=bT.mp h
  exact .cons q (bD.take n w)
theorem bD.drop:∀ {ds:List D} {vs:List V} (n:Nat),bD K H ds vs->bD K H (ds.drop n) (vs.drop n)
 | _,_,0,h=>h
 | [],_,_+1,h=>by rw[cY.mp h];exact .nil
 | _::_,_,n+1,h=>by
  obtain⟨v,r,rfl,q,w⟩:=bT.mp h
  exact bD.drop n w
end
def hide(A:List Addr)(H:Hp):Hp:=fun b=>if b∈A then none else H b
theorem eN{b:Addr}(h:b∈A):hide A H b=none:=if_pos h
theorem bV{b:Addr}(h:b ∉ A):hide A H b=H b:=if_neg h
theorem bH(A:List Addr)(H:Hp):bA (hide A H) H:=fun b o h=>by
 unfold hide at h
 split at h
 ·cases h
 ·exact h
theorem bA.hide{A:List Addr}{H H':Hp}(s:bA H H'):bA (hide A H) (hide A H'):=fun b o h=>by
 unfold Pu.hide at h ⊢
 split at h
 ·cases h
 ·rename_i q
  rw[if_neg q]
  exact s b o h
theorem iM{A':List Addr}  (h:∀ a∈A',a∈A):bA (hide A H) (hide A' H):=fun b o q=>by
 by_cases hb:b∈A
 ·rw[eN hb]at q;cases q
 ·rw[bV hb]at q
  rw[bV fun z=>hb (h b z)]
  exact q
theorem pW(H:Hp):hide [] H=H:=by
 funext b
 exact bV (by simp)
theorem aBh(h:a∈A):hide A (upd H a o)=hide A H:=by
 funext b
 by_cases hb:b∈A
 ·rw[eN hb,eN hb]
 ·rw[bV hb,bV hb]
  exact bQ fun z=>hb (z ▸ h)
theorem cZ{p:Addr}  (h:H p=none):bA H (upd H p o):=fun b u q=>by
 rw[bQ (bC q h)];exact q
def Own(A:List Addr)(H:Hp):Prop:=∀ a∈A,(H a).isSome=true
theorem Own.mono(h:Own A H)(s:bA H H'):Own A H':=fun a ha=>by
 obtain⟨o,e⟩:=Option.isSome_iff_exists.mp (h a ha)
 rw[s a o e];rfl
theorem Own.free(h:Own A H){p:Addr}(e:H p=none):p ∉ A:=fun z=>by
 have q:=h p z
 rw[e]at q;cases q
theorem jC{K:Frag}   {p:Addr}   (w:Own A H) (e:H p=none) (h:bD K (hide A H) ds vs):Rep K (hide A (upd H p (.lst vs))) (.lst ds) (.ref p) :=
 bU.mpr ⟨p,vs,rfl,SqL.of (by rw[bV (w.free e)];exact cH),h.mono (bA.hide (cZ e))⟩
theorem aD5{K:Frag}   {p:Addr}   (w:Own A H) (e:H p=none) (h:bD K (hide A H) ds vs):Rep K (hide A (upd H p (.tup vs))) (.tup ds) (.ref p) :=
 sZ.mpr ⟨p,vs,rfl,(by rw[bV (w.free e)];exact cH),h.mono (bA.hide (cZ e))⟩
def KOk(K:Frag):OK->Addr->HO->List V->Prop
 | .l,_,o,vs=>o = .lst vs
 | .d t ks,_,o,vs=>(t=false/\∃ kvs:List (Key × V),o = .dK kvs/\kvs.map (fun p=>mQ p.1)=ks/\vs=kvs.map (·.2))\/(t=true/\∃ kvs:List (List Key × V),o = .dT kvs/\kvs.map (fun p=>D.tup (p.1.map mQ))=ks/\vs=kvs.map (·.2))
 | .i n c ns,a,o,vs=>a=n/\∃ C dx fs,o = .ins C dx fs/\nsIn K mainGlobals (Str.ofString c)=some (some (.ref C))/\fs.map (·.1)=ns.map Str.ofString/\vs=fs.map (·.2)
theorem KOk.rep{K:Frag}  {k:OK}     (ko:KOk K k a o vs) (h:H a=some o) (r:bD K H ds vs):Rep K H (ofK k ds) (.ref a):=by
 cases k with
 | l=>have e:o = .lst vs:=ko;subst e;exact bU.mpr ⟨a,vs,rfl,SqL.of h,r⟩
 | d t ks =>
  refine aBg.mpr ⟨a,vs,rfl,?_,r⟩
  rcases ko with ⟨q0,kvs,rfl,q⟩ | ⟨q0,kvs,rfl,q⟩
  ·exact .inl ⟨q0,kvs,h,q⟩
  ·exact .inr ⟨q0,kvs,h,q⟩
 | i n c ns =>
  obtain⟨_,C,dx,fs,rfl,q1,q2,q3⟩:=ko
  exact aOv.mpr ⟨a,C,dx,fs,vs,rfl,h,q1,q2,q3,r⟩
structure RS(K:Frag)(B A:List Addr)(H:Hp)(st:PSt)(σ:LSt):Prop where
 len:st.length=σ.length
 own:Own (A++B) H
 dis:∀ a∈A,a ∉ B
 val:∀ (i:Nat) d,st[i]?=some (some (.v d))->∃ v,σ[i]?=some (some v)/\Rep K (hide (A++B) H) d v
 lst:∀ (i:Nat) k xs,st[i]?=some (some (.o k xs))->∃ a o vs,σ[i]?=some (some (.ref a))/\a∈A/\H a=some o/\KOk K k a o vs/\bD K (hide (A++B) H) xs vs /\
  ∀ (j:Nat) k' ys,st[j]?=some (some (.o k' ys))->σ[j]?=some (some (.ref a))->j=i
theorem RS.mono{K:Frag}{B A:List Addr}{H H':Hp}{st:PSt}{σ:LSt}(r:RS K B A H st σ)(s:bA H H'):RS K B A H' st σ where
 len:=r.len
 own:=r.own.mono s
 dis:=r.dis
 val:=fun i d e=>let ⟨v,e1,q⟩:=r.val i d e;⟨v,e1,q.mono (bA.hide s)⟩
 lst:=fun i k xs e=>let ⟨a,o,vs,e1,m,h,ko,q,u⟩:=r.lst i k xs e;⟨a,o,vs,e1,m,s _ _ h,ko,q.mono (bA.hide s),u⟩
def Le(A:List Addr)(H:Hp)(A':List Addr)(H':Hp):Prop:=bA (hide A H) (hide A' H')
theorem Le.refl{A:List Addr}{H:Hp}:Le A H A H:=bA.refl _
theorem Le.of(s:bA H H'):Le A H A H':=bA.hide s
theorem Le.trans{A A1 A2:List Addr}{H H1 H2:Hp}(a:Le A H A1 H1)(b:Le A1 H1 A2 H2):Le A H A2 H2:=bA.trans a b
def tI(K:Frag)(B:List Addr)(f:Ex):TE:=fun σ H Q=>∃ A st d,RS K B A H st σ/\f st = .ok d/\∀ v H',bA H H'->Rep K (hide (A++B) H') d v->Q v H'
def mR(K:Frag)(A:List Addr)(H:Hp)(d:D)(v:V):Prop :=
 Rep K (hide A H) d v\/∃ a k o ds vs,d=ofK k ds/\v=V.ref a/\H a=some o/\KOk K k a o vs/\bD K (hide A H) ds vs
theorem mR.mono{K:Frag}{A:List Addr}{H H':Hp}{d:D}{v:V}(s:bA H H')(h:mR K A H d v):mR K A H' d v:=by
 rcases h with h | ⟨a,k,o,ds,vs,e1,e2,e3,ko,q⟩
 ·exact .inl (h.mono (bA.hide s))
 ·exact .inr ⟨a,k,o,ds,vs,e1,e2,s _ _ e3,ko,q.mono (bA.hide s)⟩
def tP(K:Frag)(B:List Addr)(f:Ex):TE:=fun σ H Q=>∃ A st d,RS K B A H st σ/\f st = .ok d/\∀ v H',bA H H'->mR K (A++B) H' d v->Q v H'
def tA(K:Frag)(B:List Addr)(f:Exs):TA:=fun σ H Q=>∃ A st ds,RS K B A H st σ/\f st = .ok ds/\∀ vs H',bA H H'->bD K (hide (A++B) H') ds vs->Q vs H'
def tT(K:Frag)(B:List Addr)(f:Ex):TT:=fun σ H Q=>∃ A st b,RS K B A H st σ/\f st = .ok (.bl b)/\∀ H',bA H H'->Q b H'
def tO(K:Frag)(B:List Addr)(f:ExO):TO:=fun σ H Q=>∃ A st o,RS K B A H st σ/\f st = .ok o/\∀ H',bA H H'->Q o H'
def aQy(K:Frag)(B A:List Addr)(H:Hp)(r:Fl)(Dn:Ends):Prop:=match r with
 | .nx st'=>∀ A' σ' H',Le A H A' H'->RS K B A' H' st' σ'->Dn.nx σ' H'
 | .bk st'=>∀ A' σ' H',Le A H A' H'->RS K B A' H' st' σ'->Dn.bk σ' H'
 | .ct st'=>∀ A' σ' H',Le A H A' H'->RS K B A' H' st' σ'->Dn.ct σ' H'
 | .rt d=>∀ A' v H',Le A H A' H'->Rep K (hide (A'++B) H') d v->Dn.rt v H'
theorem aQy.mono{K:Frag}{A1:List Addr}  {r:Fl}  (l:Le A H A1 H1) (p:aQy K B A H r Dn):aQy K B A1 H1 r Dn:=by
 cases r with
 | nx st=>exact fun A' σ' H' l'=>p A' σ' H' (l.trans l')
 | bk st=>exact fun A' σ' H' l'=>p A' σ' H' (l.trans l')
 | ct st=>exact fun A' σ' H' l'=>p A' σ' H' (l.trans l')
 | rt d=>exact fun A' v H' l'=>p A' v H' (l.trans l')
def tS(K:Frag)(B:List Addr)(b:Bd):TS:=fun Dn σ H=>∃ A st r,RS K B A H st σ/\b st = .ok r/\aQy K B A H r Dn
def aQz(K:Frag)(B A:List Addr)(H:Hp)(J:It)(ds:List D):Prop:=∀ A' H',Le A H A' H'->Own (A'++B) H'->∀ (i:Nat),
 (∀ d,ds[i]?=some d->J.go i H'/\∀ x H3,J.yld i H' x H3->bA H' H3/\Rep K (hide (A'++B) H3) d x)/\(ds.length<=i->J.stop i H')
def tIt(K:Frag)(B:List Addr)(f:ItE):TI:=fun σ H R=>∃ A st ds,RS K B A H st σ/\f st = .ok ds/\∀ J H',bA H H'->aQz K B A H' J ds->R J H'
def tG(K:Frag)(B:List Addr)(g:Tg):TG:=fun v σ H Q=>∃ A st d s1,RS K B A H st σ/\Rep K (hide (A++B) H) d v/\g d st = .ok s1/\∀ σ',RS K B A H s1 σ'->Q σ' H
section
theorem cQ{t t':TE}(h:PE X e t)(m:∀ σ H Q,t' σ H Q->t σ H Q):PE X e t':=fun pins s σ H Q I q=>h pins s σ H Q I (m σ H Q q)
theorem aMq{t t':TT}(h:PT X e t)(m:∀ σ H Q,t' σ H Q->t σ H Q):PT X e t':=fun pins s σ H Q I q=>h pins s σ H Q I (m σ H Q q)
theorem aU9{t t':TT}(h:PW X e t)(m:∀ σ H Q,t' σ H Q->t σ H Q):PW X e t':=fun w pins s σ H Q I q=>h w pins s σ H Q I (m σ H Q q)
theorem aUa{t t':TA}(h:PA X es t)(m:∀ σ H Q,t' σ H Q->t σ H Q):PA X es t':=fun pos pins s σ H Q I q=>h pos pins s σ H Q I (m σ H Q q)
theorem aUb{e:Option Expr}{t t':TO}(h:PO X e t)(m:∀ σ H Q,t' σ H Q->t σ H Q):PO X e t':=fun pins s σ H Q I q=>h pins s σ H Q I (m σ H Q q)
theorem gD{st:Stmt}{t t':TS}(h:PS X st t)(m:∀ D σ H,t' D σ H->t D σ H):PS X st t':=fun pins s σ H D I q=>h pins s σ H D I (m D σ H q)
theorem qP{st:List Stmt}{t t':TS}(h:PSs X st t)(m:∀ D σ H,t' D σ H->t D σ H):PSs X st t':=fun pins s σ H D I q=>h pins s σ H D I (m D σ H q)
theorem aUc{t t':TG}(h:PG X e t)(m:∀ v σ H Q,t' v σ H Q->t v σ H Q):PG X e t':=fun pins s σ H v u Q I r q=>h pins s σ H v u Q I r (m v σ H Q q)
theorem aMr{t t':TI}(h:L2.PI X tg e t)(m:∀ σ H R,t' σ H R->t σ H R):L2.PI X tg e t':=fun pins s σ H R I q=>h pins s σ H R I (m σ H R q)
end
section
variable   {a b:Expr} {h:Ex} 
theorem aA(i:Nat)  (hN:X.N[i]?=some x:=by rfl) (hv:Vis X.env.scope x:=by first | exact Or.inl rfl | exact Or.inr (Or.inl rfl) | exact Or.inr (Or.inr rfl)) (hd:(x==("__debug__" : Str))=false:=by decide)
  (hcd:(x==("__classdict__" : Str))=false:=by decide):PE X (.Name x pos) (tI X.K B (aB i)):=by
 refine cQ (tW hN hv hd hcd) ?_
 rintro σ H Q ⟨A,st,d,rs,hd,q⟩
 unfold aB at hd
 split at hd
 ·rename_i d' e
  cases hd
  obtain⟨v,e1,r⟩:=rs.val i _ e
  exact⟨v,e1,q v H (bA.refl _) r⟩
 ·cases hd
end
end Pu
variable{σ τ:Pu.LSt}
namespace Pu
open PySem PySem.Spec PyProof.Rows L2
section
variable{X:Cx}{B:List Addr}{a b e:Expr}{f g:Ex}{pos:Pos}
theorem i_c(h:PE X e (tC v))(r:∀ H,Rep X.K H d v):PE X e (tI X.K B (eC d)):=cQ h (by
 rintro σ H Q ⟨A,st,d',rs,hd,q⟩
 cases hd
 exact q v H (bA.refl _) (r _))
theorem aO{i:Int}  : PE X (.Constant (.int i) j pos) (tI X.K B (eC (.int i))):=i_c aZ8 fun _=>aU.mpr rfl
theorem aIo{q:Bool}  : PE X (.Constant (.bool q) j pos) (tI X.K B (eC (.bl q))):=i_c bCn fun _=>bL.mpr rfl
theorem bEl:PE X (.Constant .none j pos) (tI X.K B (eC .non)):=i_c aZ9 fun _=>cC.mpr rfl
theorem aBi(s:List Nat)(hx:x=⟨s.toArray⟩:=by first | rfl | decide | decide +kernel):PE X (.Constant (.str x) j pos) (tI X.K B (eC (.str s))):=i_c aZa fun _=>bI.mpr (by rw[hx])
theorem aIp{y:Str}{t:Tok}(s:List Nat)(hm:X.mg x=some (.str y t))(hg:Gl X x:=by rfl)(hy:y=⟨s.toArray⟩:=by first | rfl | decide | decide +kernel)(hd:(x==("__debug__" : Str))=false:=by decide):PE X (.Name x pos) (tI X.K B (eC (.str s))) :=
 i_c (aNg (v := .str y) hg hm ⟨t,rfl⟩ hd) fun _=>bI.mpr (by rw[hy])
theorem aUd{i:Int}{t:Tok}(hm:X.mg x=some (.int i t))(hg:Gl X x:=by rfl)(hd:(x==("__debug__" : Str))=false:=by decide):PE X (.Name x pos) (tI X.K B (eC (.int i))) :=
 i_c (aNg (v := .int i) hg hm ⟨t,rfl⟩ hd) fun _=>aU.mpr rfl
theorem toP(h:PE X e (tI X.K B f)):PE X e (tP X.K B f):=cQ h (by
 rintro σ H Q ⟨A,st,d,rs,hd,q⟩
 exact⟨A,st,d,rs,hd,fun v H' s r=>q v H' s (.inl r)⟩)
theorem gH(i:Nat)  (hN:X.N[i]?=some x:=by rfl) (hv:Vis X.env.scope x:=by first | exact Or.inl rfl | exact Or.inr (Or.inl rfl) | exact Or.inr (Or.inr rfl)) (hd:(x==("__debug__" : Str))=false:=by decide)
  (hcd:(x==("__classdict__" : Str))=false:=by decide):PE X (.Name x pos) (tP X.K B (dR i)):=by
 refine cQ (tW hN hv hd hcd) ?_
 rintro σ H Q ⟨A,st,d,rs,hd,q⟩
 unfold dR at hd
 split at hd
 ·rename_i d' e
  cases hd
  obtain⟨v,e1,r⟩:=rs.val i _ e
  exact⟨v,e1,q v H (bA.refl _) (.inl r)⟩
 ·rename_i k xs e
  cases hd
  obtain⟨a,o,vs,e1,m,h,ko,r,_⟩:=rs.lst i _ _ e
  exact⟨_,e1,q _ H (bA.refl _) (.inr ⟨a,_,o,xs,vs,rfl,rfl,h,ko,r⟩)⟩
 ·cases hd
section
variable{K:Frag}   
theorem mR.int{i:Int}(h:mR K A H (.int i) v):v=V.int i:=by
 rcases h with h | ⟨_,k,_,_,_,e,_⟩
 ·exact aU.mp h
 ·cases k<;>cases e
theorem mR.str{s:List Nat}(h:mR K A H (.str s) v):v=V.str ⟨s.toArray⟩:=by
 rcases h with h | ⟨_,k,_,_,_,e,_⟩
 ·exact bI.mp h
 ·cases k<;>cases e
theorem mR.tup{ds:List D}(h:mR K A H (.tup ds) v):∃ a vs,v=V.ref a/\SqT K H a vs/\bD K (hide A H) ds vs:=by
 rcases h with h | ⟨_,k,_,_,_,e,_⟩
 ·obtain⟨a,vs,e,q,r⟩:=bJ h
  exact⟨a,vs,e,xQ (bH _ _) q,r⟩
 ·cases k<;>cases e
theorem mR.lst{ds:List D}(h:mR K A H (.lst ds) v):∃ a vs,v=V.ref a/\SqL K H a vs/\bD K (hide A H) ds vs:=by
 rcases h with h | ⟨a,k,o,ds',vs,e,e2,h,ko,r⟩
 ·obtain⟨a,vs,e,q,r⟩:=bU.mp h
  exact⟨a,vs,e,(bH _ _).seq q,r⟩
 ·cases k<;>cases e
  have e3:o = .lst vs:=ko
  subst e3
  exact⟨a,vs,e2,SqL.of h,r⟩
end
def aA6(K:Frag)(r:R2)(o:Op2):Prop:=∀ (A:List Addr) (H:Hp) (x y d:D) (v u:V) (Q:VK),Own A H->mR K A H x v->mR K A H y u->o x y = .ok d ->
 (∀ w H',bA H H'->Rep K (hide A H') d w->Q w H')->r v u H Q
theorem aIq{r:R2}{o:Op2}(sem:aA6 X.K r o)   {Q:VK} (h:tI X.K B (e2 o f g) σ H Q):tOp r (tP X.K B f) (tP X.K B g) σ H Q:=by
 obtain⟨A,st,d,rs,hd,q⟩:=h
 obtain⟨x,hx,h2⟩:=R.ok_of hd
 obtain⟨y,hy,h3⟩:=R.ok_of h2
 refine⟨A,st,x,rs,hx,fun v H1 s1 r1=>⟨A,st,y,rs.mono s1,hy,fun u H2 s2 r2=>?_⟩⟩
 exact sem (A++B) H2 x y d v u Q (rs.own.mono (s1.trans s2)) (r1.mono s2) r2 h3 fun w H' s' r'=>q w H' (s1.trans (s2.trans s')) r'
theorem aFe{op:Operator}{r:R2}{o:Op2}(ho:OpR X (binaryOp op) r)(sem:aA6 X.K r o)(ha:PE X a (tP X.K B f))(hb:PE X b (tP X.K B g)):PE X (.BinOp a op b pos) (tI X.K B (e2 o f g)) :=
 cQ (bCy ho ha hb) fun _ _ _ h=>aIq sem h
theorem gK{r:R2}{o:Op2}(ho:OpR X (compareOp op) r)(sem:aA6 X.K r o)(ha:PE X a (tP X.K B f))(hb:PE X b (tP X.K B g))(hm:behindInMarks op b=false):PE X (.Compare a [op] [b] pos) (tI X.K B (e2 o f g)) :=
 cQ (aVx ho ha hb hm) fun _ _ _ h=>aIq sem h
theorem bEm{f:Ex}   {Q:Bool->Hp->Prop} (h:tT X.K B f σ H Q):tI X.K B f σ H fun x H'=>∃ k,x = .bl k/\Q k H':=by
 obtain⟨A,st,k,rs,hk,q⟩:=h
 exact⟨A,st,.bl k,rs,hk,fun v H' s r=>⟨k,bL.mp r,q H' s⟩⟩
theorem dD{r:R2}{o:Op2}(ho:OpR X (compareOp op) r)(sem:aA6 X.K r o)(ha:PE X a (tP X.K B f))(hb:PE X b (tP X.K B g))(hm:behindInMarks op b=false):PT X (.Compare a [op] [b] pos) (tT X.K B (e2 o f g)) :=
 aMq (aVy ho ha hb hm) fun _ _ _ h=>aIq sem (bEm h)
theorem iC{f:Ex}(h:PE X e (tI X.K B f))(he:∀ whole,isTrue e X.env whole=(do let v <- whole;standAt e.pos;holding [v] (truthy v)):=by intro _;rfl):PT X e (tT X.K B f) :=
 aMq (aZb h he) fun _ _ _ q=>bEm q
theorem qQ{K:Frag}{g:Int->Int->D}  {o:Op2} (hr:∀ H i j,Rep K H (g i j) (gv i j)) (ho:∀ x y d,o x y = .ok d->∃ i j,x = .int i/\y = .int j/\d=g i j):aA6 K (rI0 gv) o:=by
 intro A H x y d v u Q w rx ry e q
 obtain⟨i,j,rfl,rfl,rfl⟩:=ho x y d e
 exact⟨i,j,rx.int,ry.int,q _ H (bA.refl _) (hr _ _ _)⟩
theorem aFf{K:Frag}{C:Int->Int->Prop}{g:Int->Int->D}  {o:Op2} (hr:∀ H i j,Rep K H (g i j) (gv i j)) (ho:∀ x y d,o x y = .ok d->∃ i j,x = .int i/\y = .int j/\C i j/\d=g i j):aA6 K (rI C gv) o:=by
 intro A H x y d v u Q w rx ry e q
 obtain⟨i,j,rfl,rfl,c,rfl⟩:=ho x y d e
 exact⟨i,j,rx.int,ry.int,c,q _ H (bA.refl _) (hr _ _ _)⟩
theorem aUe(ha:PE X a (tP X.K B f))(hb:PE X b (tP X.K B g)):PE X (.BinOp a .Sub b pos) (tI X.K B (e2 aI6 f g)) :=
 aFe aZo (qQ (g:=fun i j => .int (i-j)) (fun _ _ _=>aU.mpr rfl) fun x y d e=>by
  unfold aI6 at e
  split at e
  ·cases e;exact⟨_,_,rfl,rfl,rfl⟩
  ·cases e) ha hb
theorem aMs(ha:PE X a (tP X.K B f))(hb:PE X b (tP X.K B g)):PE X (.BinOp a .FloorDiv b pos) (tI X.K B (e2 aCu f g)) :=
 aFe aVw (aFf (g:=fun i j => .int (i/j)) (fun _ _ _=>aU.mpr rfl) fun x y d e=>by
  unfold aCu at e
  split at e
  ·obtain⟨c,e⟩:=aK e;cases e;exact⟨_,_,rfl,rfl,c,rfl⟩
  ·cases e) ha hb
theorem qR(ha:PE X a (tP X.K B f))(hb:PE X b (tP X.K B g)):PE X (.BinOp a .Mod b pos) (tI X.K B (e2 rA f g)) :=
 aFe aZq (aFf (g:=fun i j => .int (i%j)) (fun _ _ _=>aU.mpr rfl) fun x y d e=>by
  unfold rA at e
  split at e
  ·obtain⟨c,e⟩:=aK e;cases e;exact⟨_,_,rfl,rfl,c,rfl⟩
  ·cases e) ha hb
theorem bEn(ha:PE X a (tP X.K B f))(hb:PE X b (tP X.K B g)):PE X (.BinOp a .Pow b pos) (tI X.K B (e2 aSl f g)) :=
 aFe aZr (aFf (g:=fun i j => .int (i^j.toNat)) (fun _ _ _=>aU.mpr rfl) fun x y d e=>by
  unfold aSl at e
  split at e
  ·obtain⟨c,e⟩:=aK e;cases e;exact⟨_,_,rfl,rfl,c,rfl⟩
  ·cases e) ha hb
def bEo(K:Frag):R2:=fun x y H Q=>∃ l b xs zs,x = .ref l/\y = .ref b/\SqL K H l xs/\SqL K H b zs/\xs.length+zs.length<=sizeLine/\∀ p,H p=none->Q (.ref p) (upd H p (.lst (xs++zs)))
theorem aXg:OpR X (binaryOp .Add) (bEo X.K):=by
 intro pins s σ H x y v u Q I rx ry h
 obtain⟨l,b,xs,zs,rfl,rfl,hH,hB,hz,q⟩:=h
 cases rx
 cases ry
 obtain⟨its,r,⟨⟨cls,dd,data,sl⟩,n,ho,hc,_,hd⟩,z⟩:=I.list hH
 obtain⟨its2,r2,⟨⟨cls2,dd2,data2,sl2⟩,n2,ho2,hc2,_,hd2⟩,z2⟩:=I.list hB
 simp only at hc hd hc2 hd2
 subst hc hd hc2 hd2
 have l1:=r.length
 have l2:=r2.length
 refine concat_meets ⟨_,ho,rfl⟩ ⟨_,ho2,rfl⟩ noFill_list_add seq_list_add PySem.F.slot_list_add PySem.F.entry_list_add (PySem.F.args_list_add_2 _ _) (list_addW l b its.toArray its2.toArray n n2 dd dd2 sl sl2 (by simp only[List.size_toArray];omega)) ⟨ho,ho2,?_⟩
 have ea:its.toArray++its2.toArray=(its++its2).toArray:=by simp
 rw[ea]
 exact⟨.ref _,_,I.lnew (t':=s.toks) (r.append r2) (by rw[length_append];omega),rfl,q _ I.fresh⟩
theorem aXh(x y:List Nat):(⟨x.toArray⟩:Str)++(⟨y.toArray⟩:Str)=⟨(x++y).toArray⟩:=by
 show Str.append _ _=_
 unfold Str.append
 simp
theorem str_len(x:List Nat):(⟨x.toArray⟩:Str).length=x.length:=by simp[Str.length]
theorem lim(h:n<=big):n<=sizeLine:=Nat.le_trans (by rw[oK]at h;exact h:n<=10000000) (by decide)
theorem lV(ha:PE X a (tP X.K B f))(hb:PE X b (tP X.K B g)):PE X (.BinOp a .Add b pos) (tI X.K B (e2 mV f g)):=by
 refine aFe (aZn.or (aLu.or aXg)) ?_ ha hb
 intro A H x y d v u Q w rx ry e q
 cases x<;>cases y<;>first | (cases e;done) | skip
 ·cases e
  exact .inl ⟨_,_,rx.int,ry.int,q _ H (bA.refl _) (aU.mpr rfl)⟩
 ·obtain⟨c,e⟩:=aK e
  cases e
  exact .inr (.inl ⟨_,_,rx.str,ry.str,by rw[str_len,str_len];exact lim c,q _ H (bA.refl _) (bI.mpr (by rw[aXh]))⟩)
 ·obtain⟨c,e⟩:=aK e
  cases e
  obtain⟨l,xs,e1,h1,r1⟩:=rx.lst
  obtain⟨m,ys,e2,h2,r2⟩:=ry.lst
  have l1:=r1.length
  have l2:=r2.length
  refine .inr (.inr ⟨l,m,xs,ys,e1,e2,h1,h2,by rw[l1,l2];exact lim c,fun p hp=>q _ _ (cZ hp) ?_⟩)
  exact jC w hp (r1.append r2)
theorem aUf{K:Frag}:aA6 K (rI0 fun i j => .bl (decide (i<=j))) dLe:=qQ (g:=fun i j => .bl (decide (i<=j))) (fun _ _ _=>bL.mpr rfl) fun x y d e=>by
 unfold dLe at e
 split at e
 ·cases e;exact⟨_,_,rfl,rfl,rfl⟩
 ·cases e
theorem aMt{K:Frag}:aA6 K (rI0 fun i j => .bl (decide (j<i))) dGt:=qQ (g:=fun i j => .bl (decide (j<i))) (fun _ _ _=>bL.mpr rfl) fun x y d e=>by
 unfold dGt at e
 split at e
 ·cases e;exact⟨_,_,rfl,rfl,rfl⟩
 ·cases e
theorem aMu{K:Frag}:aA6 K (rI0 fun i j => .bl (decide (j<=i))) dGe:=qQ (g:=fun i j => .bl (decide (j<=i))) (fun _ _ _=>bL.mpr rfl) fun x y d e=>by
 unfold dGe at e
 split at e
 ·cases e;exact⟨_,_,rfl,rfl,rfl⟩
 ·cases e
theorem aKn(n:Nat)(i:Int):L2.ixN n i=Pu.ixN n i:=rfl
theorem bD.atI{K:Frag}{H:Hp}{ds:List D}{vs:List V}{i:Int}{d:D}(r:bD K H ds vs)(e:Pu.atI ds i=some d):∃ v,L2.atI vs i=some v/\Rep K H d v:=by
 unfold Pu.atI at e
 unfold L2.atI
 rw[r.length,aKn]
 cases h:Pu.ixN ds.length i with
 | none=>rw[h]at e;cases e
 | some j =>
  rw[h]at e
  exact r.get e
theorem xR{o:Option α}{a:α}(h:ofO o = .ok a):o=some a:=by
 cases o with
 | none=>cases h
 | some b=>cases h;rfl
theorem bB9{K:Frag}{x:D}(hd:bDf x=false)(A:List Addr)(H:Hp)(x' y d:D)(v u:V)(Q:VK)(w:Own A H)(rx:mR K A H x v)(ry:mR K A H y u)(e:dIx x y = .ok d)(q:∀ w H',bA H H'->Rep K (hide A H') d w->Q w H'):rIx K v u H Q:=by
 cases x<;>first | (cases hd;done) | skip
 all_goals cases y
 all_goals first | (cases e;done) | skip
 ·rename_i s i
  obtain⟨hz,e⟩:=aK e
  have e:=xR e
  cases h:Pu.atI s i with
  | none=>rw[h]at e;cases e
  | some c =>
   rw[h]at e
   cases e
   refine .inr (.inr ⟨_,i,c,rx.str,ry.int,by rw[str_len];exact lim hz,?_,q _ H (bA.refl _) (bI.mpr rfl)⟩)
   show L2.atI s.toArray.toList i=some c
   rw[List.toList_toArray]
   exact h
 ·rename_i ds i
  have h:=xR (show ofO (Pu.atI ds i) = .ok d from e)
  obtain⟨l,xs,e1,h1,r1⟩:=rx.tup
  obtain⟨z,h2,r2⟩:=r1.atI h
  exact .inr (.inl ⟨l,xs,i,z,e1,ry.int,h1,h2,q _ H (bA.refl _) r2⟩)
 ·rename_i ds i
  have h:=xR (show ofO (Pu.atI ds i) = .ok d from e)
  obtain⟨l,xs,e1,h1,r1⟩:=rx.lst
  obtain⟨z,h2,r2⟩:=r1.atI h
  exact .inl ⟨l,xs,i,z,e1,ry.int,h1,h2,q _ H (bA.refl _) r2⟩
theorem rQ(h:PE X a (tI X.K B f)):PE X (.BoolOp .And [a] pos) (tI X.K B f):=aRy h
theorem aZ2(h:PE X a (tI X.K B f)):PE X (.BoolOp .Or [a] pos) (tI X.K B f):=aRy h
theorem tD{rest:List Expr}(ha:PE X a (tI X.K B f))(hb:PE X (.BoolOp .And (b::rest) pos) (tI X.K B g)):PE X (.BoolOp .And (a::b::rest) pos) (tI X.K B (pJ f g)):=by
 refine cQ (aZf ha hb) ?_
 rintro σ H Q ⟨A,st,d,rs,hd,q⟩
 obtain⟨x,hx,h2⟩:=R.ok_of hd
 obtain⟨k,rfl,h3⟩:=tZ h2
 refine⟨A,st,_,rs,hx,fun v H1 s1 r1=>⟨k,bL.mp r1,?_⟩⟩
 cases k with
 | true=>exact⟨A,st,d,rs.mono s1,h3,fun w H' s' r'=>q w H' (s1.trans s') r'⟩
 | false=>cases h3;exact q _ H1 s1 (bL.mpr rfl)
theorem bEp{rest:List Expr}(ha:PE X a (tI X.K B f))(hb:PE X (.BoolOp .Or (b::rest) pos) (tI X.K B g)):PE X (.BoolOp .Or (a::b::rest) pos) (tI X.K B (eOr f g)):=by
 refine cQ (bCr ha hb) ?_
 rintro σ H Q ⟨A,st,d,rs,hd,q⟩
 obtain⟨x,hx,h2⟩:=R.ok_of hd
 obtain⟨k,rfl,h3⟩:=tZ h2
 refine⟨A,st,_,rs,hx,fun v H1 s1 r1=>⟨k,bL.mp r1,?_⟩⟩
 cases k with
 | true=>cases h3;exact q _ H1 s1 (bL.mpr rfl)
 | false=>exact⟨A,st,d,rs.mono s1,h3,fun w H' s' r'=>q w H' (s1.trans s') r'⟩
theorem aZ3(ha:PE X a (tI X.K B f)):PE X (.UnaryOp .Not a pos) (tI X.K B (pK f)):=by
 refine cQ (aZg ha) ?_
 rintro σ H Q ⟨A,st,d,rs,hd,q⟩
 obtain⟨x,hx,h2⟩:=R.ok_of hd
 obtain⟨k,rfl,h3⟩:=tZ h2
 cases h3
 exact⟨A,st,_,rs,hx,fun v H1 s1 r1=>⟨k,bL.mp r1,q _ H1 s1 (bL.mpr rfl)⟩⟩
theorem aIr(h:PT X a (tT X.K B f)):PW X (.BoolOp .And [a] pos) (tT X.K B f):=aVs h
theorem aOw(h:PT X a (tT X.K B f)):PW X (.BoolOp .Or [a] pos) (tT X.K B f):=aZc h
theorem aOx{rest:List Expr}(ha:PT X a (tT X.K B f))(hb:PW X (.BoolOp .And (b::rest) pos) (tT X.K B g)):PW X (.BoolOp .And (a::b::rest) pos) (tT X.K B (pJ f g)):=by
 refine aU9 (aZd ha hb) ?_
 rintro σ H Q ⟨A,st,d,rs,hd,q⟩
 obtain⟨x,hx,h2⟩:=R.ok_of hd
 obtain⟨k,rfl,h3⟩:=tZ h2
 refine⟨A,st,k,rs,hx,fun H1 s1=>?_⟩
 cases k with
 | true=>exact⟨A,st,d,rs.mono s1,h3,fun H' s'=>q H' (s1.trans s')⟩
 | false=>cases h3;exact q H1 s1
theorem aXi{rest:List Expr}(ha:PT X a (tT X.K B f))(hb:PW X (.BoolOp .Or (b::rest) pos) (tT X.K B g)):PW X (.BoolOp .Or (a::b::rest) pos) (tT X.K B (eOr f g)):=by
 refine aU9 (bCo ha hb) ?_
 rintro σ H Q ⟨A,st,d,rs,hd,q⟩
 obtain⟨x,hx,h2⟩:=R.ok_of hd
 obtain⟨k,rfl,h3⟩:=tZ h2
 refine⟨A,st,k,rs,hx,fun H1 s1=>?_⟩
 cases k with
 | true=>cases h3;exact q H1 s1
 | false=>exact⟨A,st,d,rs.mono s1,h3,fun H' s'=>q H' (s1.trans s')⟩
theorem qT(ha:PT X a (tT X.K B f)):PT X (.UnaryOp .Not a pos) (tT X.K B (pK f)):=by
 refine aMq (aZe ha) ?_
 rintro σ H Q ⟨A,st,d,rs,hd,q⟩
 obtain⟨x,hx,h2⟩:=R.ok_of hd
 obtain⟨k,rfl,h3⟩:=tZ h2
 cases h3
 exact⟨A,st,k,rs,hx,fun H1 s1=>q H1 s1⟩
theorem aQ:PA X [] (tA X.K B aX):=aUa jP (by
 rintro σ H Q ⟨A,st,d,rs,hd,q⟩
 cases hd
 exact q [] H (bA.refl _) .nil)
theorem aD{r:Exs}(ha:PE X e (tI X.K B f))(hr:PA X es (tA X.K B r))(hs:starEach (e::es) X.env=(false,eval e X.env)::starEach es X.env:=by rfl):PA X (e::es) (tA X.K B (aC f r)):=by
 refine aUa (eQ ha hr hs) ?_
 rintro σ H Q ⟨A,st,ds,rs,hd,q⟩
 obtain⟨x,hx,h2⟩:=R.ok_of hd
 obtain⟨xs,hxs,h3⟩:=R.ok_of h2
 cases h3
 refine⟨A,st,x,rs,hx,fun v H1 s1 r1=>⟨A,st,xs,rs.mono s1,hxs,fun vs H2 s2 r2=>?_⟩⟩
 exact q _ H2 (s1.trans s2) (.cons (r1.mono (bA.hide s2)) r2)
theorem aUg{r:Exs}  (h:PA X es (tA X.K B r)):PE X (.Tuple es x1 pos) (tI X.K B (aQ9 r)):=by
 refine cQ (aZz h) ?_
 rintro σ H Q ⟨A,st,d,rs,hd,q⟩
 obtain⟨xs,hx,h2⟩:=R.ok_of hd
 obtain⟨c,h3⟩:=aK h2
 cases h3
 refine⟨A,st,xs,rs,hx,fun vs H1 s1 r1=>⟨by rw[r1.length];exact lim c,fun p hp=>q _ _ (s1.trans (cZ hp)) ?_⟩⟩
 exact aD5 (rs.own.mono s1) hp r1
theorem aFg{r:Exs}(h:PA X es (tA X.K B r)):PE X (.List es pos) (tI X.K B (qG r)):=by
 refine cQ (aS9 h) ?_
 rintro σ H Q ⟨A,st,d,rs,hd,q⟩
 obtain⟨xs,hx,h2⟩:=R.ok_of hd
 obtain⟨c,h3⟩:=aK h2
 cases h3
 refine⟨A,st,xs,rs,hx,fun vs H1 s1 r1=>⟨by rw[r1.length];exact lim c,fun p hp=>q _ _ (s1.trans (cZ hp)) ?_⟩⟩
 exact jC (rs.own.mono s1) hp r1
def spI(K:Frag)(np:Nat)(p:List D->R D):Sp:=fun vs H Q _=>∃ A ds d,Own A H/\bD K (hide A H) ds vs/\ds.length=np/\p ds = .ok d/\∀ v H',bA H H'->Rep K (hide A H') d v->Q v H'
theorem bBa{k:Nat}       {r:Exs}   (F:FnOk X.prog X.w X.K X.mg X.base CX0 k fa fd ps (spI X.K np p)) (hr:Room k X.A) (hm:X.mg x=some (.ref fa))
  (hk:keepIn X.K (.ref fa)=true) (hb:Binds X.K fd ps []) (hl:∀ ds d,p ds = .ok d->ds.length=np) (ha:PA X (e::es) (tA X.K B r)) (hg:Gl X x:=by rfl) (hdb:(x==("__debug__" : Str))=false:=by decide)
  (he:starEach (e::es) X.env=(false,eval e X.env)::starEach es X.env:=by rfl) (hpl:(backTo pos (starEach es X.env)).any (·.1)=false:=by rfl) :
  PE X (.Call (.Name x p0) (e::es) [] pos) (tI X.K B (aP p r)):=by
 refine cQ (aNk F hr hg hm hk hb .nil aJn ha hdb he hpl) ?_
 rintro σ H Q ⟨A,st,d,rs,hd,q⟩
 obtain⟨xs,hx,h2⟩:=R.ok_of hd
 refine⟨A,st,xs,rs,hx,fun vs H1 s1 r1=>?_⟩
 show spI X.K np p (vs++[]) H1 Q E0
 rw[append_nil]
 exact⟨A++B,xs,d,rs.own.mono s1,r1,hl _ _ h2,h2,fun w H' s' r'=>q w H' (s1.trans s') r'⟩
end
theorem aIs(a b:Key):eqK (mQ a) (mQ b)=decide (a=b):=by
 cases a with
 | inl i =>
  cases b with
  | inl j=>unfold mQ eqK;rw[aRt]
  | inr y=>unfold mQ eqK;rw[aRv]
 | inr x =>
  cases b with
  | inl j=>unfold mQ eqK;rw[aRw]
  | inr y =>
   unfold mQ eqK
   rw[aRu,Bool.eq_iff_iff,beq_iff_eq,decide_eq_true_eq]
   constructor
   ·intro h
    cases x;cases y
    congr 1
    exact ext' h
   ·rintro rfl;rfl
theorem aKo:∀ (a b:List Key),aM1 (a.map mQ) (b.map mQ)=decide (a=b)
 | [],[]=>by unfold aM1;simp
 | [],_::_=>by unfold aM1;simp
 | _::_,[]=>by unfold aM1;simp
 | x::a,y::b=>by
  have ih:=aKo a b
  rw[map_cons,map_cons]
  unfold aM1
  rw[aIs,ih,Bool.eq_iff_iff,and_eq_true,decide_eq_true_eq,decide_eq_true_eq,decide_eq_true_eq,List.cons.injEq]
theorem aKp(a b:List Key):eqK (.tup (a.map mQ)) (.tup (b.map mQ))=decide (a=b):=by
 rw[<-aKo]
 conv=>lhs;unfold eqK
section
variable{κ:Type}[DecidableEq κ]{E:κ->D}(hE:∀ a b,eqK (E a) (E b)=decide (a=b)){K:Frag}{H:Hp}
include hE
theorem aIt(k:κ):∀ (kvs:List (κ × V)) (ds:List D),bD K H ds (kvs.map (·.2))->(∀ d,rB (kvs.map fun p=>E p.1) ds (E k)=some d->∃ v,aAq kvs k=some v/\Rep K H d v)/\(aAq kvs k).isSome=oM (kvs.map fun p=>E p.1) (E k)
 | [],ds,r=>⟨fun d h=>by cases ds<;>simp[rB]at h,rfl⟩
 | (a,v)::kvs,ds,r=>by
  cases ds with
  | nil=>have:=cY.mp r;simp at this
  | cons d ds =>
   obtain⟨v',r',e,h1,h2⟩:=bT.mp r
   rw[map_cons]at e
   injection e with e1 e2
   subst e1 e2
   obtain⟨i1,i2⟩:=aIt k kvs ds h2
   by_cases ha:a=k
   ·have hk:eqK (E a) (E k)=true:=by rw[hE,decide_eq_true_eq];exact ha
    refine⟨fun d' h=>?_,?_⟩
    ·unfold rB at h
     rw[map_cons,zip_cons_cons,List.find?_cons_of_pos (by simpa using hk)]at h
     cases h
     exact⟨v,wC ha,h1⟩
    ·rw[wC ha]
     unfold oM
     rw[map_cons,any_cons,hk]
     rfl
   ·have hk:eqK (E a) (E k)=false:=by rw[hE,decide_eq_false_iff_not];exact ha
    refine⟨fun d' h=>?_,?_⟩
    ·rw[wF ha]
     refine i1 d' ?_
     unfold rB at h ⊢
     rw[map_cons,zip_cons_cons,List.find?_cons_of_neg (by simpa using hk)]at h
     exact h
    ·rw[wF ha,i2]
     unfold oM
     rw[map_cons,any_cons,hk]
     rfl
theorem aUh(k:κ)(kvs:List (κ × V)):(kvs.any fun kv=>decide (kv.1=k))=oM (kvs.map fun p=>E p.1) (E k):=by
 unfold oM
 rw[List.any_map]
 congr 1
 funext p
 simp[hE]
theorem aOy(k:κ)(v:V)(d:D)(hd:Rep K H d v)(kvs:List (κ × V))(ds:List D)(r:bD K H ds (kvs.map (·.2))) :
  (putK kvs k v).map (fun p=>E p.1)=pI (kvs.map fun p=>E p.1) (E k)/\bD K H (sE (kvs.map fun p=>E p.1) ds (E k) d) ((putK kvs k v).map (·.2)):=by
 unfold putK pI sE
 rw[aUh hE]
 by_cases hh:oM (kvs.map fun p=>E p.1) (E k)=true
 ·rw[if_pos hh,if_pos hh,if_pos hh]
  constructor
  ·rw[List.map_map]
   refine List.map_congr_left fun p _=>?_
   simp only[Function.comp_apply]
   split<;>rfl
  ·clear hh
   induction kvs generalizing ds with
   | nil=>have:=r.length;cases ds with | nil=>exact .nil | cons _ _=>simp at this
   | cons p kvs ih =>
    obtain⟨a,w⟩:=p
    cases ds with
    | nil=>have:=cY.mp r;simp at this
    | cons d0 ds =>
     obtain⟨v',r',e,h1,h2⟩:=bT.mp r
     rw[map_cons]at e
     injection e with e1 e2
     subst e1 e2
     rw[map_cons,map_cons,map_cons,zip_cons_cons,map_cons]
     refine .cons ?_ (ih ds h2)
     by_cases ha:a=k
     ·have hk:eqK (E a) (E k)=true:=by rw[hE,decide_eq_true_eq];exact ha
      rw[if_pos hk,if_pos ha]
      exact hd
     ·have hk:eqK (E a) (E k)=false:=by rw[hE,decide_eq_false_iff_not];exact ha
      rw[if_neg (by rw[hk];exact Bool.false_ne_true),if_neg ha]
      exact h1
 ·rw[if_neg hh,if_neg hh,if_neg hh]
  refine⟨by rw[List.map_append];rfl,?_⟩
  rw[List.map_append]
  exact r.append (.cons hd .nil)
end
theorem aA7{K:Frag}    (r:Rep K H d v) (h:keyOk false d=true):∃ k:Key,d=mQ k/\v=kV k:=by
 cases d<;>first | (cases h;done) | skip
 ·exact⟨.inl _,rfl,aU.mp r⟩
 ·exact⟨.inr _,rfl,bI.mp r⟩
theorem aBj{K:Frag}{H:Hp}:∀ {ds:List D} {vs:List V},bD K H ds vs->ds.all aSm=true->∃ ks:List Key,ds=ks.map mQ/\vs=ks.map kV
 | [],vs,r,_=>⟨[],rfl,cY.mp r⟩
 | d::ds,vs,r,h=>by
  obtain⟨v,r',rfl,h1,h2⟩:=bT.mp r
  rw[List.all_cons,and_eq_true]at h
  obtain⟨ks,e1,e2⟩:=aBj h2 h.2
  obtain⟨k,e3,e4⟩:=aA7 h1 (by cases d<;>first | (cases h.1;done) | rfl)
  exact⟨k::ks,by rw[e1,e3];rfl,by rw[e2,e4];rfl⟩
theorem aD6{K:Frag}    (r:Rep K H d v) (h:keyOk true d=true):∃ (ks:List Key) (b:Addr),d = .tup (ks.map mQ)/\v = .ref b/\H b=some (.tup (ks.map kV)):=by
 cases d<;>first | (cases h;done) | skip
 rename_i xs
 obtain⟨b,vs,e,hb,rs⟩:=sZ.mp r
 have h':xs.all aSm=true:=by
  unfold keyOk at h
  simpa using h
 obtain⟨ks,e1,e2⟩:=aBj rs h'
 exact⟨ks,b,by rw[e1],e,by rw[<-e2];exact hb⟩
theorem aDx{K:Frag}   {t:Bool} {ks:List D} {k:D} {u:V} (rx:mR K A H (.dct t ks ds) v) (ry:Rep K H k u) (hk:keyOk t k=true) :
  ∃ a o,v = .ref a/\yS H a u o/\o.isSome=oM ks k/\∀ d,rB ks ds k=some d->∃ w,o=some w/\Rep K (hide A H) d w:=by
 have key:∃ a vs,v=V.ref a/\((t=false/\∃ kvs:List (Key × V),H a=some (.dK kvs)/\kvs.map (fun p=>mQ p.1)=ks/\vs=kvs.map (·.2))\/(t=true/\∃ kvs:List (List Key × V),H a=some (.dT kvs)/\kvs.map (fun p=>D.tup (p.1.map mQ))=ks/\vs=kvs.map (·.2)))/\bD K (hide A H) ds vs:=by
  rcases rx with h | ⟨a,kk,o,ds',vs,e,e2,h,ko,r⟩
  ·obtain⟨a,vs,e,q,r⟩:=aBg.mp h
   refine⟨a,vs,e,?_,r⟩
   rcases q with ⟨q0,kvs,q1,q2⟩ | ⟨q0,kvs,q1,q2⟩
   ·exact .inl ⟨q0,kvs,bH _ _ _ _ q1,q2⟩
   ·exact .inr ⟨q0,kvs,bH _ _ _ _ q1,q2⟩
  ·cases kk<;>cases e
   refine⟨a,vs,e2,?_,r⟩
   rcases ko with ⟨q0,kvs,q1,q2⟩ | ⟨q0,kvs,q1,q2⟩
   ·subst q1;exact .inl ⟨q0,kvs,h,q2⟩
   ·subst q1;exact .inr ⟨q0,kvs,h,q2⟩
 obtain⟨a,vs,e,q,r⟩:=key
 rcases q with ⟨rfl,kvs,q1,rfl,rfl⟩ | ⟨rfl,kvs,q1,rfl,rfl⟩
 ·obtain⟨k',e1,e2⟩:=aA7 ry hk
  subst e1 e2
  obtain⟨i1,i2⟩:=aIt aIs k' kvs ds r
  exact⟨a,_,e,yS.k q1,i2,fun d hd=>let ⟨w,h1,h2⟩:=i1 d hd;⟨w,h1,h2⟩⟩
 ·obtain⟨k',b,e1,e2,e3⟩:=aD6 ry hk
  subst e1 e2
  obtain⟨i1,i2⟩:=aIt aKp k' kvs ds r
  exact⟨a,_,e,yS.t q1 e3,i2,fun d hd=>let ⟨w,h1,h2⟩:=i1 d hd;⟨w,h1,h2⟩⟩
section
variable{X:Cx}{B:List Addr}{a b e:Expr}{f g:Ex}{pos:Pos}
def bEq:R2:=fun x y H Q=>∃ p v,x = .ref p/\yS H p y (some v)/\Q v H
theorem aOz(hu:X.A.units+64<cLine):IxR X bEq:=by
 intro value slice pins s σ H x y v u Q I rx ry h hs
 obtain⟨p,z,rfl,g,q⟩:=h
 cases rx
 have hT:=aJp I g
 unfold subscriptTail
 refine wpAny_bind ?_
 rw[getitemInPython_of_ne hT.not_modules]
 refine wpAny_bind (wpAny_specialOf hT PySem.F.slot_dict_getitem.lookup ?_)
 have h2:wpAny (model X.prog X.w) X.A (getItem (.ref p) u) (EP X pins σ Q) X.xe s:=aQ5 (by omega) I g ry fun w' s3 I3 rw'=>⟨z,H,I3,rw',q⟩
 have fin:wpAny (model X.prog X.w) X.A (subscripted slice false (.ref p) u) (fun r s3=>wpAny (model X.prog X.w) X.A (letTemporaryGo value (.ref p) r >>= fun _=>pure r) (EP X pins σ Q) X.xe s3) X.xe s:=by
  rw[hs]
  exact wpAny_operating (wpAny_mono h2 (fun r s3 h3=>wpAny_bind (wpAny_letTemporaryGo (wpAny_pure h3))) fun _ _ x=>x)
 first
  | exact wpAny_pure (wpAny_bind fin)
  | exact wpAny_bind (wpAny_pure (wpAny_bind fin))
  | exact wpAny_bind fin
theorem aP0{K:Frag}:aA6 K (fun x y H Q=>rIx K x y H Q\/bEq x y H Q) dIx:=by
 intro A H x y d v u Q w rx ry e q
 by_cases hx:bDf x=true
 ·cases x<;>first | (cases hx;done) | skip
  rename_i t ks vs
  have e':aJ (keyOk t y=true) (ofO (rB ks vs y)) = .ok d:=by cases y<;>exact e
  obtain⟨hk,e2⟩:=aK e'
  have ryr:Rep K H y u:=by
   rcases ry with h | ⟨a,kk,o,ds,vs',e1,_⟩
   ·exact h.mono (bH _ _)
   ·subst e1;cases kk<;>cases t<;>cases hk
  obtain⟨a,o,e3,g,_,g2⟩:=aDx rx ryr hk
  obtain⟨z,e4,rz⟩:=g2 d (xR e2)
  subst e4
  exact .inr ⟨a,z,e3,g,q _ H (bA.refl _) rz⟩
 ·exact .inl (bB9 (by simpa using hx) A H x y d v u Q w rx ry e q)
theorem fM(hu:X.A.units+64<cLine)(ha:PE X a (tP X.K B f))(hb:PE X b (tP X.K B g))(hs:aI0 b:=by intro _ _;rfl):PE X (.Subscript a b pos) (tI X.K B (e2 dIx f g)) :=
 cQ (aYo (aSd.or (aOz hu)) ha hb hs) fun _ _ _ h=>aIq aP0 h
theorem aR0:nZ X (.builtin "len") (fun xs H Q=>∃ a kvs,xs=[V.ref a]/\H a=some (.dK kvs)/\Q (.int kvs.length) H):=by
 intro pins s σ H xs us Q I r h
 obtain⟨a,kvs,rfl,hk,q⟩:=h
 obtain⟨u,rfl,ru⟩:=r.one
 obtain rfl:u=Value.ref a:=ru
 exact bDd I (.inl hk) fun t s' I'=>⟨.int kvs.length,H,I',⟨t,rfl⟩,q⟩
theorem aXj{K:Frag}   {ks:List D}  (rx:mR K A H (.dct false ks ds) v):∃ a kvs,v = .ref a/\H a=some (.dK kvs)/\kvs.length=ks.length:=by
 rcases rx with h | ⟨a,kk,o,ds',vs,e,e2,h,ko,r⟩
 ·obtain⟨a,vs,e,q,r⟩:=aBg.mp h
  rcases q with ⟨_,kvs,q1,rfl,_⟩ | ⟨q0,_⟩
  ·exact⟨a,kvs,e,bH _ _ _ _ q1,by simp⟩
  ·cases q0
 ·cases kk<;>cases e
  rcases ko with ⟨_,kvs,rfl,rfl,_⟩ | ⟨q0,_⟩
  ·exact⟨a,kvs,e2,h,by simp⟩
  ·cases q0
end
section
variable{K:Frag}   {st:PSt} 
theorem yM{k:OK}  (h:(st.set i (some (.v d)))[j]?=some (some (.o k xs))):j≠i/\st[j]?=some (some (.o k xs)):=by
 rw[List.getElem?_set]at h
 by_cases e:i=j
 ·subst e
  rw[if_pos rfl]at h
  split at h<;>simp at h
 ·rw[if_neg e]at h
  exact⟨fun z=>e z.symm,h⟩
theorem Le.app{A':List Addr}  (l:Le A H A' H'):bA (hide (A++B) H) (hide (A'++B) H'):=fun b u q=>by
 have q1:=bH _ _ _ _ q
 have hb:b ∉ A++B:=fun z=>by rw[eN z]at q;cases q
 have q2:hide A H b=some u:=by rw[bV fun z=>hb (List.mem_append_left _ z)];exact q1
 have q3:=l b u q2
 have hb':b ∉ A':=fun z=>by rw[eN z]at q3;cases q3
 rw[bV fun z=>(List.mem_append.mp z).elim hb' fun z=>hb (List.mem_append_right _ z)]
 exact bH _ _ _ _ q3
theorem RS.set(r:RS K B A H st σ){d:D}{v:V}(i:Nat)(h:Rep K (hide (A++B) H) d v):RS K B A H (st.set i (some (.v d))) (σ.set i (some v)) where
 len:=by rw[length_set,length_set,r.len]
 own:=r.own
 dis:=r.dis
 val:=fun j d' e=>by
  rw[List.getElem?_set]at e
  by_cases hij:i=j
  ·subst hij
   rw[if_pos rfl]at e
   split at e
   ·rename_i hl
    simp at e
    subst e
    exact⟨v,by rw[List.getElem?_set,if_pos rfl,if_pos (by rw[<-r.len];exact hl)],h⟩
   ·cases e
  ·rw[if_neg hij]at e
   obtain⟨u,e1,q⟩:=r.val j d' e
   exact⟨u,by rw[List.getElem?_set,if_neg hij];exact e1,q⟩
 lst:=fun j kk xs e=>by
  obtain⟨hj,e'⟩:=yM e
  obtain⟨a,o,vs,e1,m,h1,ko,q,u⟩:=r.lst j kk xs e'
  refine⟨a,o,vs,by rw[List.getElem?_set,if_neg fun z=>hj z.symm];exact e1,m,h1,ko,q,fun k k' ys ek ek2=>?_⟩
  obtain⟨hk,ek'⟩:=yM ek
  rw[List.getElem?_set,if_neg fun z=>hk z.symm]at ek2
  exact u k k' ys ek' ek2
theorem aXk{p:Addr}  (w:Own (A++B) H):Own ((p::A)++B) (upd H p o):=fun a ha=>by
 by_cases e:a=p
 ·subst e;rw[cH];rfl
 ·rw[bQ e]
  exact w a ((List.mem_cons.mp ha).resolve_left e)
theorem aBk{p:Addr}  (hp:H p=none):bA (hide (A++B) H) (hide ((p::A)++B) (upd H p o)):=fun b u q=>by
 have q1:=bH _ _ _ _ q
 have hb:b ∉ A++B:=fun z=>by rw[eN z]at q;cases q
 have ne:b≠p:=bC q1 hp
 rw[bV (show b ∉ (p::A)++B from fun z=>(List.mem_cons.mp z).elim ne hb),bQ ne]
 exact q1
theorem aFh{p:Addr}  (hp:H p=none):Le A H (p::A) (upd H p o):=fun b u q=>by
 have q1:=bH _ _ _ _ q
 have hb:b ∉ A:=fun z=>by rw[eN z]at q;cases q
 have ne:b≠p:=bC q1 hp
 rw[bV fun z=>(List.mem_cons.mp z).elim ne hb,bQ ne]
 exact q1
theorem RS.setO(r:RS K B A H st σ){p:Addr}{kk:OK}    (i:Nat) (hp:H p=none) (ko:KOk K kk p o vs) (h:bD K (hide (A++B) H) ds vs) :
  RS K B (p::A) (upd H p o) (st.set i (some (.o kk ds))) (σ.set i (some (.ref p))) where
 len:=by rw[length_set,length_set,r.len]
 own:=aXk r.own
 dis:=fun a ha hb=>by
  rcases List.mem_cons.mp ha with rfl | ha
  ·exact r.own.free hp (List.mem_append_right _ hb)
  ·exact r.dis a ha hb
 val:=fun j d' e=>by
  rw[List.getElem?_set]at e
  by_cases hij:i=j
  ·subst hij
   rw[if_pos rfl]at e
   split at e<;>simp at e
  ·rw[if_neg hij]at e
   obtain⟨u,e1,q⟩:=r.val j d' e
   exact⟨u,by rw[List.getElem?_set,if_neg hij];exact e1,q.mono (aBk hp)⟩
 lst:=fun j k0 xs e=>by
  rw[List.getElem?_set]at e
  by_cases hij:i=j
  ·subst hij
   rw[if_pos rfl]at e
   split at e
   ·rename_i hl
    simp at e
    obtain⟨e0,e⟩:=e
    subst e0 e
    refine⟨p,o,vs,by rw[List.getElem?_set,if_pos rfl,if_pos (by rw[<-r.len];exact hl)],mem_cons_self,cH,ko,h.mono (aBk hp),fun k k' ys ek ek2=>?_⟩
    by_cases hk:i=k
    ·exact hk.symm
    ·rw[List.getElem?_set,if_neg hk]at ek ek2
     obtain⟨a,o',vs',e1,m,h1,_⟩:=r.lst k k' ys ek
     rw[e1]at ek2
     cases ek2
     rw[hp]at h1;cases h1
   ·cases e
  ·rw[if_neg hij]at e
   obtain⟨a,o',vs',e1,m,h1,ko',q,u⟩:=r.lst j k0 xs e
   have ne:a≠p:=bC h1 hp
   refine⟨a,o',vs',by rw[List.getElem?_set,if_neg hij];exact e1,mem_cons_of_mem _ m,by rw[bQ ne];exact h1,ko',q.mono (aBk hp),fun k k' ys ek ek2=>?_⟩
   by_cases hk:i=k
   ·subst hk
    rw[List.getElem?_set,if_pos rfl]at ek2
    split at ek2
    ·simp at ek2;exact absurd ek2.symm ne
    ·cases ek2
   ·rw[List.getElem?_set,if_neg hk]at ek ek2
    exact u k k' ys ek ek2
theorem RS.write(r:RS K B A H st σ)   {k0 k1:OK} {o':HO}  {vs':List V} (hi:st[i]?=some (some (.o k0 xs))) (hs:σ[i]?=some (some (.ref a))) (ko:KOk K k1 a o' vs') (h:bD K (hide (A++B) H) ds vs') :
  RS K B A (upd H a o') (st.set i (some (.o k1 ds))) σ/\Le A H A (upd H a o'):=by
 obtain⟨a',o,vs,e1,m,h1,_,q,u⟩:=r.lst i k0 xs hi
 rw[hs]at e1
 cases e1
 have hh:hide (A++B) (upd H a o')=hide (A++B) H:=aBh (List.mem_append_left _ m)
 refine⟨⟨by rw[length_set,r.len],fun b hb=>?_,r.dis,fun j d e=>?_,fun j kj ys e=>?_⟩,?_⟩
 ·by_cases e:b=a
  ·subst e;rw[cH];rfl
  ·rw[bQ e];exact r.own b hb
 ·rw[hh]
  rw[List.getElem?_set]at e
  by_cases hij:i=j
  ·subst hij
   rw[if_pos rfl]at e
   split at e<;>simp at e
  ·rw[if_neg hij]at e
   exact r.val j d e
 ·rw[hh]
  have ne:∀ {k:Nat} {kz:OK} {zs:List D},(st.set i (some (.o k1 ds)))[k]?=some (some (.o kz zs))->∃ kw ws,st[k]?=some (some (.o kw ws)):=fun {k kz zs} ek=>by
   rw[List.getElem?_set]at ek
   by_cases hk:i=k
   ·subst hk;exact⟨_,_,hi⟩
   ·rw[if_neg hk]at ek;exact⟨_,_,ek⟩
  rw[List.getElem?_set]at e
  by_cases hij:i=j
  ·subst hij
   rw[if_pos rfl]at e
   split at e
   ·simp at e
    obtain⟨e0,e⟩:=e
    subst e0 e
    exact⟨a,o',vs',hs,m,cH,ko,h,fun k kz zs ek ek2=>let ⟨kw,ws,ew⟩:=ne ek;u k kw ws ew ek2⟩
   ·cases e
  ·rw[if_neg hij]at e
   obtain⟨c,oc,ws,c1,cm,ch,kc,cq,cu⟩:=r.lst j kj ys e
   have hca:c≠a:=fun z=>by subst z;exact hij (u j kj ys e c1).symm
   exact⟨c,oc,ws,c1,cm,by rw[bQ hca];exact ch,kc,cq,fun k kz zs ek ek2=>let ⟨kw,ws,ew⟩:=ne ek;cu k kw ws ew ek2⟩
 ·unfold Le
  rw[aBh m]
  exact bA.refl _
theorem RS.fz1(r:RS K B A H st σ)(i:Nat):∃ A',RS K B A' H (Pu.fz1 st i) σ/\Le A H A' H:=by
 unfold Pu.fz1
 split
 ·rename_i kk xs e
  obtain⟨a,o,vs,e1,m,h1,ko,q,u⟩:=r.lst i kk xs e
  have hsub:∀ b∈A.filter (fun c=>decide (c≠a)),b∈A:=fun b hb=>(List.mem_filter.mp hb).1
  have hsub2:∀ b∈A.filter (fun c=>decide (c≠a))++B,b∈A++B:=fun b hb=>(List.mem_append.mp hb).elim (fun z=>List.mem_append_left _ (hsub b z)) (List.mem_append_right _)
  have sm:bA (hide (A++B) H) (hide (A.filter (fun c=>decide (c≠a))++B) H):=iM hsub2
  have hout:a ∉ A.filter (fun c=>decide (c≠a))++B:=fun z=>(List.mem_append.mp z).elim (fun z=>of_decide_eq_true (List.mem_filter.mp z).2 rfl) (r.dis a m)
  refine⟨A.filter fun c=>decide (c≠a),⟨by rw[length_set,r.len],fun b hb=>r.own b (hsub2 b hb),fun b hb=>r.dis b (hsub b hb),fun j d ej=>?_,fun j kj ys ej=>?_⟩,iM hsub⟩
  ·rw[List.getElem?_set]at ej
   by_cases hij:i=j
   ·subst hij
    rw[if_pos rfl]at ej
    split at ej
    ·simp at ej
     subst ej
     exact⟨_,e1,ko.rep (by rw[bV hout];exact h1) (q.mono sm)⟩
    ·cases ej
   ·rw[if_neg hij]at ej
    obtain⟨v,e2,q2⟩:=r.val j d ej
    exact⟨v,e2,q2.mono sm⟩
  ·obtain⟨hj,ej'⟩:=yM ej
   obtain⟨c,oc,ws,c1,cm,ch,kc,cq,cu⟩:=r.lst j kj ys ej'
   have hca:c≠a:=fun z=>by subst z;exact hj (u j kj ys ej' c1)
   exact⟨c,oc,ws,c1,List.mem_filter.mpr ⟨cm,decide_eq_true hca⟩,ch,kc,cq.mono sm,fun k kz zs ek ek2=>cu k kz zs (yM ek).2 ek2⟩
 ·exact⟨A,r,Le.refl⟩
theorem RS.fz(is:List Nat):∀ {A:List Addr} {st:PSt},RS K B A H st σ->∃ A',RS K B A' H (is.foldl Pu.fz1 st) σ/\Le A H A' H:=by
 induction is with
 | nil=>exact fun r=>⟨_,r,Le.refl⟩
 | cons i is ih =>
  intro A st r
  obtain⟨A1,r1,l1⟩:=r.fz1 i
  obtain⟨A2,r2,l2⟩:=ih r1
  exact⟨A2,r2,l1.trans l2⟩
end
section
variable{X:Cx}{B:List Addr}{a b e:Expr}{f g:Ex}{pos:Pos}{bd bd':Bd}{sm:Stmt}{rest:List Stmt}
theorem jV:PSs X [] (tS X.K B eE):=qP aNh (by
 rintro Dn σ H ⟨A,st,r,rs,hr,p⟩
 cases hr
 exact p A σ H Le.refl rs)
theorem aY(h1:PS X sm (tS X.K B bd))(h2:PSs X rest (tS X.K B bd')):PSs X (sm::rest) (tS X.K B (bN bd bd')):=by
 refine qP (aAn h1 h2) ?_
 rintro Dn σ H ⟨A,st,r,rs,hr,p⟩
 obtain⟨x,hx,h3⟩:=R.ok_of hr
 refine⟨A,st,x,rs,hx,?_⟩
 cases x with
 | nx s1=>exact fun A' σ' H' l rs'=>⟨A',s1,r,rs',h3,p.mono l⟩
 | rt d=>cases h3;exact p
 | bk s1=>cases h3;exact p
 | ct s1=>cases h3;exact p
theorem bM(h1:PS X sm (tS X.K B bd)):PSs X [sm] (tS X.K B bd):=aDq h1
theorem aMv(is:List Nat)(h:PS X sm (tS X.K B bd)):PS X sm (tS X.K B (sFz is bd)):=gD h (by
 rintro Dn σ H ⟨A,st,r,rs,hr,p⟩
 obtain⟨A',rs',l⟩:=RS.fz is rs
 exact⟨A',_,r,rs',hr,p.mono l⟩)
theorem cN(h:PE X e (tI X.K B f)):PS X (.Return (some e) pos) (tS X.K B (dO f)):=gD (aLp h) (by
 rintro Dn σ H ⟨A,st,r,rs,hr,p⟩
 obtain⟨d,hd,h3⟩:=R.ok_of hr
 cases h3
 exact⟨A,st,d,rs,hd,fun v H' s q=>p A v H' (Le.of s) q⟩)
theorem cU(i:Nat)   (he:PE X e (tI X.K B f)) (hN:X.N.Nodup) (hi:X.N[i]?=some x:=by rfl) (hx:Loc X.env.scope x:=by first | exact Or.inl rfl | exact Or.inr rfl) (hs:swapsWith e (some (.Name x pos')) pos.line X.env=pure false:=by rfl)
  (hf:X.fn x=true\/X.env.scope.names.lookup x=some .local:=by first | exact .inl rfl | exact .inr rfl | assumption):PS X (.Assign [.Name x pos'] e pos) (tS X.K B (dU i f)):=gD (aE6 hN hi hx he hs hf) (by
 rintro Dn σ H ⟨A,st,r,rs,hr,p⟩
 obtain⟨d,hd,h3⟩:=R.ok_of hr
 cases h3
 exact⟨A,st,d,rs,hd,fun v H' s q=>p A _ H' (Le.of s) ((rs.mono s).set i q)⟩)
def tF(K:Frag)(B:List Addr)(f:Ex):TE:=fun σ H Q=>∃ A st ds,RS K B A H st σ/\f st = .ok (.lst ds)/\∀ p vs H',bA H H'->H' p=none->bD K (hide (A++B) H') ds vs->Q (.ref p) (upd H' p (.lst vs))
theorem aFi{r:Exs}(h:PA X es (tA X.K B r)):PE X (.List es pos) (tF X.K B (qG r)):=by
 refine cQ (aS9 h) ?_
 rintro σ H Q ⟨A,st,d,rs,hd,q⟩
 obtain⟨xs,hx,h2⟩:=R.ok_of hd
 obtain⟨c,h3⟩:=aK h2
 cases h3
 exact⟨A,st,_,rs,hx,fun vs H1 s1 r1=>⟨by rw[r1.length];exact lim c,fun p hp=>q p vs H1 s1 hp r1⟩⟩
theorem xT(i:Nat)   (he:PE X e (tF X.K B f)) (hN:X.N.Nodup) (hi:X.N[i]?=some x:=by rfl) (hx:Loc X.env.scope x:=by first | exact Or.inl rfl | exact Or.inr rfl) (hs:swapsWith e (some (.Name x pos')) pos.line X.env=pure false:=by rfl)
  (hf:X.fn x=true\/X.env.scope.names.lookup x=some .local:=by first | exact .inl rfl | exact .inr rfl | assumption):PS X (.Assign [.Name x pos'] e pos) (tS X.K B (pL i f)):=gD (aE6 hN hi hx he hs hf) (by
 rintro Dn σ H ⟨A,st,r,rs,hr,p⟩
 obtain⟨d,hd,h3⟩:=R.ok_of hr
 cases d<;>first | (cases h3;done) | skip
 cases h3
 exact⟨A,st,_,rs,hd,fun a vs H' s hn q=>p (a::A) _ _ ((Le.of s).trans (aFh hn)) ((rs.mono s).setO (kk := .l) i hn rfl q)⟩)
theorem qH{c:Expr}{t:Ex}{x y:List Stmt}(hc:PT X c (tT X.K B t))(ha:PSs X x (tS X.K B bd))(hb:PSs X y (tS X.K B bd')):PS X (.If c x y pos) (tS X.K B (sIf t bd bd')):=gD (aYl hc ha hb) (by
 rintro Dn σ H ⟨A,st,r,rs,hr,p⟩
 obtain⟨d,hd,h3⟩:=R.ok_of hr
 obtain⟨k,rfl,h4⟩:=tZ h3
 refine⟨A,st,k,rs,hd,fun H1 s1=>?_⟩
 cases k with
 | true=>exact⟨A,st,r,rs.mono s1,h4,p.mono (Le.of s1)⟩
 | false=>exact⟨A,st,r,rs.mono s1,h4,p.mono (Le.of s1)⟩)
theorem cL(i:Nat)  (hN:X.N.Nodup) (hi:X.N[i]?=some x:=by rfl) (hx:Loc X.env.scope x:=by first | exact Or.inl rfl | exact Or.inr rfl)
  (hf:X.fn x=true\/X.env.scope.names.lookup x=some .local:=by first | exact .inl rfl | exact .inr rfl | assumption):PG X (.Name x pos) (tG X.K B (tgN i)):=aUc (aVt hN hi hx hf) (by
 rintro v σ H Q ⟨A,st,d,s1,rs,hr,hg,q⟩
 cases hg
 exact q _ (rs.set i hr))
def tGs(K:Frag)(B:List Addr)(is:List Nat):TGs:=fun vs σ H Q=>∃ A st ds s1,RS K B A H st σ/\bD K (hide (A++B) H) ds vs/\rE is ds st = .ok s1/\∀ σ',RS K B A H s1 σ'->Q σ' H
theorem aP1{t t':TGs}(h:PGs X es t)(m:∀ v σ H Q,t' v σ H Q->t v σ H Q):PGs X es t':=fun pins s σ H v u Q I r q=>h pins s σ H v u Q I r (m v σ H Q q)
theorem aUi:PGs X [] (tGs X.K B []):=aP1 aVu (by
 rintro v σ H Q ⟨A,st,ds,s1,rs,hr,hg,q⟩
 cases ds with
 | nil=>cases hg;exact⟨cY.mp hr,q σ rs⟩
 | cons _ _=>exact nomatch hg)
theorem aDy(i:Nat)    (h2:PGs X es (tGs X.K B is)) (hN:X.N.Nodup) (hi:X.N[i]?=some x:=by rfl) (hx:Loc X.env.scope x:=by first | exact Or.inl rfl | exact Or.inr rfl)
  (hf:X.fn x=true\/X.env.scope.names.lookup x=some .local:=by first | exact .inl rfl | exact .inr rfl | assumption)
  (hs:(assignEach (.Name x pos::es) X.env).map (·.2)=assign (.Name x pos) X.env::(assignEach es X.env).map (·.2):=by rfl):PGs X (.Name x pos::es) (tGs X.K B (i::is)):=aP1 (aRz (cL i (pos:=pos) hN hi hx hf) h2 hs) (by
 rintro v σ H Q ⟨A,st,ds,s1,rs,hr,hg,q⟩
 cases ds with
 | nil=>exact nomatch hg
 | cons d ds =>
  obtain⟨u,r,e,r1,r2⟩:=bT.mp hr
  exact⟨u,r,e,A,st,d,st.set i (some (.v d)),rs,r1,rfl,fun σ' rs'=>⟨A,_,ds,s1,rs',r2,hg,q⟩⟩)
theorem aFj{l it:Addr}  (hl:h.IsList l items) (s:Heap.SameBut it h h') (hne:l≠it):h'.IsList l items:=by
 obtain⟨o,e,r⟩:=hl
 exact⟨o,(s.2 l hne).trans e,r⟩
theorem aHg{M:Program}{w:World}{A:Around}{E:Value->Shared->Prop}{it t:Addr}{items:Array Value}(hne:t≠it):∀ (n i:Nat) (s:Shared) (Q:List Value->Shared->Prop),s.heap.IsListIter it t i->s.heap.IsList t items->i+n<=items.size ->
  (∀ h',h'.IsListIter it t (i+n)->Heap.SameBut it s.heap h'->Q ((items.toList.drop i).take n) {s with heap:=h'})->wpAny (model M w) A (draw (.ref it) n) Q E s
 | 0,i,s,Q,hit,_,_,hQ=>by
  show wpAny _ _ (pure []) Q E s
  exact wpAny_pure (by simpa using hQ s.heap hit (Heap.SameBut.refl ..))
 | n+1,i,s,Q,hit,ht,hle,hQ=>by
  have hlt:i<items.size:=by omega
  show wpAny _ _ (pyNext (.ref it) >>= _) Q E s
  refine wpAny_bind (wpAny_pyNext_list_item hit ht (x:=items[i]) (by simp[hlt]) fun h1 hit1 hs1=>?_)
  refine wpAny_bind (wpAny_holding (aHg hne n (i+1) _ _ hit1 (aFj ht hs1 hne) (by omega) fun h2 hit2 hs2=>wpAny_pure ?_))
  have hd:items.toList.drop i=items[i] :: items.toList.drop (i+1):=by simp[List.drop_eq_getElem_cons,hlt]
  have:=hQ h2 (by rw[show i+(n+1)=i+1+n by omega];exact hit2) (hs1.trans hs2)
  rw[hd,List.take_succ_cons]at this
  exact this
theorem aBl{M:Program}  {A:Around}  {s:Shared}    {pos:Pos} {t:Addr}  {Q:Unit->Shared->Prop} (hh:A.handled=none) (ht:s.heap.IsList t items)
  (hn:(assignEach elts env).length=items.size) (hstar:(assignEach elts env).findIdx? (·.1)=none)
  (h:∀ h',Heap.ExtBut s.heap.objs.size s.heap h'->wpAny (model M w) A (assignInOrder ((assignEach elts env).map (·.2)) items.toList) Q E {s with heap:=h'}) :
  wpAny (model M w) A (assign (.Tuple elts x1 pos) env (.ref t)) Q E s:=by
 have hlt:t≠s.heap.objs.size:=by obtain⟨o,ho,_⟩:=ht;exact Nat.ne_of_lt (Heap.lt_size ho)
 rw[assign_Tuple]
 refine wpAny_bind (wpAny_standAt ?_)
 unfold unpack
 rw[hn,hstar]
 refine wpAny_bind (wpAny_holding ?_)
 unfold unpackItems
 refine wpAny_bind ?_
 unfold notIterableAtAll
 refine wpAny_bind (wpAny_specialOf ht.typeIs PySem.F.slot_list_iter.lookup ?_)
 refine wpAny_pure ?_
 simp only[Bool.false_eq_true,if_false]
 refine wpAny_bind (wpAny_holding (wpAny_pyIter_list ht ?_))
 have ht0:(s.heap.push {cls := .type "list_iterator", data := .fields #[.ref t,rawInt 0] }).IsList t items:=by
  obtain⟨o,ho,r⟩:=ht
  exact⟨o,Heap.get?_push_of_some _ ho,r⟩
 refine wpAny_bind (wpAny_holding (aHg hlt items.size 0 _ _ ⟨_,Heap.get?_push_size _ rfl,rfl,rfl⟩ ht0 (by omega) fun h1 hit1 hs1=>?_))
 have hall:List.take items.size (List.drop 0 items.toList)=items.toList:=by
  rw[drop_zero];exact List.take_of_length_le (by simp)
 rw[hall]
 rw[if_neg (by simp)]
 refine wpAny_bind (wpAny_holding (wpAny_pyNext_list_end hh hit1 (aFj ht0 hs1 hlt) (by simp) fun h2 he2=>?_))
 simp only[Option.isSome_none,Bool.false_eq_true,if_false]
 refine wpAny_pure (h h2 fun b o hb e=>he2 b o hb (hs1.extBut b o hb (Heap.get?_push_of_some _ e)))
def bH0(K:Frag)(n:Nat)(t:TGs):TG:=fun v σ H Q=>∃ a xs,v = .ref a/\(SqT K H a xs\/SqL K H a xs)/\xs.length=n/\t xs σ H Q
theorem bBb{k:Nat}{t:TGs}  (hc:X.calm=true) (h:PGs X es t)
  (hn:(assignEach es X.env).length=n:=by rfl) (hst:(assignEach es X.env).findIdx? (·.1)=none:=by rfl):PG X (.Tuple es k pos) (bH0 X.K n t):=by
 intro pins s σ H v u Q I r hw
 obtain⟨a,xs,e1,hq,hl,hw⟩:=hw
 rcases hq with hq | hq
 ·exact aZj hc h hn hst pins s σ H v u Q I r ⟨a,xs,e1,hq,hl,hw⟩
 ·subst e1
  cases r
  obtain⟨its,rv,ht,hz⟩:=I.list hq
  refine aBl (I.ok.hd hc) ht.isList (by simp[hn,<-hl,rv.length]) hst fun h' hx=>?_
  have I1:Inv X pins σ H {s with heap:=h'}:=I.kept (t':=s.toks) fun b o e=>hx b o (Nat.ne_of_lt (Heap.lt_size e)) e
  exact h pins _ σ H xs _ Q I1 (by simpa using rv) hw
theorem aFk{s1:PSt}:∀ (is:List Nat) (ds:List D) (st:PSt),rE is ds st = .ok s1->ds.length=is.length:=by
 intro is
 induction is with
 | nil=>intro ds st h;cases ds with | nil=>rfl | cons _ _=>exact nomatch h
 | cons i is ih=>intro ds st h;cases ds with | nil=>exact nomatch h | cons _ ds=>exact congrArg (· + 1) (ih ds _ h)
theorem aZ4{k:Nat}(hc:X.calm=true)(h:PGs X es (tGs X.K B is))(hn:(assignEach es X.env).length=is.length:=by rfl)(hst:(assignEach es X.env).findIdx? (·.1)=none:=by rfl):PG X (.Tuple es k pos) (tG X.K B (tgT is)):=aUc (bBb hc h hn hst) (by
 rintro v σ H Q ⟨A,st,d,s1,rs,hr,hg,q⟩
 cases d<;>first | (cases hg;done) | skip
 ·rename_i ds
  obtain⟨a,vs,e,h1,h2⟩:=bJ hr
  exact⟨a,vs,e,.inl (xQ (bH _ _) h1),by rw[h2.length];exact aFk is ds st hg,A,st,ds,s1,rs,h2,hg,q⟩
 ·rename_i ds
  obtain⟨a,vs,e,h1,h2⟩:=bU.mp hr
  exact⟨a,vs,e,.inr ((bH _ _).seq h1),by rw[h2.length];exact aFk is ds st hg,A,st,ds,s1,rs,h2,hg,q⟩)
theorem bEr{t:Tg}(he:PE X e (tI X.K B f))(hg:PG X tg (tG X.K B t))(hs:swapsWithSole [tg] e pos.line X.env=pure false:=by rfl)(hw:swappedStores [tg] e X.env=pure none:=by rfl)
  (h1:(assignEach [tg] X.env).map (·.2)=[assign tg X.env]:=by rfl):PS X (.Assign [tg] e pos) (tS X.K B (bAa t f)):=gD (aLq he hg hs hw h1) (by
 rintro Dn σ H ⟨A,st,r,rs,hr,p⟩
 obtain⟨d,hd,h3⟩:=R.ok_of hr
 obtain⟨s1,hs1,h4⟩:=R.ok_of h3
 cases h4
 exact⟨A,st,d,rs,hd,fun v H' s q=>⟨A,st,d,s1,rs.mono s,q,hs1,fun σ' rs'=>p A σ' H' (Le.of s) rs'⟩⟩)
theorem qU{iter:Expr}  {t:Tg}  (hi:L2.PI X tg iter (tIt X.K B it)) (hg:PG X tg (tG X.K B t)) (hb:PSs X body (tS X.K B bd)) (hp:PassesOwn (model X.prog X.w) X.A X.env X.xe) (hc:X.calm=true)
  (hs:∀ x,foldedSetIterable iter X.env x=pure x:=by intro _;rfl):PS X (.For tg iter body [] pos) (tS X.K B (wH t it bd)):=gD (aZl hp hc hi hg hb hs) (by
 rintro Dn σ H ⟨A,st,r,rs,hr,p⟩
 obtain⟨ds,hd,h3⟩:=R.ok_of hr
 refine⟨A,st,ds,rs,hd,fun J H1 s1 ito=>?_⟩
 refine⟨fun i m σ' H'=>∃ A' st',m=ds.length-i/\i<=ds.length/\RS X.K B A' H' st' σ'/\forR t bd (ds.drop i) st' = .ok r/\Le A H1 A' H',⟨ds.length,A,st,by simp,zero_le _,rs.mono s1,by rw[drop_zero];exact h3,Le.refl⟩,?_⟩
 rintro i m σ' H' ⟨A',st',rfl,hle,rs',hf,l⟩
 obtain⟨i1,i2⟩:=ito A' H' l rs'.own i
 by_cases hlt:i<ds.length
 ·have hd':ds[i]?=some ds[i]:=List.getElem?_eq_getElem hlt
  obtain⟨go,yl⟩:=i1 _ hd'
  rw[List.drop_eq_getElem_cons hlt]at hf
  obtain⟨s2,hs2,h5⟩:=R.ok_of hf
  obtain⟨fl,hfl,h6⟩:=R.ok_of h5
  refine .inr ⟨go,fun σ2 H2=>∃ A2 st2,i+1<=ds.length/\RS X.K B A2 H2 st2 σ2/\forR t bd (ds.drop (i+1)) st2 = .ok r/\Le A H1 A2 H2,?_,fun x H2 y=>?_⟩
  ·rintro σ2 H2 ⟨A2,st2,hle2,rs2,hf2,l2⟩
   exact⟨ds.length-(i+1),by omega,A2,st2,rfl,hle2,rs2,hf2,l2⟩
  ·obtain⟨sm,rx⟩:=yl x H2 y
   have l5:Le A H1 A' H2:=l.trans (Le.of sm)
   refine⟨A',st',ds[i],s2,rs'.mono sm,rx,hs2,fun σ3 rs3=>⟨A',s2,fl,rs3,hfl,?_⟩⟩
   cases fl with
   | nx s4=>exact fun A4 σ4 H4 l4 rs4=>⟨A4,s4,hlt,rs4,h6,l5.trans l4⟩
   | ct s4=>exact fun A4 σ4 H4 l4 rs4=>⟨A4,s4,hlt,rs4,h6,l5.trans l4⟩
   | bk s4=>cases h6;exact p.mono ((Le.of s1).trans l5)
   | rt d=>cases h6;exact p.mono ((Le.of s1).trans l5)
 ·have e:i=ds.length:=by omega
  subst e
  rw[List.drop_length]at hf
  cases hf
  exact .inl ⟨i2 (Nat.le_refl _),p A' σ' H' ((Le.of s1).trans l) rs'⟩)
theorem aIu(n:Nat){c:Expr}{t:Ex}  (hc:PT X c (tT X.K B t)) (hb:PSs X body (tS X.K B bd)) (hp:PassesOwn (model X.prog X.w) X.A X.env X.xe):PS X (.While c body [] pos) (tS X.K B (aEg n t bd)):=gD (aS1 hp hc hb) (by
 rintro Dn σ H ⟨A,st,r,rs,hr,p⟩
 refine⟨fun m σ' H'=>∃ A' st',RS X.K B A' H' st' σ'/\jQ t bd m st' = .ok r/\Le A H A' H',⟨n,A,st,rs,hr,Le.refl⟩,?_⟩
 rintro m σ' H' ⟨A',st',rs',hw,l⟩
 cases m with
 | zero=>exact nomatch hw
 | succ m =>
  obtain⟨d,hd,h3⟩:=R.ok_of hw
  obtain⟨k,rfl,h4⟩:=tZ h3
  refine⟨A',st',k,rs',hd,fun H1 s1=>?_⟩
  cases k with
  | false =>
   cases h4
   exact p A' σ' H1 (l.trans (Le.of s1)) (rs'.mono s1)
  | true =>
   obtain⟨fl,hfl,h6⟩:=R.ok_of h4
   refine⟨fun σ2 H2=>∃ A2 st2,RS X.K B A2 H2 st2 σ2/\jQ t bd m st2 = .ok r/\Le A H A2 H2,?_,A',st',fl,rs'.mono s1,hfl,?_⟩
   ·rintro σ2 H2 ⟨A2,st2,rs2,hf2,l2⟩
    exact⟨m,Nat.lt_succ_self m,A2,st2,rs2,hf2,l2⟩
   ·cases fl with
    | nx s4=>exact fun A4 σ4 H4 l4 rs4=>⟨A4,s4,rs4,h6,l.trans ((Le.of s1).trans l4)⟩
    | ct s4=>exact fun A4 σ4 H4 l4 rs4=>⟨A4,s4,rs4,h6,l.trans ((Le.of s1).trans l4)⟩
    | bk s4=>cases h6;exact p.mono (l.trans (Le.of s1))
    | rt d=>cases h6;exact p.mono (l.trans (Le.of s1)))
theorem bBc{K:Frag}     {l:Addr} (hq:SqL K (hide (A++B) H) l vs) (r:bD K (hide (A++B) H) ds vs):aQz K B A H (Itl K l) ds:=by
 intro A' H' le own i
 have hq':SqL K H' l vs:=(bH _ _).seq ((Le.app le).seq hq)
 refine⟨fun d hd=>?_,fun hl=>⟨vs,hq',by rw[r.length];exact hl⟩⟩
 obtain⟨v,hv,rv⟩:=r.get hd
 refine⟨⟨vs,v,hq',hv⟩,fun x H3 y=>⟨by rw[y.1];exact bA.refl _,?_⟩⟩
 have hx:=y.2 vs hq'
 rw[y.1]
 rw[hv]at hx
 cases hx
 exact rv.mono (Le.app le)
theorem bBd{K:Frag}     {l:Addr} (hq:SqT K (hide (A++B) H) l vs) (r:bD K (hide (A++B) H) ds vs):aQz K B A H (Itt K l) ds:=by
 intro A' H' le own i
 have hq':SqT K H' l vs:=xQ (bH _ _) (xQ (Le.app le) hq)
 refine⟨fun d hd=>?_,fun hl=>⟨vs,hq',by rw[r.length];exact hl⟩⟩
 obtain⟨v,hv,rv⟩:=r.get hd
 refine⟨⟨vs,v,hq',hv⟩,fun x H3 y=>⟨by rw[y.1];exact bA.refl _,?_⟩⟩
 have hx:=y.2 vs hq'
 rw[y.1]
 rw[hv]at hx
 cases hx
 exact rv.mono (Le.app le)
theorem aUj{K:Frag}   {lo:Int}  : aQz K B A H (Itr lo n) (gB lo n):=by
 intro A' H' le own i
 have hl:(gB lo n).length=n:=by simp[gB]
 refine⟨fun d hd=>?_,fun h=>by rw[hl]at h;exact h⟩
 have hi:i<n:=by
  have:=(List.getElem?_eq_some_iff.mp hd).1
  rw[hl]at this;exact this
 have e:d = .int (lo+(i:Int)):=by
  unfold gB at hd
  rw[List.getElem?_map,List.getElem?_range hi]at hd
  exact(Option.some.inj hd).symm
 subst e
 exact⟨hi,fun x H3 y=>⟨by rw[y.1];exact bA.refl _,aU.mpr y.2⟩⟩
def Its(z:List Nat):It:=⟨fun i _=>i<z.length,fun i H x H'=>H'=H/\∃ c,z[i]?=some c/\x = .str ⟨#[c]⟩,fun i _=>z.length<=i⟩
theorem aUk{K:Frag}   {it:Addr} {n:String} {t:Tok} (hn:n = "str_ascii_iterator" \/ n = "str_iterator"):Turn P w K tg (Its z) [it] it (fun i h=>h.IsStrIter it n ⟨z.toArray⟩ t i) where
 mem:=by simp
 obj:=fun i h st b hb=>by
  have e:b=it:=by simpa using hb
  subst e
  obtain⟨o,e,c,d⟩:=st
  exact⟨o,e,fun v z=>by rw[d]at z;cases z⟩
 keep:=fun i h h' st k=>let ⟨o,e,r⟩:=st;⟨o,k it (by simp) o e,r⟩
 item:=by
  intro X hP hw hK hc i pins s σ H E I hf st hg
  subst hP hw hK
  obtain⟨f0,f1,f2,f3,f4,f5⟩:=hf it (by simp)
  have fin:∀ v h' tk,SignAt ⟨z.toArray⟩ i v->Heap.IsStrIter h' it n ⟨z.toArray⟩ t (i+1)->(∀ b o,b ∉ [it]->s.heap.get? b=some o->h'.get? b=some o) ->
    ∃ u,some v=some u/\wpAny (model X.prog X.w) X.A (letOwnedTupleGo tg (.ref it) u) (fun _ s2=>∃ x H',Inv X pins σ H' s2/\RelV x u/\(Its z).yld i H x H'/\Heap.IsStrIter s2.heap it n ⟨z.toArray⟩ t (i+1)/\∀ b∈[it],H' b=none) E {s with heap:=h',toks:=tk}:=by
   intro v h' tk hv st' kk
   obtain⟨c,u,hcu,rfl⟩:=hv
   have I1:Inv X pins σ H {s with heap:=h',toks:=tk}:=I.turned (fun b o hb e=>kk b o (by simpa using hb) e) f0 f1 f3 f4 f5
   obtain⟨o,e,c',d⟩:=id st'
   refine⟨_,rfl,aNi (s:={s with heap:=h',toks:=tk}) e c' d (by rcases hn with rfl | rfl<;>decide) ⟨.str ⟨#[c]⟩,H,I1,⟨u,rfl⟩,⟨rfl,c,?_,rfl⟩,st',fun b hb=>(hf b hb).1⟩⟩
   simpa using hcu
  have hg2:i<z.length:=hg
  have hg':i<(⟨z.toArray⟩:Str).cps.size:=by simpa using hg2
  rcases hn with rfl | rfl
  ·exact(Walks.strAscii (prog:=X.prog) (w:=X.w) (I.ok.hd hc) it ⟨z.toArray⟩ t).item i s _ _ hg' st fun v h' tk hv st' kk=>fin v h' tk hv st' kk
  ·exact(Walks.strWide (prog:=X.prog) (w:=X.w) (I.ok.hd hc) it ⟨z.toArray⟩ t).item i s _ _ hg' st fun v h' tk hv st' kk=>fin v h' tk hv st' kk
 done:=by
  intro X hP hw hK hc i pins s σ H E I hf st hg
  subst hP hw hK
  obtain⟨f0,f1,f2,f3,f4,f5⟩:=hf it (by simp)
  have hg2:z.length<=i:=hg
  rcases hn with rfl | rfl
  ·exact wpAny_pyNext_ascii_end (I.ok.hd hc) st (by simpa using hg2) fun h' eb=>⟨rfl,I.turned (t':=s.toks) (fun b o hb e=>eb b o hb e) f0 f1 f3 f4 f5⟩
  ·exact wpAny_pyNext_wide_end (I.ok.hd hc) st (by simpa using hg2) fun h' eb=>⟨rfl,I.turned (t':=s.toks) (fun b o hb e=>eb b o hb e) f0 f1 f3 f4 f5⟩
 self:=fun _ _ _ _ _ st h=>by
  rcases hn with rfl | rfl
  ·exact wpAny_pyIter_striter_ascii st h
  ·exact wpAny_pyIter_striter_wide st h
theorem bBe{K:Frag}    : aQz K B A H (Its z) (z.map fun c => .str [c]):=by
 intro A' H' le own i
 refine⟨fun d hd=>?_,fun h=>(by simpa using h:z.length<=i)⟩
 rw[List.getElem?_map]at hd
 cases hz:z[i]? with
 | none=>rw[hz]at hd;cases hd
 | some c =>
  rw[hz]at hd
  cases hd
  refine⟨(List.getElem?_eq_some_iff.mp hz).1,fun x H3 y=>⟨by rw[y.1];exact bA.refl _,?_⟩⟩
  obtain⟨c',hc',rfl⟩:=y.2
  rw[hz]at hc'
  cases hc'
  exact bI.mpr rfl
def bH1(K:Frag)(tl:TE):TI:=fun σ H R=>tl σ H fun x H1=>(∃ a,x = .ref a/\(((∃ xs,SqL K H1 a xs)/\R (Itl K a) H1)\/((∃ xs,SqT K H1 a xs)/\R (Itt K a) H1)))\/∃ z:List Nat,x = .str ⟨z.toArray⟩/\R (Its z) H1
theorem bBf{l:Expr}{tl:TE}(hl:PE X l tl):L2.PI X tg l (bH1 X.K tl):=by
 intro pins s σ H R I h
 refine thn (hl pins s σ H _ I h) fun v s1 ⟨x,H1,I1,r1,q1⟩=>?_
 rcases q1 with ⟨a,e,q⟩ | ⟨z,rfl,q⟩
 rotate_left
 ·obtain⟨t,rfl⟩:=r1
  refine wpAny_pyIter_strU ?_
  refine⟨s1.heap.objs.size,[s1.heap.objs.size],_,_,H1,rfl,I1.kept (t':=s1.toks) fun b o e=>Heap.get?_push_of_some _ e,aUk (z:=z) (n:=strIterType ⟨z.toArray⟩) (t:=t) (by unfold strIterType;split<;>simp),⟨_,Heap.get?_push_size _ rfl,rfl,rfl⟩,fun b hb=>?_,q⟩
  have e:b=s1.heap.objs.size:=by simpa using hb
  subst e
  exact I1.fpOk (Nat.le_refl _) (I1.hok.fresh (Nat.le_refl _))
 subst e
 cases r1
 rcases q with ⟨⟨xs,hq⟩,q⟩ | ⟨⟨xs,hq⟩,q⟩
 ·obtain⟨its,rv,p,hz⟩:=I1.list hq
  refine wpAny_pyIter_list p.isList ?_
  refine⟨s1.heap.objs.size,[s1.heap.objs.size],_,_,H1,rfl,I1.kept (t':=s1.toks) fun b o e=>Heap.get?_push_of_some _ e,aPs a _,⟨_,Heap.get?_push_size _ rfl,rfl,rfl⟩,fun b hb=>?_,q⟩
  have e:b=s1.heap.objs.size:=by simpa using hb
  subst e
  exact I1.fpOk (Nat.le_refl _) (I1.hok.fresh (Nat.le_refl _))
 ·obtain⟨its,rv,p,hz⟩:=I1.tuple hq
  refine wpAny_pyIter_tuple (show s1.heap.IsTuple a its.toArray from p) ?_
  refine⟨s1.heap.objs.size,[s1.heap.objs.size],_,_,H1,rfl,I1.kept (t':=s1.toks) fun b o e=>Heap.get?_push_of_some _ e,aLr a _,⟨_,Heap.get?_push_size _ rfl,rfl,rfl⟩,fun b hb=>?_,q⟩
  have e:b=s1.heap.objs.size:=by simpa using hb
  subst e
  exact I1.fpOk (Nat.le_refl _) (I1.hok.fresh (Nat.le_refl _))
theorem nG{l:Expr}(hl:PE X l (tI X.K B f)):L2.PI X tg l (tIt X.K B (itE f)):=aMr (bBf hl) (by
 rintro σ H Rq ⟨A,st,ds,rs,hd,q⟩
 obtain⟨x,hx,h2⟩:=R.ok_of hd
 refine⟨A,st,x,rs,hx,fun v H1 s1 r1=>?_⟩
 cases x<;>first | (cases h2;done) | skip
 ·obtain⟨_,h2⟩:=aK h2
  cases h2
  exact .inr ⟨_,bI.mp r1,q _ H1 s1 bBe⟩
 ·cases h2
  obtain⟨a,vs,e,h3,r3⟩:=bJ r1
  exact .inl ⟨a,e,.inr ⟨⟨vs,xQ (bH _ _) h3⟩,q _ H1 s1 (bBd h3 r3)⟩⟩
 ·cases h2
  obtain⟨a,vs,e,h3,r3⟩:=bU.mp r1
  exact .inl ⟨a,e,.inl ⟨⟨vs,(bH _ _).seq h3⟩,q _ H1 s1 (bBc h3 r3)⟩⟩)
theorem aBm{p:Pos}(hm:X.mg "range" = none)(ha:PE X a (tP X.K B f))(hg:Gl X "range" := by rfl)(hs:starEach [a] X.env=[(false,eval a X.env)]:=by rfl):L2.PI X tg (.Call (.Name "range" p) [a] [] pos) (tIt X.K B (uA f)):=aMr (aPt hg hm (eQ ha jP hs) hs) (by
 rintro σ H Rq ⟨A,st,ds,rs,hd,q⟩
 obtain⟨x,hx,h2⟩:=R.ok_of hd
 obtain⟨j,rfl,h3⟩:=aEe h2
 obtain⟨c,h4⟩:=aK h3
 rw[oK]at c
 cases h4
 exact⟨A,st,_,rs,hx,fun v H1 s1 r1=>⟨j,by rw[r1.int],by omega,by omega,q _ H1 s1 aUj⟩⟩)
theorem bEs{p:Pos}(hm:X.mg "range" = none)(ha:PE X a (tP X.K B f))(hb:PE X b (tP X.K B g))(hg:Gl X "range" := by rfl)(hs:starEach [a,b] X.env=[(false,eval a X.env),(false,eval b X.env)]:=by rfl)(hs2:starEach [b] X.env=[(false,eval b X.env)]:=by rfl)
  (hs3:starEach [a,b] X.env=(false,eval a X.env)::starEach [b] X.env:=by rfl):L2.PI X tg (.Call (.Name "range" p) [a,b] [] pos) (tIt X.K B (aWc f g)):=aMr (aPu hg hm (eQ ha (eQ hb jP hs2) hs3) hs hs2) (by
 rintro σ H Rq ⟨A,st,ds,rs,hd,q⟩
 obtain⟨x,hx,h2⟩:=R.ok_of hd
 obtain⟨y,hy,h5⟩:=R.ok_of h2
 obtain⟨i,rfl,h6⟩:=aEe h5
 obtain⟨j,rfl,h3⟩:=aEe h6
 obtain⟨c,h4⟩:=aK h3
 rw[oK]at c
 cases h4
 exact⟨A,st,_,rs,hx,fun v H1 s1 r1=>⟨A,st,_,rs.mono s1,hy,fun u H2 s2 r2=>⟨i,j,by rw[r1.int,r2.int],⟨by omega,by omega,by omega,by omega⟩,q _ H2 (s1.trans s2) aUj⟩⟩⟩)
end
theorem aBn{K:Frag}      (w:Own B H) (r:bD K (hide B H) ds vs):RS K B [] H (ds.map (fun d=>some (Sl.v d))++List.replicate (N.length-ds.length) none) (L2.start N vs):=by
 have hl:=r.length
 have nov:∀ (i:Nat) (s:Sl),(ds.map (fun d=>some (Sl.v d))++List.replicate (N.length-ds.length) none)[i]?=some (some s)->∃ d,ds[i]?=some d/\s = .v d:=fun i s e=>by
  by_cases hi:i<ds.length
  ·rw[List.getElem?_append_left (by simpa using hi),List.getElem?_map,List.getElem?_eq_getElem hi]at e
   simp at e
   exact⟨ds[i],List.getElem?_eq_getElem hi,e.symm⟩
  ·rw[List.getElem?_append_right (by simpa using hi),List.getElem?_replicate]at e
   split at e<;>simp at e
 refine⟨by unfold L2.start;simp[hl],by rw[nil_append];exact w,fun a ha=>absurd ha (by simp),fun i d e=>?_,fun i kk xs e=>?_⟩
 ·obtain⟨d',e1,e2⟩:=nov i _ e
  cases e2
  obtain⟨v,hv,rv⟩:=r.get e1
  refine⟨v,?_,by rw[nil_append];exact rv⟩
  unfold L2.start
  have hi:i<vs.length:=(List.getElem?_eq_some_iff.mp hv).1
  rw[List.getElem?_append_left (by simpa using hi),List.getElem?_map,hv]
  rfl
 ·obtain⟨d',e1,e2⟩:=nov i _ e
  cases e2
theorem aFl(ds:List D)(d:D)(h:cT np n bd ds = .ok d):ds.length=np:=(aK h).1
structure DefOk(P:Program)(w:World)(K:Frag)(mg:Str->Option Value)(base:Heap)(x:Str)(k np:Nat)(p:List D->R D):Prop where
 ex:∃ (fa:Addr) (fd:FuncData) (ps:List Str),FnOk P w K mg base CX0 k fa fd ps (spI K np p)/\mg x=some (.ref fa)/\keepIn K (.ref fa)=true/\Binds K fd ps []
 len:∀ ds d,p ds = .ok d->ds.length=np
theorem DefOk.of{K:Frag}    {k:Nat}     (h:FnOk P w K mg base CX0 k fa fd ps (spI K np p)) (m:mg x=some (.ref fa))
  (kp:keepIn K (.ref fa)=true) (b:Binds K fd ps []) (l:∀ ds d,p ds = .ok d->ds.length=np):DefOk P w K mg base x k np p:=⟨⟨fa,fd,ps,h,m,kp,b⟩,l⟩
section
variable{X:Cx}{B:List Addr}{a b e:Expr}{f g:Ex}{pos:Pos}
theorem aL{k:Nat}   {r:Exs}  (h:DefOk X.prog X.w X.K X.mg X.base x k np p) (hr:Room j X.A) (hk:k<=j) (ha:PA X (e::es) (tA X.K B r)) (hg:Gl X x:=by rfl) (hdb:(x==("__debug__" : Str))=false:=by decide)
  (he:starEach (e::es) X.env=(false,eval e X.env)::starEach es X.env:=by rfl) (hpl:(backTo pos (starEach es X.env)).any (·.1)=false:=by rfl):PE X (.Call (.Name x p0) (e::es) [] pos) (tI X.K B (aP p r)):=by
 obtain⟨fa,fd,ps,F,m,kp,bd⟩:=h.ex
 exact bBa F (hr.mono hk) m kp bd h.len ha hg hdb he hpl
theorem bBg{K:Frag}  {a:Addr}   {E:XK} (hS:SqL K H a (ns.map V.int)) (h:p [.lst (ns.map D.int)] = .ok (.bl true)):spI K 1 p [.ref a] H (fun v _=>v = .bl true) E:=by
 refine⟨[],[.lst (ns.map D.int)],.bl true,fun b hb=>absurd hb (by simp),?_,rfl,h,fun v H' _ r=>bL.mp r⟩
 rw[pW]
 refine .cons (bU.mpr ⟨a,_,rfl,hS,?_⟩) .nil
 clear hS h
 induction ns with
 | nil=>exact .nil
 | cons n ns ih=>exact .cons (aU.mpr rfl) ih
theorem gM(hm:X.mg "len" = none)(ha:PE X a (tP X.K B f))(hg:Gl X "len" := by rfl)(hs:starEach [a] X.env=(false,eval a X.env)::starEach [] X.env:=by rfl):PE X (.Call (.Name "len" p0) [a] [] pos) (tI X.K B (e1 fC f)):=by
 refine cQ (rZ (aI2.or (aI3.or aR0)) hg hm PySem.boot_len (eQ ha jP hs) (he:=hs)) ?_
 rintro σ H Q ⟨A,st,d,rs,hd,q⟩
 obtain⟨x,hx,h2⟩:=R.ok_of hd
 refine⟨A,st,x,rs,hx,fun v H1 s1 r1=>?_⟩
 cases x<;>first | (cases h2;done) | skip
 ·obtain⟨c,h3⟩:=aK h2
  cases h3
  exact .inr (.inl ⟨_,by rw[r1.str],by rw[str_len];exact lim c,by rw[str_len];exact q _ H1 s1 (aU.mpr rfl)⟩)
 ·cases h2
  obtain⟨l,vs,e,h3,r3⟩:=r1.tup
  exact .inl ⟨l,vs,by rw[e],.inr h3,by rw[r3.length];exact q _ H1 s1 (aU.mpr rfl)⟩
 ·cases h2
  obtain⟨l,vs,e,h3,r3⟩:=r1.lst
  exact .inl ⟨l,vs,by rw[e],.inl h3,by rw[r3.length];exact q _ H1 s1 (aU.mpr rfl)⟩
 ·rename_i t ks ds
  cases t<;>first | (cases h2;done) | skip
  cases h2
  obtain⟨a,kvs,e,h3,h4⟩:=aXj r1
  exact .inr (.inr ⟨a,kvs,by rw[e],h3,by rw[h4];exact q _ H1 s1 (aU.mpr rfl)⟩)
theorem aMw:PO X none (tO X.K B aGt):=aUb aW4 (by
 rintro σ H Q ⟨A,st,o,rs,ho,q⟩
 cases ho
 exact q H (bA.refl _))
theorem aFm(h:PE X e (tP X.K B f)):PO X (some e) (tO X.K B (yW f)):=aUb (aW5 h) (by
 rintro σ H Q ⟨A,st,o,rs,ho,q⟩
 obtain⟨x,hx,h2⟩:=R.ok_of ho
 obtain⟨i,rfl,h3⟩:=aEe h2
 cases h3
 exact⟨A,st,_,rs,hx,fun v H1 s1 r1=>⟨i,r1.int,q H1 s1⟩⟩)
theorem aKq{α:Type}(x:List α):∀ (k a:Nat),((List.range k).map (a + ·)).filterMap (x[·]?)=(x.drop a).take k
 | 0,a=>by simp
 | k+1,a=>by
  rw[List.range_succ_eq_map,map_cons,List.filterMap_cons,List.map_map]
  have e:((fun b=>a+b) ∘ Nat.succ)=fun b=>(a+1)+b:=by funext b;simp only[Function.comp_apply];omega
  rw[e]
  have ih:=aKq x k (a+1)
  rw[ih]
  by_cases h:a<x.length
  ·rw[Nat.add_zero,List.getElem?_eq_getElem h]
   simp only[List.drop_eq_getElem_cons h,List.take_succ_cons]
  ·rw[Nat.add_zero,List.getElem?_eq_none (by omega)]
   simp only[List.drop_eq_nil_of_le (by omega:x.length<=a),List.drop_eq_nil_of_le (by omega:x.length<=a+1),List.take_nil]
theorem aP2(n d:Nat)(o:Option Int):(match o with | none=>(d:Int) | some i=>if (1:Int)>0 then max 0 (min (if i<0 then i+(n:Int) else i) (n:Int)) else max (-1) (min (if i<0 then i+(n:Int) else i) ((n:Int)-1)))=((sIx n d o:Nat):Int):=by
 cases o with
 | none=>rfl
 | some i =>
  show (if (1:Int)>0 then _ else _)=(((if i<0 then (i+(n:Int)).toNat else min i.toNat n):Nat):Int)
  rw[if_pos (by decide)]
  by_cases h:i<0
  ·rw[if_pos h,if_pos h];omega
  ·rw[if_neg h,if_neg h];omega
theorem aUl(lo hi:Option Int)(n:Nat):Builtin.Str.strSliceIndices lo hi 1 n=(List.range (sIx n n hi-sIx n 0 lo)).map (sIx n 0 lo + ·):=by
 unfold Builtin.Str.strSliceIndices
 simp only[show (1:Int)>0 by decide,if_true]
 have e1:=aP2 n 0 lo
 have e2:=aP2 n n hi
 simp only[show (1:Int)>0 by decide,if_true]at e1 e2
 rw[show ((0:Nat):Int)=0 from rfl]at e1
 refine Eq.trans (congrArg (fun z=>sliceRange z _ 1) (show _=((sIx n 0 lo:Nat):Int) from e1)) (Eq.trans (congrArg (fun z=>sliceRange _ z 1) (show _=((sIx n n hi:Nat):Int) from e2)) ?_)
 unfold sliceRange
 simp only[show (1:Int)>0 by decide,if_true]
 have hc:(if ((sIx n 0 lo:Nat):Int)<((sIx n n hi:Nat):Int) then (((sIx n n hi:Nat):Int)-((sIx n 0 lo:Nat):Int)+1-1)/1 else 0).toNat=sIx n n hi-sIx n 0 lo:=by
  by_cases h:((sIx n 0 lo:Nat):Int)<((sIx n n hi:Nat):Int)
  ·rw[if_pos h,Int.ediv_one];omega
  ·rw[if_neg h];omega
 rw[hc]
 refine List.map_congr_left fun k _=>?_
 omega
theorem aXl(n d:Nat)(hd:d<=n)(o:Option Int):sIx n d o<=n:=by
 cases o with
 | none=>exact hd
 | some v =>
  show (if v<0 then (v+(n:Int)).toNat else min v.toNat n)<=n
  by_cases hv:v<0
  ·rw[if_pos hv];omega
  ·rw[if_neg hv];omega
theorem aR1(x:List Nat)(lo hi:Option Int):Txt.slice ⟨x.toArray⟩ lo hi=⟨(cut x lo hi).toArray⟩:=by
 unfold Txt.slice cut
 rw[str_len,aUl,length_map,length_range]
 have h1:=aXl x.length x.length (Nat.le_refl _) hi
 by_cases h:sIx x.length x.length hi-sIx x.length 0 lo=x.length
 ·have e0:sIx x.length 0 lo=0\/x.length=0:=by omega
  rw[if_pos (by simp[h]),h]
  rcases e0 with e0 | e0
  ·rw[e0,drop_zero,take_length]
  ·rw[List.length_eq_zero_iff.mp e0];simp
 ·rw[if_neg (by simp[h])]
  have e:(fun(i:Nat)=>(⟨x.toArray⟩:Str).cps[i]?)=fun i=>x[i]?:=by funext i;simp
  rw[e,aKq]
def bH2:V->Option Int->Option Int->Hp->VK->Prop:=fun x lo hi H Q=>∃ z:List Nat,x = .str ⟨z.toArray⟩/\z.length<=sizeLine/\Q (.str ⟨(cut z lo hi).toArray⟩) H
theorem bBh:SlR X bH2:=by
 intro pins s σ H x v vl vu lo hi sl Q I rx hs pl pu h
 obtain⟨z,rfl,hz,q⟩:=h
 obtain⟨t,rfl⟩:=rx
 refine⟨"str", _,PySem.F.slot_str_getitem.lookup,typeIs_str _ _ _,?_⟩
 have hl:(Txt.slice ⟨z.toArray⟩ lo hi).length<=sizeLine:=Nat.le_trans (Txt.slice_le _ _ _) (by rw[str_len];exact hz)
 have fin:∀ t' k,EP X pins σ Q (.str (Txt.slice ⟨z.toArray⟩ lo hi) t') {s with toks:=k}:=fun t' k=>⟨.str ⟨(cut z lo hi).toArray⟩,H,I.tok k,⟨t',by rw[aR1]⟩,q⟩
 cases pl with
 | none =>
  cases pu with
  | none=>exact wpAny_getItem_str_slice (l:=none) (u:=none) (st:=none) hs rfl (post_val_or_str ⟨hl,fin⟩)
  | int j uj=>exact wpAny_getItem_str_slice (l:=none) (u:=some (j,uj)) (st:=none) hs rfl (post_val_or_str ⟨hl,fin⟩)
 | int i ui =>
  cases pu with
  | none=>exact wpAny_getItem_str_slice (l:=some (i,ui)) (u:=none) (st:=none) hs rfl (post_val_or_str ⟨hl,fin⟩)
  | int j uj=>exact wpAny_getItem_str_slice (l:=some (i,ui)) (u:=some (j,uj)) (st:=none) hs rfl (post_val_or_str ⟨hl,fin⟩)
theorem aKr{K:Frag}    (lo hi:Option Int) (r:bD K H ds vs):bD K H (cut ds lo hi) (aQ0 vs lo hi):=by
 unfold cut aQ0
 rw[r.length]
 exact(r.drop _).take _
theorem bBi{lo hi:Option Expr}{l u:ExO}  (ha:PE X a (tP X.K B f)) (hl:PO X lo (tO X.K B l)) (hu:PO X hi (tO X.K B u)):PE X (.Subscript a (.Slice lo hi none p2) pos) (tI X.K B (eSl f l u)):=by
 refine cQ (aJl (aNn.or bBh) ha hl hu) ?_
 rintro σ H Q ⟨A,st,d,rs,hd,q⟩
 obtain⟨x,hx,h2⟩:=R.ok_of hd
 obtain⟨l',hl',h3⟩:=R.ok_of h2
 obtain⟨u',hu',h4⟩:=R.ok_of h3
 refine⟨A,st,x,rs,hx,fun v H1 s1 r1=>⟨A,st,l',rs.mono s1,hl',fun H2 s2=>⟨A,st,u',rs.mono (s1.trans s2),hu',fun H3 s3=>?_⟩⟩⟩
 have r3:=r1.mono (s2.trans s3)
 cases x<;>first | (cases h4;done) | skip
 ·obtain⟨c,h5⟩:=aK h4
  cases h5
  exact .inr ⟨_,r3.str,lim c,q _ H3 (s1.trans (s2.trans s3)) (bI.mpr rfl)⟩
 ·cases h4
  obtain⟨p,vs,e,h6,r6⟩:=r3.lst
  refine .inl ⟨p,vs,e,h6,fun n hn=>q _ _ (s1.trans (s2.trans (s3.trans (cZ hn)))) ?_⟩
  exact jC (rs.own.mono (s1.trans (s2.trans s3))) hn (aKr _ _ r6)
end
def clo(cells:List (Str × Addr)):List (Str × NameKind)->List (Str × Addr)->List (Str × Addr)
 | [],acc=>acc
 | (n,k)::r,acc=>if k == .free then clo cells r ((n,(cells.lookup n).getD 0)::acc) else clo cells r acc
theorem aA8{env:Env}:∀ (names:List (Str × NameKind)) (acc:List (Str × Addr)),(∀ y∈names,y.2 = .free->∃ c,env.cells.lookup y.1=some c) ->
  (forIn names acc fun x cs=>if x.2 == .free then (do let c <- cellOf env x.1;pure (ForInStep.yield ((x.1,c)::cs))) else pure (ForInStep.yield cs):Sem (List (Str × Addr)))=pure (clo env.cells names acc)
 | [],acc,_=>by rw[forIn_nil];rfl
 | (n,k)::r,acc,h=>by
  rw[forIn_cons]
  unfold clo
  by_cases hk:k = .free
  ·subst hk
   obtain⟨c,e⟩:=h (n,.free) mem_cons_self rfl
   have e2:cellOf env n=pure c:=by unfold cellOf;rw[e]
   simp only[beq_self_eq_true,if_true,e2,e,getD_some]
   show (forIn r ((n,c)::acc) _:Sem (List (Str × Addr)))=_
   exact aA8 r _ fun y hy=>h y (mem_cons_of_mem _ hy)
  ·have hb:(k==NameKind.free)=false:=by simpa using hk
   simp only[hb,Bool.false_eq_true,if_false]
   show (forIn r acc _:Sem (List (Str × Addr)))=_
   exact aA8 r _ fun y hy=>h y (mem_cons_of_mem _ hy)
theorem aGi{scope:Scope}  (h:∀ y∈scope.names,y.2 = .free->∃ c,env.cells.lookup y.1=some c):closureFor scope env=pure (clo env.cells scope.names []):=by
 have q:=aA8 (env:=env) scope.names [] h
 unfold closureFor
 rw[<-q]
 simp only[pure_bind,bind_pure]
theorem aIv{cells:List (Str × Addr)}:∀ (names:List (Str × NameKind)) (acc:List (Str × Addr)) (x:Str) (c:Addr),(∀ y∈names,y.2 = .free->∃ c,cells.lookup y.1=some c)->(x,c)∈clo cells names acc->((x,NameKind.free)∈names/\cells.lookup x=some c)\/(x,c)∈acc
 | [],acc,x,c,_,h => .inr h
 | (n,k)::r,acc,x,c,hn,h=>by
  unfold clo at h
  have hr:∀ y∈r,y.2 = .free->∃ c,cells.lookup y.1=some c:=fun y hy=>hn y (mem_cons_of_mem _ hy)
  by_cases hk:k = .free
  ·subst hk
   rw[if_pos (by simp)]at h
   obtain⟨c',e⟩:=hn (n,.free) mem_cons_self rfl
   rcases aIv r _ x c hr h with ⟨h1,h2⟩ | h1
   ·exact .inl ⟨mem_cons_of_mem _ h1,h2⟩
   ·rcases List.mem_cons.mp h1 with h1 | h1
    ·cases h1
     refine .inl ⟨mem_cons_self,?_⟩
     have e':cells.lookup n=some c':=e
     rw[e'];rfl
    ·exact .inr h1
  ·rw[if_neg (by simpa using hk)]at h
   rcases aIv r _ x c hr h with ⟨h1,h2⟩ | h1
   ·exact .inl ⟨mem_cons_of_mem _ h1,h2⟩
   ·exact .inr h1
theorem aIw{cells:List (Str × Addr)}:∀ (names:List (Str × NameKind)) (acc:List (Str × Addr)) (x:Str),((x,NameKind.free)∈names\/∃ c,(x,c)∈acc)->∃ c,(x,c)∈clo cells names acc
 | [],acc,x,h=>by
  rcases h with h | h
  ·cases h
  ·exact h
 | (n,k)::r,acc,x,h=>by
  unfold clo
  by_cases hk:k = .free
  ·subst hk
   rw[if_pos (by simp)]
   refine aIw r _ x ?_
   rcases h with h | ⟨c,h⟩
   ·rcases List.mem_cons.mp h with h | h
    ·cases h;exact .inr ⟨_,mem_cons_self⟩
    ·exact .inl h
   ·exact .inr ⟨c,mem_cons_of_mem _ h⟩
  ·rw[if_neg (by simpa using hk)]
   refine aIw r _ x ?_
   rcases h with h | h
   ·rcases List.mem_cons.mp h with h | h
    ·cases h;exact absurd rfl hk
    ·exact .inl h
   ·exact .inr h
theorem rR{α:Type}:∀ {l:List (Str × α)} {x:Str} {c:α},(x,c)∈l->∃ c',l.lookup x=some c'
 | (n,v)::r,x,c,h=>by
  rw[lookup_cons]
  cases hb:x==n with
  | true=>exact⟨v,rfl⟩
  | false =>
   rcases List.mem_cons.mp h with h | h
   ·cases h;simp at hb
   ·exact rR h
theorem lW{env:Env}:∀ (names:List (Str × NameKind)) (x:Str),(names.map fun(n,k)=>if (k==NameKind.free&&env.scope.kind == .function&&env.kindOf n==some .cell) then (n,NameKind.cell) else (n,k)).lookup x =
  (names.lookup x).map fun k=>if (k==NameKind.free&&env.scope.kind == .function&&env.kindOf x==some .cell) then NameKind.cell else k
 | [],_=>rfl
 | (n,k)::r,x=>by
  have ih:=@lW env r x
  rw[map_cons,lookup_cons]
  show List.lookup x ((if (k==NameKind.free&&env.scope.kind == .function&&env.kindOf n==some .cell)=true then (n,NameKind.cell) else (n,k))::_)=_
  cases hx:x==n with
  | true =>
   have e:x=n:=beq_iff_eq.mp hx
   subst e
   by_cases hc:(k==NameKind.free&&env.scope.kind == .function&&env.kindOf x==some .cell)=true
   ·rw[if_pos hc,lookup_cons,lookup_cons,hx];simp only[map_some];rw[if_pos hc]
   ·rw[if_neg hc,lookup_cons,lookup_cons,hx];simp only[map_some];rw[if_neg hc]
  | false =>
   by_cases hc:(k==NameKind.free&&env.scope.kind == .function&&env.kindOf n==some .cell)=true
   ·rw[if_pos hc,lookup_cons,lookup_cons,hx];exact ih
   ·rw[if_neg hc,lookup_cons,lookup_cons,hx];exact ih
theorem nQ:∀ (names:List (Str × NameKind)) (n:Nat) (acc:List (Str × Addr)),cellsFrom n names acc=cellsFrom n names []++acc
 | [],_,_=>rfl
 | (x,k)::r,n,acc=>by
  unfold cellsFrom
  split
  ·rw[nQ r (n+1) ((x,n)::acc),nQ r (n+1) [(x,n)],List.append_assoc];rfl
  ·exact nQ r n acc
theorem uR:∀ (names:List (Str × NameKind)) (n:Nat) (acc:List (Str × Addr)) (x:Str) (c:Addr),(x,c)∈cellsFrom n names acc->(x,c)∈acc\/(x,NameKind.cell)∈names
 | [],_,_,_,_,h => .inl h
 | (y,k)::r,n,acc,x,c,h=>by
  unfold cellsFrom at h
  split at h
  ·rename_i hk
   rcases uR r _ _ x c h with z | z
   ·rcases List.mem_cons.mp z with z | z
    ·cases z;exact .inr (by rw[show k=NameKind.cell from by simpa using hk];exact mem_cons_self)
    ·exact .inl z
   ·exact .inr (mem_cons_of_mem _ z)
  ·rcases uR r _ _ x c h with z | z
   ·exact .inl z
   ·exact .inr (mem_cons_of_mem _ z)
theorem nR:∀ (names:List (Str × NameKind)) (n:Nat) (acc:List (Str × Addr)) (x:Str),((x,NameKind.cell)∈names\/∃ c,(x,c)∈acc)->∃ c,(x,c)∈cellsFrom n names acc
 | [],_,_,x,h=>h.elim (fun z=>nomatch z) id
 | (y,k)::r,n,acc,x,h=>by
  unfold cellsFrom
  split
  ·refine nR r _ _ x ?_
   rcases h with h | ⟨c,h⟩
   ·rcases List.mem_cons.mp h with h | h
    ·cases h;exact .inr ⟨n,mem_cons_self⟩
    ·exact .inl h
   ·exact .inr ⟨c,mem_cons_of_mem _ h⟩
  ·rename_i hk
   refine nR r _ _ x ?_
   rcases h with h | h
   ·rcases List.mem_cons.mp h with h | h
    ·cases h;exact absurd rfl hk
    ·exact .inl h
   ·exact .inr h
theorem aFn{α:Type}(x:Str):∀ (l r:List (Str × α)),(l++r).lookup x=(l.lookup x).or (r.lookup x)
 | [],r=>by simp
 | (y,v)::l,r=>by
  rw[cons_append,lookup_cons,lookup_cons]
  cases hb:x==y with
  | true=>rfl
  | false=>exact aFn x l r
theorem nU{α:Type}:∀ {l:List (Str × α)} {x:Str} {v:α},(l.map (·.1)).Nodup->(x,v)∈l->l.lookup x=some v
 | (y,w)::l,x,v,nd,h=>by
  rw[map_cons,List.nodup_cons]at nd
  rw[lookup_cons]
  rcases List.mem_cons.mp h with h | h
  ·cases h;simp
  ·have hne:(x==y)=false:=by
    rw[beq_eq_false_iff_ne]
    intro z
    exact nd.1 (List.mem_map.mpr ⟨(x,v),h,z⟩)
   rw[hne]
   exact nU nd.2 h
theorem aR2{A:Around}  {s:Shared} {scope:Scope} {gl:Addr} {cl:List (Str × Addr)}   {Q:Env->Shared->Prop}
  (hQ:∀ h',h'.Ns s.heap.objs.size (fun _=>none)->(∀ b o,s.heap.get? b=some o->h'.get? b=some o)->CellsOk h' (s.heap.objs.size+1) (cellsFrom (s.heap.objs.size+1) scope.names []) ->
   Q {scope:=scope,locals:=s.heap.objs.size,globals:=gl,cells:=cellsFrom (s.heap.objs.size+1) scope.names cl,qual:=qual,func:=none,code:=env.code,frame:=env.frame,builtins:=env.builtins} {s with heap:=h'}) :
  wpAny M A (newFunctionEnv scope gl cl [] qual none .none (some env)) Q E s:=by
 simp only[newFunctionEnv,Option.isSome_some,if_true]
 refine wpAny_bind (wpAny_alloc (wpAny_bind (wpAny_layCells _ (fun name kind cells=>by cases hkc:kind==NameKind.cell<;>simp[hkc]) _ _ _ _ ?_)))
 rw[forIn_nil]
 refine wpAny_bind (wpAny_pure (wpAny_pure ?_))
 have ok:=cellsFrom_ok scope.names (s.heap.push {cls := .type "dict", data := .dict #[] }) (s.heap.objs.size+1) [] ⟨fun _ _ hm=>(nomatch hm),List.Pairwise.nil⟩ (by rw[Heap.size_push];exact Nat.le_refl _)
 rw[Heap.size_push]at ok
 have e:({s with heap:=s.heap.push {cls := .type "dict", data := .dict #[] } }:Shared).heap.objs.size=s.heap.objs.size+1:=Heap.size_push ..
 rw[e]
 exact hQ _ ((Heap.Ns.new s.heap (.type "dict")).keeps (pushCells_keeps _ _)) (fun b o q=>pushCells_keeps _ _ b o (Heap.get?_push_of_some _ q)) ok
structure CScope(X:Cx)(scope:Scope)(is:List Nat):Prop where
 kind:scope.kind = .function
 nd:(scope.names.map (·.1)).Nodup
 free:∀ x∈scope.names,x.2 = .free->X.env.kindOf x.1=some .cell\/X.env.kindOf x.1=some .free
 own:∀ (i:Nat) x,X.N[i]?=some x->(scope.names.lookup x=some .local\/scope.names.lookup x=some .cell)->i∈is
section
variable{X:Cx}{scope:Scope}{is:List Nat}
theorem CScope.names(S:CScope X scope is):∀ x∈scope.names,x.2 = .local->scope.names.lookup x.1=some .local:=fun x hx e=>nU S.nd (by rw[<-e];exact hx)
def cM(X:Cx)(scope:Scope)(C:Addr)(s₀:Shared)(H₀:Hp)(fp:List Addr):Cx :=
 {X with s₀:=s₀,H₀:=H₀,env:=compEnvC scope (cellsFrom (C+1) scope.names (clo X.env.cells scope.names [])) C X.env,outer:=X.stack,stack:=X.stack,ex:=fp,fn:=fun x=>scope.names.lookup x==some .cell,pn:=[],xe:=fun _ _=>False,calm:=true}
theorem CScope.cells(S:CScope X scope is)(ok:X.Ok):∀ y∈scope.names,y.2 = .free->∃ c,X.env.cells.lookup y.1=some c:=fun y hy hf=>ok.has y.1 (S.free y hy hf)
theorem CScope.lk(S:CScope X scope is)(ok:X.Ok){n:Nat}{x:Str}{c:Addr}(h:(cellsFrom n scope.names (clo X.env.cells scope.names [])).lookup x=some c) :
  ((cellsFrom n scope.names []).lookup x=some c/\scope.names.lookup x=some .cell)\/(scope.names.lookup x=some .free/\X.env.cells.lookup x=some c):=by
 rw[nQ,aFn]at h
 cases e:(cellsFrom n scope.names []).lookup x with
 | some c' =>
  rw[e]at h
  cases h
  rcases uR _ _ _ _ _ (PySem.mem_of_lookup e) with z | z
  ·cases z
  ·exact .inl ⟨rfl,nU S.nd z⟩
 | none =>
  rw[e]at h
  have h:(clo X.env.cells scope.names []).lookup x=some c:=h
  rcases aIv scope.names [] x c (S.cells ok) (PySem.mem_of_lookup h) with ⟨h1,h2⟩ | h2
  ·exact .inr ⟨nU S.nd h1,h2⟩
  ·cases h2
def aKs(is:List Nat)(σ:LSt):LSt:=is.foldl (fun τ i=>τ.set i none) σ
theorem aKt(is:List Nat):∀ σ:LSt,(aKs is σ).length=σ.length:=by
 induction is with
 | nil=>exact fun _=>rfl
 | cons i is ih=>intro σ;show (aKs is (σ.set i none)).length=_;rw[ih,length_set]
theorem aUm(is:List Nat):∀ (σ:LSt) (j:Nat) (v:V),(aKs is σ)[j]?=some (some v)->σ[j]?=some (some v)/\j ∉ is:=by
 induction is with
 | nil=>exact fun σ j v h=>⟨h,by simp⟩
 | cons i is ih =>
  intro σ j v h
  obtain⟨h1,h2⟩:=ih (σ.set i none) j v h
  rw[List.getElem?_set]at h1
  by_cases e:i=j
  ·subst e
   rw[if_pos rfl]at h1
   split at h1<;>cases h1
  ·rw[if_neg e]at h1
   exact⟨h1,fun z=>(List.mem_cons.mp z).elim (fun z=>e z.symm) h2⟩
theorem aMx{s:Shared}{fp:List Addr}  {t':Nat} (S:CScope X scope is) (hc:X.calm=true) (I:Inv X pins σ H s) (hf:∀ b∈fp,aAo X pins H b) (hlt:∀ b∈fp,b<s.heap.objs.size)
  (hn:h'.Ns s.heap.objs.size fun _=>none) (hk:∀ b o,s.heap.get? b=some o->h'.get? b=some o) (hcl:CellsOk h' (s.heap.objs.size+1) (cellsFrom (s.heap.objs.size+1) scope.names [])) :
  Inv (cM X scope s.heap.objs.size s H fp) [] (aKs is σ) H {s with heap:=h',toks:=t'}:=by
 have lk:=@CScope.lk X scope is S I.ok (s.heap.objs.size+1)
 have nf:∀ b∈fp,b≠s.heap.objs.size:=fun b hb=>Nat.ne_of_lt (hlt b hb)
 have cellLt:∀ x c,X.env.cells.lookup x=some c->c<s.heap.objs.size:=fun x c e=>by
  obtain⟨v,q⟩:=I.cell x c e
  exact q.lt
 have ownGe:∀ x c,(cellsFrom (s.heap.objs.size+1) scope.names []).lookup x=some c->s.heap.objs.size+1<=c:=fun x c e=>(hcl.empty x c (PySem.mem_of_lookup e)).2
 have has:∀ x k,(k = .cell\/k = .free)->scope.names.lookup x=some k->∃ c,(cellsFrom (s.heap.objs.size+1) scope.names (clo X.env.cells scope.names [])).lookup x=some c:=fun x k hk e=>by
  have hm:=PySem.mem_of_lookup e
  rcases hk with rfl | rfl
  ·obtain⟨c,q⟩:=nR scope.names (s.heap.objs.size+1) (clo X.env.cells scope.names []) x (.inl hm)
   exact rR q
  ·obtain⟨c,q⟩:=nR scope.names (s.heap.objs.size+1) (clo X.env.cells scope.names []) x (.inr (aIw (cells:=X.env.cells) scope.names [] x (.inl hm)))
   exact rR q
 have knd:∀ x,(relabel scope X.env).names.lookup x=some .cell\/(relabel scope X.env).names.lookup x=some .free->scope.names.lookup x=some .cell\/scope.names.lookup x=some .free:=fun x hx=>by
  unfold relabel at hx
  rw[lW]at hx
  cases e:scope.names.lookup x with
  | none=>rw[e]at hx;rcases hx with hx | hx<;>cases hx
  | some k =>
   rw[e]at hx
   simp only[map_some]at hx
   by_cases hc:(k==NameKind.free&&X.env.scope.kind == .function&&X.env.kindOf x==some .cell)=true
   ·simp only[and_eq_true,beq_iff_eq]at hc
    exact .inr (by rw[hc.1.1])
   ·rw[if_neg hc]at hx;exact hx
 refine⟨⟨I.ok.mod,?_,I.ok.glob,I.ok.blt,Nat.le_refl _,fun x y c h1 h2=>?_,fun x hx=>?_,fun x c hfn e=>?_,fun _=>I.ok.hd hc,I.ok.frames,.inl rfl,fun b hb=>⟨nf b hb,fun x c e z=>?_⟩,I.bs,?_,fun b o e hb=>?_,fun b hb z=>?_,I.stack,I.stkFree⟩,
  rfl,I.bare,Un.kept hk,⟨_,hn,fun i x v e1 e2 e3=>?_⟩,fun x c e=>?_,I.hok.fresh (Nat.le_refl _),fun x c e=>?_,(fun p hp=>absurd (show p∈([]:List (Addr × Obj)) from hp) (by simp)),I.hok.kept hk,by rw[aKt];exact I.len⟩
 ·show (relabel scope X.env).kind = .function
  exact S.kind
 ·rcases lk h1 with ⟨a1,_⟩ | ⟨_,a1⟩ <;> rcases lk h2 with ⟨a2,_⟩ | ⟨_,a2⟩
  ·exact name_of_addr hcl.apart (PySem.mem_of_lookup a1) (PySem.mem_of_lookup a2)
  ·exact absurd (Nat.lt_of_lt_of_le (cellLt y c a2) (Nat.le_of_succ_le (ownGe x c a1))) (Nat.lt_irrefl _)
  ·exact absurd (Nat.lt_of_lt_of_le (cellLt x c a1) (Nat.le_of_succ_le (ownGe y c a2))) (Nat.lt_irrefl _)
  ·exact I.ok.inj x y c a1 a2
 ·rcases knd x hx with e | e
  ·exact has x _ (.inl rfl) e
  ·exact has x _ (.inr rfl) e
 ·have hfn:scope.names.lookup x=some .cell:=beq_iff_eq.mp hfn
  rcases lk e with ⟨a1,_⟩ | ⟨a1,_⟩
  ·have:=ownGe x c a1
   show s.heap.objs.size<=c
   omega
  ·rw[hfn]at a1;cases a1
 ·rcases lk e with ⟨a1,_⟩ | ⟨_,a1⟩
  ·have h2:=hlt b hb
   rw[<-z]at h2
   exact absurd (Nat.lt_of_lt_of_le h2 (Nat.le_of_succ_le (ownGe x c a1))) (Nat.lt_irrefl _)
  ·exact(hf b hb).2.2.2.2.1 x c a1 z
 ·exact Nat.le_trans I.ok.bsz I.sz
 ·rcases (hf b hb).2.2.2.1 with z | z
  ·exact I.ok.noex b o e z
  ·exact absurd (Nat.lt_of_lt_of_le (Heap.lt_size e) (Nat.le_trans I.ok.bsz z)) (Nat.lt_irrefl _)
 ·rcases List.mem_cons.mp (I.stkSub b z) with z | z
  ·exact(hf b hb).2.1 z
  ·exact(hf b hb).2.2.1 z
 ·obtain⟨e2,hni⟩:=aUm is σ i v e2
  have e3:(relabel scope X.env).names.lookup x=some .local\/(relabel scope X.env).names.lookup x=some .cell\/(relabel scope X.env).names.lookup x=some .free:=e3
  have hfr:scope.names.lookup x=some .free:=by
   have e4:=e3
   unfold relabel at e4
   rw[lW]at e4
   cases e:scope.names.lookup x with
   | none=>rw[e]at e4;rcases e4 with e4 | e4 | e4<;>cases e4
   | some k =>
    rw[e]at e4
    simp only[map_some]at e4
    by_cases hc:(k==NameKind.free&&X.env.scope.kind == .function&&X.env.kindOf x==some .cell)=true
    ·simp only[and_eq_true,beq_iff_eq]at hc
     rw[hc.1.1]
    ·rw[if_neg hc]at e4
     rcases e4 with e4 | e4 | e4
     ·exact absurd (S.own i x e1 (.inl (by rw[e,e4]))) hni
     ·exact absurd (S.own i x e1 (.inr (by rw[e,e4]))) hni
     ·exact e4
  have hrel:(relabel scope X.env).names.lookup x=some .cell\/(relabel scope X.env).names.lookup x=some .free:=by
   rcases e3 with e3 | e3 | e3
   ·unfold relabel at e3
    rw[lW,hfr]at e3
    simp only[map_some]at e3
    split at e3<;>cases e3
   ·exact .inl e3
   ·exact .inr e3
  have hvis:=S.free _ (PySem.mem_of_lookup hfr) rfl
  obtain⟨m,hm,hl⟩:=I.loc
  obtain⟨u,ru,lu⟩:=hl i x v e1 e2 (.inr hvis)
  refine⟨u,ru,.inr ⟨hrel,?_⟩⟩
  rcases lu with ⟨k1,_⟩ | ⟨_,c,ec,zc⟩
  ·have k1:X.env.kindOf x=some .local:=k1
   rcases hvis with q | q<;>rw[k1]at q<;>cases q
  ·obtain⟨c2,e5⟩:=has x _ (.inr rfl) hfr
   rcases lk e5 with ⟨_,a1⟩ | ⟨_,a1⟩
   ·rw[hfr]at a1;cases a1
   ·rw[ec]at a1
    cases a1
    exact⟨c,e5,zc.keeps hk⟩
 ·rcases lk e with ⟨a1,_⟩ | ⟨_,a1⟩
  ·exact⟨_,(hcl.empty x c (PySem.mem_of_lookup a1)).1⟩
  ·obtain⟨v,q⟩:=I.cell x c a1
   exact⟨v,q.keeps hk⟩
 ·rcases lk e with ⟨a1,_⟩ | ⟨_,a1⟩
  ·exact I.hok.fresh (by have:=ownGe x c a1;omega)
  ·exact I.freeC x c a1
end
theorem aFo(elt target iter c:Expr)(scope:Scope)(pos:Pos)(it acc:Value)(env:Env) :
  compTurn (.ListComp elt [⟨target,iter,[c],0⟩] scope pos) 0 it acc env=(standAt iter.pos >>= fun _=>pyNext it >>= fun r=>match r with
   | none=>pure (.done .next)
   | some v=>letOwnedTupleGo target it v >>= fun _=>assign target env v >>= fun _=>isTrue c env (eval c env) >>= fun ok =>
    if ok=true then (eval elt env >>= fun x=>call (.builtin "list.append") [acc,x] >>= fun _=>again (.compLoop (.ListComp elt [⟨target,iter,[c],0⟩] scope pos) 0 it acc env))
    else again (.compLoop (.ListComp elt [⟨target,iter,[c],0⟩] scope pos) 0 it acc env)):=by
 unfold compTurn
 simp[forIn_cons,forIn_nil]
 rfl
theorem aDm(elt target iter:Expr)(scope:Scope)(pos:Pos)(it acc:Value)(env:Env) :
  compTurn (.ListComp elt [⟨target,iter,[],0⟩] scope pos) 0 it acc env=(standAt iter.pos >>= fun _=>pyNext it >>= fun r=>match r with
   | none=>pure (.done .next)
   | some v=>letOwnedTupleGo target it v >>= fun _=>assign target env v >>= fun _ =>
    (eval elt env >>= fun x=>call (.builtin "list.append") [acc,x] >>= fun _=>again (.compLoop (.ListComp elt [⟨target,iter,[],0⟩] scope pos) 0 it acc env))):=by
 unfold compTurn
 simp[forIn_nil]
 rfl
section
variable{X:Cx}{scope:Scope}{is:List Nat}{elt tg iter:Expr}{pos:Pos}{wi:TI}{g:TG}{te:TE}{tt:TT}
def tLC(is:List Nat)(wi:TI)(g:TG)(tt:TT)(te:TE):TE:=fun σ H Q=>wi σ H fun J H1=>∀ p,H1 p=none->∃ W:Nat->Nat->LSt->List V->Hp->Prop,(∃ m,W 0 m (aKs is σ) [] (upd H1 p (.lst []))) /\
 ∀ i m τ vs H,W i m τ vs H->H p=some (.lst vs)/\((J.stop i H/\Q (.ref p) H)\/(J.go i H/\∀ x H',J.yld i H x H'->g x τ H' fun τ2 H2=>tt τ2 H2 fun k H3 =>
  if k=true then te τ2 H3 fun y H4=>H4 p=some (.lst vs)/\vs.length<sizeLine/\∃ m',m' < m/\W (i+1) m' τ2 (vs++[y]) (upd H4 p (.lst (vs++[y]))) else ∃ m',m' < m/\W (i+1) m' τ2 vs H3))
theorem aDz{σ5:LSt}{H5:Hp}{s5:Shared}{fp:List Addr}   (I:Inv X pins σ H s) (hf:∀ b∈fp,aAo X pins H b) (hC:s.heap.objs.size<=C) (J:Inv (cM X scope C s H fp) [] σ5 H5 s5)
  (hs:Heap.SameBut C s5.heap h'):Inv X pins σ H5 {s5 with heap:=h'}:=by
 have hfree:H5 C=none:=J.free
 have ne:∀ b o,s.heap.get? b=some o->b≠C:=fun b o e z=>by
  have:=Heap.lt_size e
  subst z
  exact absurd (Nat.lt_of_lt_of_le this hC) (Nat.lt_irrefl _)
 have u:Un (frs X.stack) fp H H5 s.heap h':=⟨fun b o e n hb hx=>hs.extBut b o (ne b o e) (J.base.keep b o e n hb hx),fun b o e n hb hx=>by
   obtain⟨sl,q⟩:=J.base.slot b o e n hb hx
   exact⟨sl,hs.extBut b _ (ne b o e) q⟩,J.base.free,fun b o e hx=>by
   obtain⟨o',q⟩:=J.base.there b o e hx
   exact⟨o',hs.extBut b _ (ne b o e) q⟩,J.base.tups,J.base.frzs,J.base.tbls⟩
 have hok:HOk X.prog X.w H5 h':=fun b o e=>by
  refine(J.hok b o e).stay (fun c v hc q=>hs.extBut c v ?_ q) (fun _ q=>q) fun _ _ q=>q
  rintro rfl
  rcases hc with z | z
  ·subst z;rw[hfree]at e;cases e
  ·rw[hfree]at z;cases z
 obtain⟨hh,gg,dd,tt,os⟩:=s5
 have hos:os=s.os:=J.os
 subst hos
 have fin:=I.call (h':=h') (g':=gg) (d':=dd) (t':=tt) (ch:=fp) u hok J.bare fun b hb=>⟨(hf b hb).2.2.2.1,(hf b hb).2.1,(hf b hb).2.2.2.2.1,(hf b hb).2.2.2.2.2⟩
 exact fin
theorem aHh{p:Addr}   {k:Sem α} {Q:α->Shared->Prop}  (he:PE Y elt te) (hx:∀ e s',Y.xe e s'->E e s') (I:Inv Y pins τ H s) (hw:te τ H fun y H4=>H4 p=some (.lst vs)/\vs.length<sizeLine/\∀ s',Inv Y pins τ (upd H4 p (.lst (vs++[y]))) s'->wpAny (model Y.prog Y.w) Y.A k Q E s') :
  wpAny (model Y.prog Y.w) Y.A (eval elt Y.env >>= fun x=>call (.builtin "list.append") [.ref p,x] >>= fun _=>k) Q E s:=by
 refine wpAny_bind (wpAny_mono (he pins s τ H _ I hw) (fun u s1 ⟨y,H4,I4,r4,hp,hz,q⟩=>?_) hx)
 obtain⟨z,its,n,r,hl,e⟩:=I4.lstM hp
 refine wpAny_bind (call_meets PySem.F.slot_list_append ⟨_,e,rfl⟩ PySem.F.entry_list_append (PySem.F.args_list_append_2 _ _) (PySem.list_append p its.toArray n u (by rw[List.size_toArray];omega)) ⟨e,?_⟩)
 refine q _ (I4.lset (its':=its++[u]) (t':=s1.toks) hp e (by simp) (r.append (.cons r4 .nil)) ?_)
 rw[length_append,length_singleton]
 omega
end
theorem aR3{env:Env}{g:TG}   {it p:Addr} {fp:List Addr} {tn:Nat->Heap->Prop} {J:It} {R:Result->Shared->Prop} {iterPos:Pos} {rest:Sem Fin}
  (T:Turn Y.prog Y.w Y.K tg J fp it tn) (hc:Y.calm=true) (hE:Y.xe=fun _ _=>False) (hg:PG Y tg g) (hq:(Code.compLoop e 0 (.ref it) (.ref p) Y.env).quiet=true)
  (hden:∀ (s:Shared) (Q:Fin->Shared->Prop),wpAny (model Y.prog Y.w) Y.A (pyNext (.ref it) >>= fun r=>match r with
    | none=>pure (.done .next)
    | some v=>letOwnedTupleGo tg (.ref it) v >>= fun _=>assign tg Y.env v >>= fun _=>rest) Q (fun _ _=>False) s ->
   wpAny (model Y.prog Y.w) (Y.A.under (.compLoop e 0 (.ref it) (.ref p) Y.env)) ((model Y.prog Y.w).den (.compLoop e 0 (.ref it) (.ref p) Y.env)) Q (fun _ _=>False) s)
  (hrest:∀ (τ:LSt) (H:Hp) (s:Shared) (pins:List (Addr × Obj)) (vs:List V) (N:Hp->List V->Prop) (Q:Fin->Shared->Prop),Inv Y pins τ H s ->
   (tt τ H fun k H3=>if k=true then te τ H3 fun y H4=>H4 p=some (.lst vs)/\vs.length<sizeLine/\N (upd H4 p (.lst (vs++[y]))) (vs++[y]) else N H3 vs) ->
   (∀ s' H' ws,Inv Y pins τ H' s'->N H' ws->Q (.again (.compLoop e 0 (.ref it) (.ref p) Y.env)) s')->wpAny (model Y.prog Y.w) Y.A rest Q (fun _ _=>False) s)
  (W:Nat->Nat->LSt->List V->Hp->Prop) {Qe:Hp->Prop}
  (step:∀ i m τ vs H,W i m τ vs H->H p=some (.lst vs)/\((J.stop i H/\Qe H)\/(J.go i H/\∀ x H',J.yld i H x H'->g x τ H' fun τ2 H2=>tt τ2 H2 fun k H3 =>
   if k=true then te τ2 H3 fun y H4=>H4 p=some (.lst vs)/\vs.length<sizeLine/\∃ m',m' < m/\W (i+1) m' τ2 (vs++[y]) (upd H4 p (.lst (vs++[y]))) else ∃ m',m' < m/\W (i+1) m' τ2 vs H3)))
  (hR:∀ τ H s,Inv Y [] τ H s->Qe H->R (.ok .next) s)      (I:Inv Y [] τ H s) (st:tn i s.heap) (fr:∀ b∈fp,aAo Y [] H b) (w:W i m τ vs H) :
  codeAny (model Y.prog Y.w) Y.A (.compLoop e 0 (.ref it) (.ref p) Y.env) R s:=by
 have stat:∀ {H':Hp},(∀ b∈fp,H' b=none)->∀ b∈fp,aAo Y [] H' b:=fun hn b hb=>⟨hn b hb,(fr b hb).2⟩
 refine codeAny_loop hq (fun n s'=>∃ i τ' vs' H',Inv Y [] τ' H' s'/\tn i s'.heap/\(∀ b∈fp,H' b=none)/\W i n τ' vs' H') (fun n s3 hI=>?_) m ⟨i,τ,vs,H,I,st,fun b hb=>(fr b hb).1,w⟩
 obtain⟨i,τ3,vs3,H3,I3,st3,fr3,w3⟩:=hI
 refine wpAny_mono (hden s3 _ ?_) (fun _ _ q=>q) (fun _ _ q=>q.elim)
 obtain⟨hp,hs⟩:=step i n τ3 vs3 H3 w3
 rcases hs with ⟨stop,qe⟩ | ⟨go,hs⟩
 ·refine wpAny_bind (thn (T.done Y rfl rfl rfl hc i [] s3 τ3 H3 (fun _ _=>False) I3 (stat fr3) st3 stop) fun r s4 ⟨hr,I4⟩=>?_)
  subst hr
  exact wpAny_pure (hR τ3 H3 s4 I4 qe)
 ·refine wpAny_bind (thn (T.item Y rfl rfl rfl hc i [] s3 τ3 H3 (fun _ _=>False) I3 (stat fr3) st3 go) fun r s4 ⟨u,hr,h4⟩=>?_)
  subst hr
  refine wpAny_bind (thn h4 fun _ s5 ⟨x,H5,I5,r5,y5,st5,fr5⟩=>?_)
  have I5':=I5.pinned (stat fr5) (T.obj _ _ st5)
  have hg':=hg _ s5 τ3 H5 x u _ I5' r5 (hs x H5 y5)
  rw[hE]at hg'
  refine wpAny_bind (thn hg' fun _ s6 ⟨τ6,H6,I6,q6⟩=>?_)
  refine hrest τ6 H6 s6 _ vs3 (fun H' ws=>∃ m',m' < n/\W (i+1) m' τ6 ws H') _ I6 q6 fun s7 H7 ws I7 ⟨m',hm,w7⟩=>?_
  refine⟨rfl,m',hm,i+1,τ6,ws,H7,I7.unpinned,T.keep _ _ _ st5 fun b hb o e=>(I7.pin (b,o) (List.mem_append_right _ (List.mem_append_right _ (tX hb e)))).1,fun b hb=>?_,w7⟩
  obtain⟨o,e,d⟩:=T.obj _ _ st5 b hb
  exact(I7.pin (b,o) (List.mem_append_right _ (List.mem_append_right _ (tX hb e)))).2.1
section
variable{X:Cx}{scope:Scope}{is:List Nat}{elt tg iter c:Expr}{pos:Pos}{wi:TI}{g:TG}{te:TE}{tt:TT}
theorem tE{use:Option (Value->Sem Unit)}  {ppos:Pos} {pins:List (Addr × Obj)} {s:Shared}  {H:Hp} {Q:VK} {ifs:List Expr} {rest:Env->Value->Value->Sem Fin} (S:CScope X scope is) (hc:X.calm=true) (hi:L2.PI X tg iter wi) (hg:∀ C s₀ H₀ fp,PG (cM X scope C s₀ H₀ fp) tg g)
  (hquiet:∀ it acc env,(Code.compLoop (.ListComp elt [⟨tg,iter,ifs,0⟩] scope pos) 0 it acc env).quiet=true)
  (hden:∀ C s₀ H₀ fp it p (s:Shared) (Q:Fin->Shared->Prop),wpAny (model X.prog X.w) X.A (pyNext (.ref it) >>= fun r=>match r with
    | none=>pure (.done .next)
    | some v=>letOwnedTupleGo tg (.ref it) v >>= fun _=>assign tg (cM X scope C s₀ H₀ fp).env v >>= fun _=>rest (cM X scope C s₀ H₀ fp).env (.ref it) (.ref p)) Q (fun _ _=>False) s ->
   wpAny (model X.prog X.w) (X.A.under (.compLoop (.ListComp elt [⟨tg,iter,ifs,0⟩] scope pos) 0 (.ref it) (.ref p) (cM X scope C s₀ H₀ fp).env)) ((model X.prog X.w).den (.compLoop (.ListComp elt [⟨tg,iter,ifs,0⟩] scope pos) 0 (.ref it) (.ref p) (cM X scope C s₀ H₀ fp).env)) Q (fun _ _=>False) s)
  (hrest:∀ C s₀ H₀ fp it p (τ:LSt) (H:Hp) (s:Shared) (pins:List (Addr × Obj)) (vs:List V) (N:Hp->List V->Prop) (Q:Fin->Shared->Prop),Inv (cM X scope C s₀ H₀ fp) pins τ H s ->
   (tt τ H fun k H3=>if k=true then te τ H3 fun y H4=>H4 p=some (.lst vs)/\vs.length<sizeLine/\N (upd H4 p (.lst (vs++[y]))) (vs++[y]) else N H3 vs) ->
   (∀ s' H' ws,Inv (cM X scope C s₀ H₀ fp) pins τ H' s'->N H' ws->Q (.again (.compLoop (.ListComp elt [⟨tg,iter,ifs,0⟩] scope pos) 0 (.ref it) (.ref p) (cM X scope C s₀ H₀ fp).env)) s') ->
   wpAny (model X.prog X.w) X.A (rest (cM X scope C s₀ H₀ fp).env (.ref it) (.ref p)) Q (fun _ _=>False) s)
  (hs:∀ x,foldedSetIterable iter X.env x=pure x) (I:Inv X pins σ H s) (h:tLC is wi g tt te σ H Q)
  (hfin:∀ C p H5 s5 m5 s3 H3 fp τ,s3.heap.objs.size<=C->Inv X pins σ H3 s3->(∀ b∈fp,aAo X pins H3 b)->Inv (cM X scope C s3 H3 fp) [] τ H5 s5->s5.heap.Ns C m5->Q (.ref p) H5->compPost (model X.prog X.w) X.A X.xe use Qf (.ref p) C (.ok .next) s5) :
  wpAny (model X.prog X.w) X.A (comprehension (.ListComp elt [⟨tg,iter,ifs,0⟩] scope pos) scope X.env ppos (newList []) false (eval iter X.env) use) Qf X.xe s:=by
 refine wpAny_comprehension_free (use:=use) rfl hs (aGi (S.cells I.ok)) S.kind S.names ?_
 refine thn (hi pins s σ H _ I h) fun v s1 h1=>thn h1 fun itv s2 h2=>?_
 obtain⟨it,fp,tn,J,H2,e,I2,T,st2,f2,hW⟩:=h2
 subst e
 refine wpAny_newObj_type (aR2 fun h₁ hns₁ hkp hcl₁=>?_)
 have I3:Inv X pins σ (upd H2 s2.heap.objs.size (.lst [])) {s2 with heap:=s2.heap.push {cls := .type "list", data := .seq ([]:List Value).toArray} }:=I2.lnew (t':=s2.toks) .nil (zero_le _)
 obtain⟨W,⟨m,w0⟩,step⟩:=hW s2.heap.objs.size I2.fresh
 have hob:∀ b∈fp,b<s2.heap.objs.size:=fun b hb=>let ⟨o,e,_⟩:=T.obj 0 _ st2 b hb;Heap.lt_size e
 have hfp:∀ b∈fp,aAo X pins (upd H2 s2.heap.objs.size (.lst [])) b:=fun b hb=>⟨by rw[bQ (Nat.ne_of_lt (hob b hb))];exact(f2 b hb).1,(f2 b hb).2⟩
 have hk:∀ b o,(s2.heap.push {cls := .type "list", data := .seq ([]:List Value).toArray}).get? b=some o->h₁.get? b=some o:=hkp
 have Ic:=aMx (t':=s2.toks) S hc I3 hfp (fun b hb=>Nat.lt_of_lt_of_le (hob b hb) (by rw[Heap.size_push];exact le_succ _)) hns₁ hk hcl₁
 have st4:tn 0 h₁:=T.keep 0 _ _ st2 fun b _ o e=>hk b o (Heap.get?_push_of_some _ e)
 have fr4:∀ b∈fp,aAo (cM X scope _ _ _ fp) [] (upd H2 s2.heap.objs.size (.lst [])) b:=fun b hb=>⟨(hfp b hb).1,(Ic.ok.exf b hb).1,Ic.ok.exfs b hb,.inl hb,fun x c e=>(Ic.ok.exf b hb).2 x c e,fun p hp=>absurd (show p∈([]:List (Addr × Obj)) from hp) (by simp)⟩
 have loop:=aR3 (Y:=cM X scope _ _ _ fp) (e := .ListComp elt [⟨tg,iter,ifs,0⟩] scope pos) (env:=X.env) (iterPos:=pos) T rfl rfl (hg _ _ _ fp) (hquiet _ _ _) (hden _ _ _ fp it s2.heap.objs.size) (hrest _ _ _ fp it s2.heap.objs.size) W step
  (R:=compPost (model X.prog X.w) X.A X.xe use Qf (.ref s2.heap.objs.size) (s2.heap.push {cls := .type "list", data := .seq ([]:List Value).toArray}).objs.size) (fun τ H5 s5 I5 q5=>by
   obtain⟨m5,hn5,_⟩:=I5.loc
   exact hfin _ _ H5 s5 m5 _ _ fp τ (Nat.le_refl _) I3 hfp I5 hn5 q5) Ic st4 fr4 w0
 exact codeAny_compStart_list loop (T.self _ 0 _ _ _ st4 loop)
theorem pX{it acc:Value}  : (Code.compLoop e 0 it acc env).quiet=true:=rfl
theorem bEt {it p : Addr}  {Q : Fin -> Shared -> Prop} (h : wpAny (model X.prog X.w) X.A (pyNext (.ref it) >>= fun r => match r with
        | none=>pure (.done .next)
        | some v=>letOwnedTupleGo tg (.ref it) v >>= fun _=>assign tg Y.env v >>= fun _=>(eval elt Y.env >>= fun x=>call (.builtin "list.append") [.ref p,x] >>= fun _=>again (.compLoop (.ListComp elt [⟨tg,iter,[],0⟩] scope pos) 0 (.ref it) (.ref p) Y.env))) Q (fun _ _=>False) s) :
      wpAny (model X.prog X.w) (X.A.under (.compLoop (.ListComp elt [⟨tg,iter,[],0⟩] scope pos) 0 (.ref it) (.ref p) Y.env)) ((model X.prog X.w).den (.compLoop (.ListComp elt [⟨tg,iter,[],0⟩] scope pos) 0 (.ref it) (.ref p) Y.env)) Q (fun _ _=>False) s:=by
 show wpAny _ _ ((compTurn (.ListComp elt [⟨tg,iter,[],0⟩] scope pos) 0 (.ref it) (.ref p) Y.env).onRaise (fun x=>do noteFrame x Y.env;theTreesLotGoes x)) _ _ s
 refine wpAny_noted ?_
 rw[aDm]
 exact wpAny_bind (wpAny_standAt (wpAny_mono h (fun _ _ q=>q) fun _ _ q=>q.elim))
theorem bBj {it p : Addr}  {Q : Fin -> Shared -> Prop} (h : wpAny (model X.prog X.w) X.A (pyNext (.ref it) >>= fun r => match r with
        | none=>pure (.done .next)
        | some v=>letOwnedTupleGo tg (.ref it) v >>= fun _=>assign tg Y.env v >>= fun _=>(isTrue c Y.env (eval c Y.env) >>= fun ok=>if ok=true then (eval elt Y.env >>= fun x=>call (.builtin "list.append") [.ref p,x] >>= fun _=>again (.compLoop (.ListComp elt [⟨tg,iter,[c],0⟩] scope pos) 0 (.ref it) (.ref p) Y.env))
          else again (.compLoop (.ListComp elt [⟨tg,iter,[c],0⟩] scope pos) 0 (.ref it) (.ref p) Y.env))) Q (fun _ _=>False) s) :
      wpAny (model X.prog X.w) (X.A.under (.compLoop (.ListComp elt [⟨tg,iter,[c],0⟩] scope pos) 0 (.ref it) (.ref p) Y.env)) ((model X.prog X.w).den (.compLoop (.ListComp elt [⟨tg,iter,[c],0⟩] scope pos) 0 (.ref it) (.ref p) Y.env)) Q (fun _ _=>False) s:=by
 show wpAny _ _ ((compTurn (.ListComp elt [⟨tg,iter,[c],0⟩] scope pos) 0 (.ref it) (.ref p) Y.env).onRaise (fun x=>do noteFrame x Y.env;theTreesLotGoes x)) _ _ s
 refine wpAny_noted ?_
 rw[aFo]
 exact wpAny_bind (wpAny_standAt (wpAny_mono h (fun _ _ q=>q) fun _ _ q=>q.elim))
def aIx:TT:=fun _ H Q=>Q true H
theorem aZ5(hY:Y.xe=fun _ _=>False)(he:PE Y elt te){it p:Addr}(τ:LSt)(H:Hp)(s:Shared)(pins:List (Addr × Obj))(vs:List V)(N:Hp->List V->Prop)(Q:Fin->Shared->Prop)(I:Inv Y pins τ H s)
  (h:aIx τ H fun k H3=>if k=true then te τ H3 fun y H4=>H4 p=some (.lst vs)/\vs.length<sizeLine/\N (upd H4 p (.lst (vs++[y]))) (vs++[y]) else N H3 vs)
  (mono:∀ (Q Q':VK),(∀ v H',Q v H'->Q' v H')->te τ H Q->te τ H Q')
  (q:∀ s' H' ws,Inv Y pins τ H' s'->N H' ws->Q (.again (.compLoop (.ListComp elt [⟨tg,iter,[],0⟩] scope pos) 0 (.ref it) (.ref p) Y.env)) s') :
  wpAny (model Y.prog Y.w) Y.A (eval elt Y.env >>= fun x=>call (.builtin "list.append") [.ref p,x] >>= fun _=>again (.compLoop (.ListComp elt [⟨tg,iter,[],0⟩] scope pos) 0 (.ref it) (.ref p) Y.env)) Q (fun _ _=>False) s:=by
 have h':te τ H fun y H4=>H4 p=some (.lst vs)/\vs.length<sizeLine/\N (upd H4 p (.lst (vs++[y]))) (vs++[y]):=h
 exact aHh he (by rw[hY];exact fun _ _ z=>z) I (mono _ _ (fun y H4 ⟨a,b,n⟩=>⟨a,b,fun s' I'=>wpAny_pure (q s' _ _ I' n)⟩) h')
end
section
variable{K:Frag}   {st:PSt} 
theorem aXm(is:List Nat):∀ st:PSt,(clr is st).length=st.length:=by
 induction is with
 | nil=>exact fun _=>rfl
 | cons i is ih=>intro st;show (clr is (st.set i none)).length=_;rw[ih,length_set]
theorem aE0(is:List Nat):∀ (st:PSt) (j:Nat) (x:Sl),(clr is st)[j]?=some (some x)->st[j]?=some (some x)/\j ∉ is:=by
 induction is with
 | nil=>exact fun σ j v h=>⟨h,by simp⟩
 | cons i is ih =>
  intro σ j v h
  obtain⟨h1,h2⟩:=ih (σ.set i none) j v h
  rw[List.getElem?_set]at h1
  by_cases e:i=j
  ·subst e
   rw[if_pos rfl]at h1
   split at h1<;>cases h1
  ·rw[if_neg e]at h1
   exact⟨h1,fun z=>(List.mem_cons.mp z).elim (fun z=>e z.symm) h2⟩
theorem aFp(is:List Nat):∀ (σ:LSt) (j:Nat),j ∉ is->(aKs is σ)[j]?=σ[j]?:=by
 induction is with
 | nil=>exact fun σ j _=>rfl
 | cons i is ih =>
  intro σ j h
  show (aKs is (σ.set i none))[j]?=_
  rw[ih _ j fun z=>h (mem_cons_of_mem _ z),List.getElem?_set,if_neg (show ¬ i=j from fun z=>h (z ▸ mem_cons_self))]
theorem RS.clr(is:List Nat)(r:RS K B A H st σ):RS K B A H (Pu.clr is st) (aKs is σ) where
 len:=by rw[aXm,aKt,r.len]
 own:=r.own
 dis:=r.dis
 val:=fun i d e=>by
  obtain⟨e1,h⟩:=aE0 is st i _ e
  rw[aFp is σ i h]
  exact r.val i d e1
 lst:=fun i kk xs e=>by
  obtain⟨e1,h⟩:=aE0 is st i _ e
  obtain⟨a,o,vs,e2,m,h1,ko,q,u⟩:=r.lst i kk xs e1
  refine⟨a,o,vs,by rw[aFp is σ i h];exact e2,m,h1,ko,q,fun j k' ys ej ej2=>?_⟩
  obtain⟨e3,h3⟩:=aE0 is st j _ ej
  rw[aFp is σ j h3]at ej2
  exact u j k' ys e3 ej2
theorem RS.weaken(r:RS K B A H st σ)(hl:st'.length=st.length)(h:∀ (j:Nat) (x:Sl),st'[j]?=some (some x)->st[j]?=some (some x)):RS K B A H st' σ where
 len:=hl.trans r.len
 own:=r.own
 dis:=r.dis
 val:=fun i d e=>r.val i d (h i _ e)
 lst:=fun i kk xs e=>by
  obtain⟨a,o,vs,e2,m,h1,ko,q,u⟩:=r.lst i kk xs (h i _ e)
  exact⟨a,o,vs,e2,m,h1,ko,q,fun j k' ys ej ej2=>u j k' ys (h j _ ej) ej2⟩
theorem mem_mid{p b:Addr}:b∈A++p::B ↔ b=p\/b∈A++B:=by
 simp only[List.mem_append,mem_cons]
 constructor
 ·rintro(h | h | h)
  ·exact .inr (.inl h)
  ·exact .inl h
  ·exact .inr (.inr h)
 ·rintro(h | h | h)
  ·exact .inr (.inl h)
  ·exact .inl h
  ·exact .inr (.inr h)
theorem aKu{p:Addr}  (hp:H p=none):bA (hide (A++B) H) (hide (A++p::B) (upd H p o)):=fun b u q=>by
 have q1:=bH _ _ _ _ q
 have hb:b ∉ A++B:=fun z=>by rw[eN z]at q;cases q
 have ne:b≠p:=bC q1 hp
 rw[bV (show b ∉ A++p::B from fun z=>(mem_mid.mp z).elim ne hb),bQ ne]
 exact q1
theorem RS.grow(r:RS K B A H st σ){p:Addr}  (hp:H p=none):RS K (p::B) A (upd H p (.lst vs)) st σ where
 len:=r.len
 own:=fun a ha=>by
  by_cases e:a=p
  ·subst e;rw[cH];rfl
  ·rw[bQ e];exact r.own a ((mem_mid.mp ha).resolve_left e)
 dis:=fun a ha hb=>by
  rcases List.mem_cons.mp hb with rfl | hb
  ·exact r.own.free hp (List.mem_append_left _ ha)
  ·exact r.dis a ha hb
 val:=fun j d' e=>let ⟨u,e1,q⟩:=r.val j d' e;⟨u,e1,q.mono (aKu hp)⟩
 lst:=fun j kk xs e=>by
  obtain⟨a,o,vs',e1,m,h1,ko,q,u⟩:=r.lst j kk xs e
  exact⟨a,o,vs',e1,m,by rw[bQ (bC h1 hp)];exact h1,ko,q.mono (aKu hp),u⟩
theorem RS.put{p:Addr}(r:RS K (p::B) A H st σ)  : RS K (p::B) A (upd H p (.lst vs)) st σ:=by
 have hh:hide (A++p::B) (upd H p (.lst vs))=hide (A++p::B) H:=aBh (mem_mid.mpr (.inl rfl))
 refine⟨r.len,fun b hb=>?_,r.dis,fun j d e=>by rw[hh];exact r.val j d e,fun j kk xs e=>?_⟩
 ·by_cases e:b=p
  ·subst e;rw[cH];rfl
  ·rw[bQ e];exact r.own b hb
 ·obtain⟨a,o,vs',e1,m,h1,ko,q,u⟩:=r.lst j kk xs e
  refine⟨a,o,vs',e1,m,?_,ko,by rw[hh];exact q,u⟩
  have:a≠p:=fun z=>r.dis a m (z ▸ mem_cons_self)
  rw[bQ this];exact h1
end
def aFq(is:List Nat)(t:Tg):Prop:=∀ d st s2,t d st = .ok s2->s2.length=st.length/\∀ (j:Nat),j ∉ is->s2[j]?=st[j]?
theorem iU:aFq [i] (tgN i):=fun d st s2 h=>by
 cases h
 refine⟨length_set,fun j hj=>?_⟩
 rw[List.getElem?_set,if_neg fun z=>hj (by simp[z])]
def ndB:List Str->Bool
 | []=>true
 | x::r => !r.contains x&&ndB r
theorem aZ6:∀ {l:List Str},ndB l=true->l.Nodup
 | [],_ => .nil
 | x::r,h=>by
  unfold ndB at h
  simp only[and_eq_true,Bool.not_eq_true']at h
  exact List.nodup_cons.mpr ⟨fun z=>by rw[List.contains_iff_mem.mpr z]at h;exact Bool.noConfusion h.1,aZ6 h.2⟩
def bEu(scope:Scope)(outer:List (Str × NameKind))(N:List Str)(is:List Nat):Bool :=
 scope.kind == .function&&ndB (scope.names.map (·.1))&&scope.names.all (fun x=>x.2 != .free||outer.lookup x.1==some .cell||outer.lookup x.1==some .free) &&
  (List.range N.length).all fun i=>(scope.names.lookup (N.getD i "") != some .local&&scope.names.lookup (N.getD i "") != some .cell)||is.contains i
theorem CScope.of(h:bEu scope X.env.scope.names X.N is=true):CScope X scope is:=by
 unfold bEu at h
 simp only[and_eq_true,List.all_eq_true]at h
 obtain⟨⟨⟨h1,h0⟩,h2⟩,h3⟩:=h
 refine⟨by simpa using h1,aZ6 h0,fun x hx hf=>?_,fun i x e hl=>?_⟩
 ·have:=h2 x hx
  simp only[or_eq_true,bne_iff_ne,ne_eq,beq_iff_eq]at this
  rcases this with (z | z) | z
  ·exact absurd hf z
  ·exact .inl z
  ·exact .inr z
 ·have hi:i<X.N.length:=(List.getElem?_eq_some_iff.mp e).1
  have:=h3 i (List.mem_range.mpr hi)
  rw[getD_eq_getElem?_getD,e]at this
  simp only[getD_some,or_eq_true,and_eq_true,bne_iff_ne,ne_eq]at this
  rcases this with ⟨z1,z2⟩ | z
  ·rcases hl with hl | hl
   ·exact absurd hl z1
   ·exact absurd hl z2
  ·simpa using z
theorem aXn{K:Frag}     (Q Q':VK) (m:∀ v H',Q v H'->Q' v H') (h:tI K B f τ H Q):tI K B f τ H Q' :=
 let ⟨A,st,d,rs,hd,q⟩:=h;⟨A,st,d,rs,hd,fun v H' s r=>m v H' (q v H' s r)⟩
def tIx(K:Frag)(f:Ex):TE:=fun τ H Q=>∃ B,tI K B f τ H Q
def tTx(K:Frag)(f:Ex):TT:=fun τ H Q=>∃ B,tT K B f τ H Q
def tGx(K:Frag)(t:Tg):TG:=fun v τ H Q=>∃ B,tG K B t v τ H Q
theorem aUn(h:∀ B,PE X e (tI X.K B f)):PE X e (tIx X.K f):=fun pins s σ H Q I ⟨B,q⟩=>h B pins s σ H Q I q
theorem bBk(h:∀ B,PT X e (tT X.K B f)):PT X e (tTx X.K f):=fun pins s σ H Q I ⟨B,q⟩=>h B pins s σ H Q I q
theorem aUo{t:Tg}(h:∀ B,PG X e (tG X.K B t)):PG X e (tGx X.K t):=fun pins s σ H v u Q I r ⟨B,q⟩=>h B pins s σ H v u Q I r q
theorem xU{K:Frag}    (Q Q':VK) (m:∀ v H',Q v H'->Q' v H') (h:tIx K f τ H Q):tIx K f τ H Q':=let ⟨B,q⟩:=h;⟨B,aXn Q Q' m q⟩
theorem aKv{K:Frag}   {t:Tg}  {c:Ex}   {H:Hp} (hsub:aFq is t)
  (htt:∀ τ H Q,tTx K c τ H Q->tt τ H Q)  {st:PSt}  (rs:RS K B A H st σ) (hx:it st = .ok xs) (hl:xs.length<=big) (hy:oV t c f (clr is st) xs = .ok ys) {Q:VK}
  (q:∀ p vs H1 H',bA H H1->H1 p=none->bA H1 H'->H' p=some (.lst vs)->bD K (hide (A++p::B) H') ys vs->Q (.ref p) H'):tLC is (tIt K B it) (tGx K t) tt (tIx K f) σ H Q:=by
 refine⟨A,st,xs,rs,hx,fun J H1 s1 ito p hp=>?_⟩
 have rs1:=rs.mono s1
 refine⟨fun i m τ vs H'=>m=xs.length-i/\i<=xs.length/\vs.length<=i/\H' p=some (.lst vs)/\bA H1 H'/\RS K (p::B) A H' (clr is st) τ /\
   ∃ ds rest,bD K (hide (A++p::B) H') ds vs/\oV t c f (clr is st) (xs.drop i) = .ok rest/\ds++rest=ys,⟨xs.length,by simp,zero_le _,zero_le _,cH,cZ hp,(rs1.clr is).grow hp,[],ys,.nil,by rw[drop_zero];exact hy,rfl⟩,?_⟩
 rintro i m τ vs H' ⟨rfl,hi,hvl,hpv,s2,rs2,ds,rest,rds,hr,hcat⟩
 refine⟨hpv,?_⟩
 have mv:∀ a,a∈(p::A)++B ↔ a∈A++p::B:=fun a=>by
  rw[mem_mid]
  exact mem_cons
 have le:Le A H1 (p::A) H':=fun b u z=>by
  have z1:=bH _ _ _ _ z
  have hb:b ∉ A:=fun w=>by rw[eN w]at z;cases z
  have ne:b≠p:=bC z1 hp
  rw[bV (show b ∉ p::A from fun w=>(List.mem_cons.mp w).elim ne hb)]
  exact s2 b u z1
 obtain⟨i1,i2⟩:=ito (p::A) H' le (fun a ha=>rs2.own a ((mv a).mp ha)) i
 by_cases hlt:i<xs.length
 ·have hd':xs[i]?=some xs[i]:=List.getElem?_eq_getElem hlt
  obtain⟨go,yl⟩:=i1 _ hd'
  rw[List.drop_eq_getElem_cons hlt]at hr
  obtain⟨st2,hst2,h5⟩:=R.ok_of hr
  obtain⟨cb,hcb,h6⟩:=R.ok_of h5
  obtain⟨k,rfl,h7⟩:=tZ h6
  refine .inr ⟨go,fun x H2 y=>?_⟩
  obtain⟨sm3,rx⟩:=yl x H2 y
  have hpv:=sm3 _ _ hpv
  have s2:=s2.trans sm3
  have rs2:=rs2.mono sm3
  have rds:=rds.mono (bA.hide sm3)
  have rx':Rep K (hide (A++p::B) H2) xs[i] x:=rx.mono (iM fun a ha=>(mv a).mpr ha)
  obtain⟨sl,sg⟩:=hsub _ _ _ hst2
  have back:∀ (j:Nat) (z:Sl),(clr is st)[j]?=some (some z)->st2[j]?=some (some z):=fun j z ez=>by rw[sg j (aE0 is st j z ez).2];exact ez
  refine⟨p::B,A,clr is st,xs[i],st2,rs2,rx',hst2,fun τ2 rs3=>htt _ _ _ ⟨p::B,A,st2,k,rs3,hcb,fun H3 s3=>?_⟩⟩
  cases k with
  | true =>
   obtain⟨y',hy',h8⟩:=R.ok_of h7
   obtain⟨rest',hrest',h9⟩:=R.ok_of h8
   cases h9
   refine⟨p::B,A,st2,y',rs3.mono s3,hy',fun v H4 s4 r4=>⟨s4 _ _ (s3 _ _ hpv),?_,xs.length-(i+1),by omega,rfl,hlt,by rw[length_append,length_singleton];omega,cH,?_,?_,ds++[y'],rest',?_,hrest',by rw[List.append_assoc];exact hcat⟩⟩
   ·have:sizeLine=16777216:=by decide
    have hbg:=oK
    omega
   ·exact fun b u z=>by rw[bQ (bC z hp)];exact s4 _ _ (s3 _ _ (s2 b u z))
   ·exact(((rs3.mono s3).mono s4).weaken (by rw[sl]) back).put
   ·rw[aBh (mem_mid.mpr (.inl rfl))]
    exact(rds.mono (bA.hide (s3.trans s4))).append (.cons r4 .nil)
  | false=>exact⟨xs.length-(i+1),by omega,rfl,hlt,by omega,s3 _ _ hpv,s2.trans s3,(rs3.mono s3).weaken (by rw[sl]) back,ds,rest,rds.mono (bA.hide s3),h7,hcat⟩
 ·have e:i=xs.length:=by omega
  subst e
  rw[List.drop_length]at hr
  cases hr
  rw[append_nil]at hcat
  subst hcat
  exact .inl ⟨i2 (Nat.le_refl _),q p vs H1 H' s1 hp s2 hpv rds⟩
section
variable    {iter c:Expr}  {t:Tg}  
theorem aUp(hY:Y.xe=fun _ _=>False)(he:PE Y elt te)(ht:PT Y c tt){it p:Addr}(τ:LSt)(H:Hp)(s:Shared)(pins:List (Addr × Obj))(vs:List V)(N:Hp->List V->Prop)(Q:Fin->Shared->Prop)(I:Inv Y pins τ H s)
  (h:tt τ H fun k H3=>if k=true then te τ H3 fun y H4=>H4 p=some (.lst vs)/\vs.length<sizeLine/\N (upd H4 p (.lst (vs++[y]))) (vs++[y]) else N H3 vs)
  (mono:∀ H (Q Q':VK),(∀ v H',Q v H'->Q' v H')->te τ H Q->te τ H Q')
  (q:∀ s' H' ws,Inv Y pins τ H' s'->N H' ws->Q (.again (.compLoop (.ListComp elt [⟨tg,iter,[c],0⟩] scope pos) 0 (.ref it) (.ref p) Y.env)) s') :
  wpAny (model Y.prog Y.w) Y.A (isTrue c Y.env (eval c Y.env) >>= fun ok => if ok = true then (eval elt Y.env >>= fun x => call (.builtin "list.append") [.ref p, x] >>= fun _ => again (.compLoop (.ListComp elt [⟨tg, iter, [c], 0⟩] scope pos) 0 (.ref it) (.ref p) Y.env))
        else again (.compLoop (.ListComp elt [⟨tg,iter,[c],0⟩] scope pos) 0 (.ref it) (.ref p) Y.env)) Q (fun _ _=>False) s:=by
 have ht':=ht pins s τ H _ I h
 rw[hY]at ht'
 refine wpAny_bind (thn ht' fun k s1 ⟨H1,I1,q1⟩=>?_)
 cases k with
 | true =>
  rw[if_pos rfl]
  have q1:te τ H1 fun y H4=>H4 p=some (.lst vs)/\vs.length<sizeLine/\N (upd H4 p (.lst (vs++[y]))) (vs++[y]):=q1
  exact aHh he (by rw[hY];exact fun _ _ z=>z) I1 (mono _ _ _ (fun y H4 ⟨a,b,n⟩=>⟨a,b,fun s' I'=>wpAny_pure (q s' _ _ I' n)⟩) q1)
 | false =>
  rw[if_neg Bool.false_ne_true]
  exact wpAny_pure (q s1 H1 vs I1 q1)
theorem aMy{Q:VK}{st:PSt}   {p:Addr}  {H':Hp} (rs:RS X.K B A H st σ) (q:∀ v H',bA H H'->Rep X.K (hide (A++B) H') (.lst ys) v->Q v H') (s1:bA H H1) (hp:H1 p=none) (s2:bA H1 H')
  (hv:H' p=some (.lst vs)) (r:bD X.K (hide (A++p::B) H') ys vs):Q (.ref p) H' :=
 q _ H' (s1.trans s2) (bU.mpr ⟨p,vs,rfl,SqL.of (by rw[bV ((rs.own.mono s1).free hp)];exact hv),r.mono (iM fun a ha=>mem_mid.mpr (.inr ha))⟩)
theorem rT(is:List Nat)(hsub:aFq is t)(S:CScope X scope is)(hi:L2.PI X tg iter (tIt X.K B it))(hg:∀ (B:List Addr) (C:Addr) (s₀:Shared) (H₀:Hp) (fp:List Addr),PG (cM X scope C s₀ H₀ fp) tg (tG X.K B t))
  (he:∀ (B:List Addr) (C:Addr) (s₀:Shared) (H₀:Hp) (fp:List Addr),PE (cM X scope C s₀ H₀ fp) elt (tI X.K B f)) (hc:X.calm=true) (hs:∀ x,foldedSetIterable iter X.env x=pure x:=by intro _;rfl) :
  PE X (.ListComp elt [⟨tg,iter,[],0⟩] scope pos) (tI X.K B (cR is t it fD f)):=by
 intro pins s σ H Q I h
 obtain⟨A,st,d,rs,hd,q⟩:=h
 obtain⟨xs,hx,h2⟩:=R.ok_of hd
 obtain⟨hl,h3⟩:=aK h2
 obtain⟨ys,hy,h4⟩:=R.ok_of h3
 cases h4
 rw[eval_ListComp]
 refine tE (use:=none) (Qf:=EP X pins σ Q) (Q:=Q) (tt:=aIx) (te:=tIx X.K f) (rest:=fun env it p=>eval elt env >>= fun x=>call (.builtin "list.append") [p,x] >>= fun _=>again (.compLoop (.ListComp elt [⟨tg,iter,[],0⟩] scope pos) 0 it p env)) S hc hi (fun C s₀ H₀ fp=>aUo fun B=>hg B C s₀ H₀ fp) (fun _ _ _=>pX)
  (fun C s₀ H₀ fp it p s Q h=>bEt (Y:=cM X scope C s₀ H₀ fp) h) (fun C s₀ H₀ fp it p τ H s pins vs N Q I h q=>aZ5 (Y:=cM X scope C s₀ H₀ fp) rfl (aUn fun B=>he B C s₀ H₀ fp) τ H s pins vs N Q I h (fun Q Q' m h=>xU Q Q' m h) q) hs I
  (aKv hsub (fun τ H Q ⟨B,A,st,k,rs,hk,q⟩=>?_) rs hx hl hy fun p vs H1 H' s1 hp s2 hv r=>aMy rs q s1 hp s2 hv r) fun C p H5 s5 m5 s3 H3 fp τ hC I3 hfp I5 hn5 q5=>⟨m5,hn5,fun h' hs'=>⟨.ref p,H5,aDz I3 hfp hC I5 hs',rfl,q5⟩⟩
 cases hk
 exact q H (bA.refl _)
theorem oG(is:List Nat)(hsub:aFq is t)(S:CScope X scope is)(hi:L2.PI X tg iter (tIt X.K B it))(hg:∀ (B:List Addr) (C:Addr) (s₀:Shared) (H₀:Hp) (fp:List Addr),PG (cM X scope C s₀ H₀ fp) tg (tG X.K B t))
  (ht:∀ (B:List Addr) (C:Addr) (s₀:Shared) (H₀:Hp) (fp:List Addr),PT (cM X scope C s₀ H₀ fp) c (tT X.K B u))
  (he:∀ (B:List Addr) (C:Addr) (s₀:Shared) (H₀:Hp) (fp:List Addr),PE (cM X scope C s₀ H₀ fp) elt (tI X.K B f)) (hc:X.calm=true) (hs:∀ x,foldedSetIterable iter X.env x=pure x:=by intro _;rfl) :
  PE X (.ListComp elt [⟨tg,iter,[c],0⟩] scope pos) (tI X.K B (cR is t it u f)):=by
 intro pins s σ H Q I h
 obtain⟨A,st,d,rs,hd,q⟩:=h
 obtain⟨xs,hx,h2⟩:=R.ok_of hd
 obtain⟨hl,h3⟩:=aK h2
 obtain⟨ys,hy,h4⟩:=R.ok_of h3
 cases h4
 rw[eval_ListComp]
 exact tE (use:=none) (Qf:=EP X pins σ Q) (Q:=Q) (tt:=tTx X.K u) (te:=tIx X.K f) (rest:=fun env it p=>isTrue c env (eval c env) >>= fun ok=>if ok=true then (eval elt env >>= fun x=>call (.builtin "list.append") [p,x] >>= fun _=>again (.compLoop (.ListComp elt [⟨tg,iter,[c],0⟩] scope pos) 0 it p env)) else again (.compLoop (.ListComp elt [⟨tg,iter,[c],0⟩] scope pos) 0 it p env)) S hc hi (fun C s₀ H₀ fp=>aUo fun B=>hg B C s₀ H₀ fp) (fun _ _ _=>pX)
  (fun C s₀ H₀ fp it p s Q h=>bBj (Y:=cM X scope C s₀ H₀ fp) h) (fun C s₀ H₀ fp it p τ H s pins vs N Q I h q=>aUp (Y:=cM X scope C s₀ H₀ fp) rfl (aUn fun B=>he B C s₀ H₀ fp) (bBk fun B=>ht B C s₀ H₀ fp) τ H s pins vs N Q I h (fun _ Q Q' m h=>xU Q Q' m h) q) hs I
  (aKv hsub (fun τ H Q h=>h) rs hx hl hy fun p vs H1 H' s1 hp s2 hv r=>aMy rs q s1 hp s2 hv r) fun C p H5 s5 m5 s3 H3 fp τ hC I3 hfp I5 hn5 q5=>⟨m5,hn5,fun h' hs'=>⟨.ref p,H5,aDz I3 hfp hC I5 hs',rfl,q5⟩⟩
end
end Pu
namespace Pu
open PySem PySem.Spec PyProof.Rows L2 PySem.SeqAt
section
variable{X:Cx}{pins:List (Addr × Obj)}{σ:LSt}{H:Hp}{s:Shared}
theorem aP3(I:Inv X pins σ H s)  {xs ys:List V} (h1:SqL X.K H a xs) (h2:SqT X.K H a ys):False:=by
 obtain⟨its,_,⟨o,n,e,hc,_⟩,_⟩:=I.list h1
 obtain⟨its2,_,⟨o2,e2,hc2,_⟩,_⟩:=I.tuple h2
 rw[e]at e2;cases e2
 rw[hc]at hc2;simp at hc2
mutual
theorem Rep.inj(I:Inv X pins σ H s):∀ {x y:D} {v:V},plain x=true->plain y=true->Rep X.K H x v->Rep X.K H y v->x=y
 | .non,y,v,px,py,h,h'=>by
  have e:=cC.mp h;subst e
  cases y<;>first | (simp at py;done) | skip
  all_goals simp only[cC,bL,aU,bI,sZ,bU]at h'
  all_goals first | rfl | (obtain⟨_,_,h',_⟩:=h';cases h';done) | (cases h';done)
 | .bl b,y,v,px,py,h,h'=>by
  have e:=bL.mp h;subst e
  cases y<;>first | (simp at py;done) | skip
  all_goals simp only[cC,bL,aU,bI,sZ,bU]at h'
  all_goals first | (obtain⟨_,_,h',_⟩:=h';cases h';done) | (cases h';first | rfl | done)
 | .int i,y,v,px,py,h,h'=>by
  have e:=aU.mp h;subst e
  cases y<;>first | (simp at py;done) | skip
  all_goals simp only[cC,bL,aU,bI,sZ,bU]at h'
  all_goals first | (obtain⟨_,_,h',_⟩:=h';cases h';done) | (cases h';first | rfl | done)
 | .str x,y,v,px,py,h,h'=>by
  have e:=bI.mp h;subst e
  cases y with
  | dct _ _ _=>simp at py
  | ins _ _ _=>simp at py
  | exn _ _ _=>simp at py
  | fn _=>simp at py
  | str z =>
   have e2:=bI.mp h'
   injection e2 with e2
   injection e2 with e2
   have:x=z:=by simpa using congrArg Array.toList e2
   rw[this]
  | non=>exact nomatch cC.mp h'
  | bl _=>exact nomatch bL.mp h'
  | int _=>exact nomatch aU.mp h'
  | tup _=>obtain⟨_,_,h',_⟩:=bJ h';cases h'
  | lst _=>obtain⟨_,_,h',_⟩:=bU.mp h';cases h'
 | .tup ds,y,v,px,py,h,h'=>by
  obtain⟨a,vs,e,hq,hr⟩:=bJ h
  subst e
  cases y with
  | dct _ _ _=>simp at py
  | ins _ _ _=>simp at py
  | exn _ _ _=>simp at py
  | fn _=>simp at py
  | tup es =>
   obtain⟨a',vs',e',hq',hr'⟩:=bJ h'
   cases e'
   have:=I.tuple_inj hq hq'
   subst this
   rw[bD.inj I (by simpa using px) (by simpa using py) hr hr']
  | lst es =>
   obtain⟨a',vs',e',hq',hr'⟩:=bU.mp h'
   cases e'
   exact(aP3 I hq' hq).elim
  | non=>exact nomatch cC.mp h'
  | bl _=>exact nomatch bL.mp h'
  | int _=>exact nomatch aU.mp h'
  | str _=>exact nomatch bI.mp h'
 | .lst ds,y,v,px,py,h,h'=>by
  obtain⟨a,vs,e,hq,hr⟩:=bU.mp h
  subst e
  cases y with
  | dct _ _ _=>simp at py
  | ins _ _ _=>simp at py
  | exn _ _ _=>simp at py
  | fn _=>simp at py
  | lst es =>
   obtain⟨a',vs',e',hq',hr'⟩:=bU.mp h'
   cases e'
   have:=I.list_inj hq hq'
   subst this
   rw[bD.inj I (by simpa using px) (by simpa using py) hr hr']
  | tup es =>
   obtain⟨a',vs',e',hq',hr'⟩:=bJ h'
   cases e'
   exact(aP3 I hq hq').elim
  | non=>exact nomatch cC.mp h'
  | bl _=>exact nomatch bL.mp h'
  | int _=>exact nomatch aU.mp h'
  | str _=>exact nomatch bI.mp h'
 | .dct _ _ _,y,v,px,py,h,h'=>by simp at px
 | .ins _ _ _,y,v,px,py,h,h'=>by simp at px
 | .exn _ _ _,y,v,px,py,h,h'=>by simp at px
 | .fn _,y,v,px,py,h,h'=>by simp at px
theorem bD.inj(I:Inv X pins σ H s):∀ {xs ys:List D} {vs:List V},eV xs=true->eV ys=true->bD X.K H xs vs->bD X.K H ys vs->xs=ys
 | [],ys,vs,px,py,h,h'=>by
  have e:=cY.mp h;subst e
  cases ys with
  | nil=>rfl
  | cons y ys=>obtain⟨_,_,h',_⟩:=bT.mp h';cases h'
 | x::xs,ys,vs,px,py,h,h'=>by
  obtain⟨v,r,e,h1,h2⟩:=bT.mp h
  subst e
  cases ys with
  | nil=>exact nomatch cY.mp h'
  | cons y ys =>
   obtain⟨v',r',e',h1',h2'⟩:=bT.mp h'
   cases e'
   simp only[oA,and_eq_true]at px py
   rw[Rep.inj I px.1 py.1 h1 h1',bD.inj I px.2 py.2 h2 h2']
end
mutual
theorem aFr:∀ x:D,plain x=true->eqD x x=true
 | .non,_=>by unfold eqD;rfl
 | .bl b,_=>by unfold eqD;simp
 | .int i,_=>by unfold eqD;simp
 | .str x,_=>by unfold eqD;simp
 | .tup x,h=>by unfold eqD;exact aCi x (by simpa using h)
 | .lst x,h=>by unfold eqD;exact aCi x (by simpa using h)
 | .dct _ _ _,h=>by simp at h
 | .ins _ _ _,h=>by simp at h
 | .exn _ _ _,h=>by simp at h
 | .fn _,h=>by simp at h
theorem aCi:∀ x:List D,eV x=true->gA x x=true
 | [],_=>by unfold gA;rfl
 | a::x,h=>by
  simp only[oA,and_eq_true]at h
  unfold gA;rw[aFr a h.1,aCi x h.2];rfl
end
def pairE(xs ys:List D)(j:Nat):Bool:=eqD (xs.getD j .non) (ys.getD j .non)
theorem oH:∀ xs ys:List D,((List.range (min xs.length ys.length)).all (pairE xs ys)&&xs.length==ys.length)=gA xs ys
 | [],[]=>by unfold gA;rfl
 | [],_::_=>by unfold gA;simp
 | _::_,[]=>by unfold gA;simp
 | x::xs,y::ys=>by
  have ih:=oH xs ys
  have e:gA (x::xs) (y::ys)=(eqD x y&&gA xs ys):=by conv=>lhs;unfold gA
  rw[e,<-ih]
  have hm:min (x::xs).length (y::ys).length=min xs.length ys.length+1:=by simp only[length_cons];omega
  rw[hm,List.range_succ_eq_map,List.all_cons,List.all_map]
  have e1:pairE (x::xs) (y::ys) 0=eqD x y:=rfl
  have e2:(pairE (x::xs) (y::ys) ∘ Nat.succ)=pairE xs ys:=rfl
  rw[e1,e2,Bool.and_assoc]
  congr 1
  simp
theorem aA9(h:xs.length≠ys.length):gA xs ys=false:=by
 rw[<-oH];simp[h]
mutual
theorem aKw(I:Inv X pins σ H s):∀ (x y:D) (A:Around) (v u:V) (a b:Value),Rep X.K H x v->Rep X.K H y u->RelV v a->RelV u b->A.units+dep x<cLine->plain x=true->plain y=true->EqAt A s a b (eqD x y)
 | .non,y,A,v,u,a,b,ra,rb,va,vb,hu,px,py=>by
  have zv:=cC.mp ra;subst zv;have za:a=Value.none:=va;subst za
  cases y with
  | dct _ _ _=>simp at py
  | ins _ _ _=>simp at py
  | exn _ _ _=>simp at py
  | fn _=>simp at py
  | non =>
   have zu:=cC.mp rb;subst zu;have zb:b=Value.none:=vb;subst zb
   have e:eqD (.non) (.non)=eqD _ _:=rfl
   unfold eqD
   exact EqAt.same _
  | bl y =>
   have zu:=bL.mp rb;subst zu;have zb:b=Value.bool y:=vb;subst zb
   have e:eqD (.non) (.bl y)=eqD _ _:=rfl
   unfold eqD
   exact EqAt.none_bool y
  | int y =>
   have zu:=aU.mp rb;subst zu;obtain⟨tb,zb⟩:∃ t,b=Value.int y t:=vb;subst zb
   have e:eqD (.non) (.int y)=eqD _ _:=rfl
   unfold eqD
   exact EqAt.none_int y tb
  | str y =>
   have zu:=bI.mp rb;subst zu;obtain⟨tb,zb⟩:∃ t,b=Value.str ⟨y.toArray⟩ t:=vb;subst zb
   have e:eqD (.non) (.str y)=eqD _ _:=rfl
   unfold eqD
   exact EqAt.none_str _ tb
  | tup y =>
   obtain⟨lb,wsb,zu,hqb,hrb⟩:=bJ rb;subst zu;have zb:b=Value.ref lb:=vb;subst zb;obtain⟨itsb,rvb,plb,_⟩:=I.tuple hqb;have ilb:s.heap.IsTuple lb itsb.toArray:=plb
   have e:eqD (.non) (.tup y)=eqD _ _:=rfl
   unfold eqD
   exact EqAt.none_tuple ilb (Nat.lt_of_le_of_lt (le_add_right _ _) hu)
  | lst y =>
   obtain⟨lb,wsb,zu,hqb,hrb⟩:=bU.mp rb;subst zu;have zb:b=Value.ref lb:=vb;subst zb;obtain⟨itsb,rvb,plb,_⟩:=I.list hqb;have ilb:=plb.isList
   have e:eqD (.non) (.lst y)=eqD _ _:=rfl
   unfold eqD
   exact EqAt.none_list ilb (Nat.lt_of_le_of_lt (le_add_right _ _) hu)
 | .bl x,y,A,v,u,a,b,ra,rb,va,vb,hu,px,py=>by
  have zv:=bL.mp ra;subst zv;have za:a=Value.bool x:=va;subst za
  cases y with
  | dct _ _ _=>simp at py
  | ins _ _ _=>simp at py
  | exn _ _ _=>simp at py
  | fn _=>simp at py
  | non =>
   have zu:=cC.mp rb;subst zu;have zb:b=Value.none:=vb;subst zb
   have e:eqD (.bl x) (.non)=eqD _ _:=rfl
   unfold eqD
   exact EqAt.bool_none x
  | bl y =>
   have zu:=bL.mp rb;subst zu;have zb:b=Value.bool y:=vb;subst zb
   have e:eqD (.bl x) (.bl y)=eqD _ _:=rfl
   unfold eqD
   exact EqAt.bool_bool x y
  | int y =>
   have zu:=aU.mp rb;subst zu;obtain⟨tb,zb⟩:∃ t,b=Value.int y t:=vb;subst zb
   have e:eqD (.bl x) (.int y)=eqD _ _:=rfl
   unfold eqD
   exact EqAt.bool_int x y tb
  | str y =>
   have zu:=bI.mp rb;subst zu;obtain⟨tb,zb⟩:∃ t,b=Value.str ⟨y.toArray⟩ t:=vb;subst zb
   have e:eqD (.bl x) (.str y)=eqD _ _:=rfl
   unfold eqD
   exact EqAt.bool_str x _ tb
  | tup y =>
   obtain⟨lb,wsb,zu,hqb,hrb⟩:=bJ rb;subst zu;have zb:b=Value.ref lb:=vb;subst zb;obtain⟨itsb,rvb,plb,_⟩:=I.tuple hqb;have ilb:s.heap.IsTuple lb itsb.toArray:=plb
   have e:eqD (.bl x) (.tup y)=eqD _ _:=rfl
   unfold eqD
   exact EqAt.bool_tuple x ilb (Nat.lt_of_le_of_lt (le_add_right _ _) hu)
  | lst y =>
   obtain⟨lb,wsb,zu,hqb,hrb⟩:=bU.mp rb;subst zu;have zb:b=Value.ref lb:=vb;subst zb;obtain⟨itsb,rvb,plb,_⟩:=I.list hqb;have ilb:=plb.isList
   have e:eqD (.bl x) (.lst y)=eqD _ _:=rfl
   unfold eqD
   exact EqAt.bool_list x ilb (Nat.lt_of_le_of_lt (le_add_right _ _) hu)
 | .int x,y,A,v,u,a,b,ra,rb,va,vb,hu,px,py=>by
  have zv:=aU.mp ra;subst zv;obtain⟨ta,za⟩:∃ t,a=Value.int x t:=va;subst za
  cases y with
  | dct _ _ _=>simp at py
  | ins _ _ _=>simp at py
  | exn _ _ _=>simp at py
  | fn _=>simp at py
  | non =>
   have zu:=cC.mp rb;subst zu;have zb:b=Value.none:=vb;subst zb
   have e:eqD (.int x) (.non)=eqD _ _:=rfl
   unfold eqD
   exact EqAt.int_none x ta
  | bl y =>
   have zu:=bL.mp rb;subst zu;have zb:b=Value.bool y:=vb;subst zb
   have e:eqD (.int x) (.bl y)=eqD _ _:=rfl
   unfold eqD
   exact EqAt.int_bool x ta y
  | int y =>
   have zu:=aU.mp rb;subst zu;obtain⟨tb,zb⟩:∃ t,b=Value.int y t:=vb;subst zb
   have e:eqD (.int x) (.int y)=eqD _ _:=rfl
   unfold eqD
   exact EqAt.int_int x ta y tb
  | str y =>
   have zu:=bI.mp rb;subst zu;obtain⟨tb,zb⟩:∃ t,b=Value.str ⟨y.toArray⟩ t:=vb;subst zb
   have e:eqD (.int x) (.str y)=eqD _ _:=rfl
   unfold eqD
   exact EqAt.int_str x ta _ tb
  | tup y =>
   obtain⟨lb,wsb,zu,hqb,hrb⟩:=bJ rb;subst zu;have zb:b=Value.ref lb:=vb;subst zb;obtain⟨itsb,rvb,plb,_⟩:=I.tuple hqb;have ilb:s.heap.IsTuple lb itsb.toArray:=plb
   have e:eqD (.int x) (.tup y)=eqD _ _:=rfl
   unfold eqD
   exact EqAt.int_tuple x ta ilb (Nat.lt_of_le_of_lt (le_add_right _ _) hu)
  | lst y =>
   obtain⟨lb,wsb,zu,hqb,hrb⟩:=bU.mp rb;subst zu;have zb:b=Value.ref lb:=vb;subst zb;obtain⟨itsb,rvb,plb,_⟩:=I.list hqb;have ilb:=plb.isList
   have e:eqD (.int x) (.lst y)=eqD _ _:=rfl
   unfold eqD
   exact EqAt.int_list x ta ilb (Nat.lt_of_le_of_lt (le_add_right _ _) hu)
 | .str x,y,A,v,u,a,b,ra,rb,va,vb,hu,px,py=>by
  have zv:=bI.mp ra;subst zv;obtain⟨ta,za⟩:∃ t,a=Value.str ⟨x.toArray⟩ t:=va;subst za
  cases y with
  | dct _ _ _=>simp at py
  | ins _ _ _=>simp at py
  | exn _ _ _=>simp at py
  | fn _=>simp at py
  | non =>
   have zu:=cC.mp rb;subst zu;have zb:b=Value.none:=vb;subst zb
   have e:eqD (.str x) (.non)=eqD _ _:=rfl
   unfold eqD
   exact EqAt.str_none _ ta
  | bl y =>
   have zu:=bL.mp rb;subst zu;have zb:b=Value.bool y:=vb;subst zb
   have e:eqD (.str x) (.bl y)=eqD _ _:=rfl
   unfold eqD
   exact EqAt.str_bool _ ta y
  | int y =>
   have zu:=aU.mp rb;subst zu;obtain⟨tb,zb⟩:∃ t,b=Value.int y t:=vb;subst zb
   have e:eqD (.str x) (.int y)=eqD _ _:=rfl
   unfold eqD
   exact EqAt.str_int _ ta y tb
  | str y =>
   have zu:=bI.mp rb;subst zu;obtain⟨tb,zb⟩:∃ t,b=Value.str ⟨y.toArray⟩ t:=vb;subst zb
   have e:eqD (.str x) (.str y)=((⟨x.toArray⟩:Str)==⟨y.toArray⟩):=by rw[<-str_beq];unfold eqD;simp
   rw[e]
   exact EqAt.str_str _ ta _ tb
  | tup y =>
   obtain⟨lb,wsb,zu,hqb,hrb⟩:=bJ rb;subst zu;have zb:b=Value.ref lb:=vb;subst zb;obtain⟨itsb,rvb,plb,_⟩:=I.tuple hqb;have ilb:s.heap.IsTuple lb itsb.toArray:=plb
   have e:eqD (.str x) (.tup y)=eqD _ _:=rfl
   unfold eqD
   exact EqAt.str_tuple _ ta ilb (Nat.lt_of_le_of_lt (le_add_right _ _) hu)
  | lst y =>
   obtain⟨lb,wsb,zu,hqb,hrb⟩:=bU.mp rb;subst zu;have zb:b=Value.ref lb:=vb;subst zb;obtain⟨itsb,rvb,plb,_⟩:=I.list hqb;have ilb:=plb.isList
   have e:eqD (.str x) (.lst y)=eqD _ _:=rfl
   unfold eqD
   exact EqAt.str_list _ ta ilb (Nat.lt_of_le_of_lt (le_add_right _ _) hu)
 | .tup x,y,A,v,u,a,b,ra,rb,va,vb,hu,px,py=>by
  obtain⟨la,wsa,zv,hqa,hra⟩:=bJ ra;subst zv;have za:a=Value.ref la:=va;subst za;obtain⟨itsa,rva,pla,_⟩:=I.tuple hqa;have ila:s.heap.IsTuple la itsa.toArray:=pla
  cases y with
  | dct _ _ _=>simp at py
  | ins _ _ _=>simp at py
  | exn _ _ _=>simp at py
  | fn _=>simp at py
  | non =>
   have zu:=cC.mp rb;subst zu;have zb:b=Value.none:=vb;subst zb
   have e:eqD (.tup x) (.non)=eqD _ _:=rfl
   unfold eqD
   exact EqAt.tuple_none ila (Nat.lt_of_le_of_lt (le_add_right _ _) hu)
  | bl y =>
   have zu:=bL.mp rb;subst zu;have zb:b=Value.bool y:=vb;subst zb
   have e:eqD (.tup x) (.bl y)=eqD _ _:=rfl
   unfold eqD
   exact EqAt.tuple_bool y ila (Nat.lt_of_le_of_lt (le_add_right _ _) hu)
  | int y =>
   have zu:=aU.mp rb;subst zu;obtain⟨tb,zb⟩:∃ t,b=Value.int y t:=vb;subst zb
   have e:eqD (.tup x) (.int y)=eqD _ _:=rfl
   unfold eqD
   exact EqAt.tuple_int y tb ila (Nat.lt_of_le_of_lt (le_add_right _ _) hu)
  | str y =>
   have zu:=bI.mp rb;subst zu;obtain⟨tb,zb⟩:∃ t,b=Value.str ⟨y.toArray⟩ t:=vb;subst zb
   have e:eqD (.tup x) (.str y)=eqD _ _:=rfl
   unfold eqD
   exact EqAt.tuple_str _ tb ila (Nat.lt_of_le_of_lt (le_add_right _ _) hu)
  | tup y =>
   obtain⟨lb,wsb,zu,hqb,hrb⟩:=bJ rb;subst zu;have zb:b=Value.ref lb:=vb;subst zb;obtain⟨itsb,rvb,plb,_⟩:=I.tuple hqb;have ilb:s.heap.IsTuple lb itsb.toArray:=plb
   have n1:itsa.length=x.length:=by rw[<-rva.length,hra.length]
   have n2:itsb.length=y.length:=by rw[<-rvb.length,hrb.length]
   have e:eqD (.tup x) (.tup y)=gA x y:=by conv=>lhs;unfold eqD
   have hd:dep (.tup x)=fP x+1:=by conv=>lhs;unfold dep
   rw[hd]at hu
   have hin:A.in1.units+fP x<cLine:=by show A.units+1+fP x<cLine;omega
   by_cases hll:la=lb
   ·subst hll
    have:=Rep.inj I px py ra rb
    rw[this,aFr _ py]
    exact EqAt.same _
   ·rw[e]
    have e3:gA x y=((List.range (min itsa.toArray.size itsb.toArray.size)).all (pairE x y)&&itsa.toArray.size==itsb.toArray.size):=by rw[<-oH,List.size_toArray,List.size_toArray,n1,n2]
    rw[e3]
    refine EqAt.of_refs hll (RcAt.tuples ila ilb (by omega) fun j j1 j2=>?_)
    have:=nJ I x y A.in1 wsa wsb itsa itsb hra hrb rva rvb hin (by simpa using px) (by simpa using py) j (by simpa using j1) (by simpa using j2)
    simpa using this
  | lst y =>
   obtain⟨lb,wsb,zu,hqb,hrb⟩:=bU.mp rb;subst zu;have zb:b=Value.ref lb:=vb;subst zb;obtain⟨itsb,rvb,plb,_⟩:=I.list hqb;have ilb:=plb.isList
   have e:eqD (.tup x) (.lst y)=eqD _ _:=rfl
   unfold eqD
   exact EqAt.tuple_list ila ilb (Nat.lt_of_le_of_lt (le_add_right _ _) hu)
 | .lst x,y,A,v,u,a,b,ra,rb,va,vb,hu,px,py=>by
  obtain⟨la,wsa,zv,hqa,hra⟩:=bU.mp ra;subst zv;have za:a=Value.ref la:=va;subst za;obtain⟨itsa,rva,pla,_⟩:=I.list hqa;have ila:=pla.isList
  cases y with
  | dct _ _ _=>simp at py
  | ins _ _ _=>simp at py
  | exn _ _ _=>simp at py
  | fn _=>simp at py
  | non =>
   have zu:=cC.mp rb;subst zu;have zb:b=Value.none:=vb;subst zb
   have e:eqD (.lst x) (.non)=eqD _ _:=rfl
   unfold eqD
   exact EqAt.list_none ila (Nat.lt_of_le_of_lt (le_add_right _ _) hu)
  | bl y =>
   have zu:=bL.mp rb;subst zu;have zb:b=Value.bool y:=vb;subst zb
   have e:eqD (.lst x) (.bl y)=eqD _ _:=rfl
   unfold eqD
   exact EqAt.list_bool y ila (Nat.lt_of_le_of_lt (le_add_right _ _) hu)
  | int y =>
   have zu:=aU.mp rb;subst zu;obtain⟨tb,zb⟩:∃ t,b=Value.int y t:=vb;subst zb
   have e:eqD (.lst x) (.int y)=eqD _ _:=rfl
   unfold eqD
   exact EqAt.list_int y tb ila (Nat.lt_of_le_of_lt (le_add_right _ _) hu)
  | str y =>
   have zu:=bI.mp rb;subst zu;obtain⟨tb,zb⟩:∃ t,b=Value.str ⟨y.toArray⟩ t:=vb;subst zb
   have e:eqD (.lst x) (.str y)=eqD _ _:=rfl
   unfold eqD
   exact EqAt.list_str _ tb ila (Nat.lt_of_le_of_lt (le_add_right _ _) hu)
  | tup y =>
   obtain⟨lb,wsb,zu,hqb,hrb⟩:=bJ rb;subst zu;have zb:b=Value.ref lb:=vb;subst zb;obtain⟨itsb,rvb,plb,_⟩:=I.tuple hqb;have ilb:s.heap.IsTuple lb itsb.toArray:=plb
   have e:eqD (.lst x) (.tup y)=eqD _ _:=rfl
   unfold eqD
   exact EqAt.list_tuple ila ilb (Nat.lt_of_le_of_lt (le_add_right _ _) hu)
  | lst y =>
   obtain⟨lb,wsb,zu,hqb,hrb⟩:=bU.mp rb;subst zu;have zb:b=Value.ref lb:=vb;subst zb;obtain⟨itsb,rvb,plb,_⟩:=I.list hqb;have ilb:=plb.isList
   have n1:itsa.length=x.length:=by rw[<-rva.length,hra.length]
   have n2:itsb.length=y.length:=by rw[<-rvb.length,hrb.length]
   have e:eqD (.lst x) (.lst y)=gA x y:=by conv=>lhs;unfold eqD
   have hd:dep (.lst x)=fP x+1:=by conv=>lhs;unfold dep
   rw[hd]at hu
   have hin:A.in1.units+fP x<cLine:=by show A.units+1+fP x<cLine;omega
   by_cases hll:la=lb
   ·subst hll
    have:=Rep.inj I px py ra rb
    rw[this,aFr _ py]
    exact EqAt.same _
   ·rw[e]
    by_cases hsz:itsa.length=itsb.length
    ·have e3:gA x y=(List.range itsa.toArray.size).all (pairE x y):=by rw[<-oH,List.size_toArray,n1];simp[show x.length=y.length by omega]
     rw[e3]
     refine EqAt.of_refs hll (RcAt.lists ila ilb (by simpa using hsz) (by omega) fun j j1 j2=>?_)
     have:=nJ I x y A.in1 wsa wsb itsa itsb hra hrb rva rvb hin (by simpa using px) (by simpa using py) j (by simpa using j1) (by simpa using j2)
     simpa using this
    ·rw[aA9 (by omega)]
     exact EqAt.of_refs hll (RcAt.lists_lengths ila ilb (by simpa using hsz) (by omega))
 | .dct _ _ _,y,A,v,u,a,b,ra,rb,va,vb,hu,px,py=>by simp at px
 | .ins _ _ _,y,A,v,u,a,b,ra,rb,va,vb,hu,px,py=>by simp at px
 | .exn _ _ _,y,A,v,u,a,b,ra,rb,va,vb,hu,px,py=>by simp at px
 | .fn _,y,A,v,u,a,b,ra,rb,va,vb,hu,px,py=>by simp at px
theorem nJ(I:Inv X pins σ H s):∀ (xs ys:List D) (A:Around) (vs us:List V) (as bs:List Value),bD X.K H xs vs->bD X.K H ys us->Vals vs as->Vals us bs->A.units+fP xs<cLine->eV xs=true->eV ys=true->∀ (j:Nat) (h1:j<as.length) (h2:j<bs.length),EqAt A s as[j] bs[j] (pairE xs ys j)
 | [],_,A,vs,us,as,bs,ra,rb,va,vb,hu,px,py,j,h1,h2=>by
  have e:=cY.mp ra;subst e;cases va;exact absurd h1 (not_lt_zero _)
 | x::xs,[],A,vs,us,as,bs,ra,rb,va,vb,hu,px,py,j,h1,h2=>by
  have e:=cY.mp rb;subst e;cases vb;exact absurd h2 (not_lt_zero _)
 | x::xs,y::ys,A,vs,us,as,bs,ra,rb,va,vb,hu,px,py,j,h1,h2=>by
  obtain⟨v,r,e,p1,p2⟩:=bT.mp ra;subst e
  obtain⟨u,r',e,q1,q2⟩:=bT.mp rb;subst e
  have hd:fP (x::xs)=max (dep x) (fP xs):=by conv=>lhs;unfold fP
  rw[hd]at hu
  simp only[oA,and_eq_true]at px py
  cases va with
  | cons va vas =>
   cases vb with
   | cons vb vbs =>
    cases j with
    | zero=>exact aKw I x y A v u _ _ p1 q1 va vb (by omega) px.1 py.1
    | succ j=>exact nJ I xs ys A r r' _ _ p2 q2 vas vbs (by omega) px.2 py.2 j (Nat.lt_of_succ_lt_succ h1) (Nat.lt_of_succ_lt_succ h2)
end
theorem aUq(I:Inv X pins σ H s):∀ (x y:D) (A:Around) (v u:V) (a b:Value),Rep X.K H x v->Rep X.K H y u->RelV v a->RelV u b->A.units+dep x<cLine->plain x=true->plain y=true->RcAt A s a b (eqD x y)
 | .non,y,A,v,u,a,b,ra,rb,va,vb,hu,px,py=>by
  have zv:=cC.mp ra;subst zv;have za:a=Value.none:=va;subst za
  cases y with
  | dct _ _ _=>simp at py
  | ins _ _ _=>simp at py
  | exn _ _ _=>simp at py
  | fn _=>simp at py
  | non =>
   have zu:=cC.mp rb;subst zu;have zb:b=Value.none:=vb;subst zb
   have e:eqD (.non) (.non)=eqD _ _:=rfl
   unfold eqD
   exact RcAt.none_none
  | bl y =>
   have zu:=bL.mp rb;subst zu;have zb:b=Value.bool y:=vb;subst zb
   have e:eqD (.non) (.bl y)=eqD _ _:=rfl
   unfold eqD
   exact RcAt.none_bool y
  | int y =>
   have zu:=aU.mp rb;subst zu;obtain⟨tb,zb⟩:∃ t,b=Value.int y t:=vb;subst zb
   have e:eqD (.non) (.int y)=eqD _ _:=rfl
   unfold eqD
   exact RcAt.none_int y tb
  | str y =>
   have zu:=bI.mp rb;subst zu;obtain⟨tb,zb⟩:∃ t,b=Value.str ⟨y.toArray⟩ t:=vb;subst zb
   have e:eqD (.non) (.str y)=eqD _ _:=rfl
   unfold eqD
   exact RcAt.none_str _ tb
  | tup y =>
   obtain⟨lb,wsb,zu,hqb,hrb⟩:=bJ rb;subst zu;have zb:b=Value.ref lb:=vb;subst zb;obtain⟨itsb,rvb,plb,_⟩:=I.tuple hqb;have ilb:s.heap.IsTuple lb itsb.toArray:=plb
   have e:eqD (.non) (.tup y)=eqD _ _:=rfl
   unfold eqD
   exact RcAt.none_tuple ilb (Nat.lt_of_le_of_lt (le_add_right _ _) hu)
  | lst y =>
   obtain⟨lb,wsb,zu,hqb,hrb⟩:=bU.mp rb;subst zu;have zb:b=Value.ref lb:=vb;subst zb;obtain⟨itsb,rvb,plb,_⟩:=I.list hqb;have ilb:=plb.isList
   have e:eqD (.non) (.lst y)=eqD _ _:=rfl
   unfold eqD
   exact RcAt.none_list ilb (Nat.lt_of_le_of_lt (le_add_right _ _) hu)
 | .bl x,y,A,v,u,a,b,ra,rb,va,vb,hu,px,py=>by
  have zv:=bL.mp ra;subst zv;have za:a=Value.bool x:=va;subst za
  cases y with
  | dct _ _ _=>simp at py
  | ins _ _ _=>simp at py
  | exn _ _ _=>simp at py
  | fn _=>simp at py
  | non =>
   have zu:=cC.mp rb;subst zu;have zb:b=Value.none:=vb;subst zb
   have e:eqD (.bl x) (.non)=eqD _ _:=rfl
   unfold eqD
   exact RcAt.bool_none x
  | bl y =>
   have zu:=bL.mp rb;subst zu;have zb:b=Value.bool y:=vb;subst zb
   have e:eqD (.bl x) (.bl y)=eqD _ _:=rfl
   unfold eqD
   exact RcAt.bool_bool x y
  | int y =>
   have zu:=aU.mp rb;subst zu;obtain⟨tb,zb⟩:∃ t,b=Value.int y t:=vb;subst zb
   have e:eqD (.bl x) (.int y)=eqD _ _:=rfl
   unfold eqD
   exact RcAt.bool_int x y tb
  | str y =>
   have zu:=bI.mp rb;subst zu;obtain⟨tb,zb⟩:∃ t,b=Value.str ⟨y.toArray⟩ t:=vb;subst zb
   have e:eqD (.bl x) (.str y)=eqD _ _:=rfl
   unfold eqD
   exact RcAt.bool_str x _ tb
  | tup y =>
   obtain⟨lb,wsb,zu,hqb,hrb⟩:=bJ rb;subst zu;have zb:b=Value.ref lb:=vb;subst zb;obtain⟨itsb,rvb,plb,_⟩:=I.tuple hqb;have ilb:s.heap.IsTuple lb itsb.toArray:=plb
   have e:eqD (.bl x) (.tup y)=eqD _ _:=rfl
   unfold eqD
   exact RcAt.bool_tuple x ilb (Nat.lt_of_le_of_lt (le_add_right _ _) hu)
  | lst y =>
   obtain⟨lb,wsb,zu,hqb,hrb⟩:=bU.mp rb;subst zu;have zb:b=Value.ref lb:=vb;subst zb;obtain⟨itsb,rvb,plb,_⟩:=I.list hqb;have ilb:=plb.isList
   have e:eqD (.bl x) (.lst y)=eqD _ _:=rfl
   unfold eqD
   exact RcAt.bool_list x ilb (Nat.lt_of_le_of_lt (le_add_right _ _) hu)
 | .int x,y,A,v,u,a,b,ra,rb,va,vb,hu,px,py=>by
  have zv:=aU.mp ra;subst zv;obtain⟨ta,za⟩:∃ t,a=Value.int x t:=va;subst za
  cases y with
  | dct _ _ _=>simp at py
  | ins _ _ _=>simp at py
  | exn _ _ _=>simp at py
  | fn _=>simp at py
  | non =>
   have zu:=cC.mp rb;subst zu;have zb:b=Value.none:=vb;subst zb
   have e:eqD (.int x) (.non)=eqD _ _:=rfl
   unfold eqD
   exact RcAt.int_none x ta
  | bl y =>
   have zu:=bL.mp rb;subst zu;have zb:b=Value.bool y:=vb;subst zb
   have e:eqD (.int x) (.bl y)=eqD _ _:=rfl
   unfold eqD
   exact RcAt.int_bool x ta y
  | int y =>
   have zu:=aU.mp rb;subst zu;obtain⟨tb,zb⟩:∃ t,b=Value.int y t:=vb;subst zb
   have e:eqD (.int x) (.int y)=eqD _ _:=rfl
   unfold eqD
   exact RcAt.int_int x ta y tb
  | str y =>
   have zu:=bI.mp rb;subst zu;obtain⟨tb,zb⟩:∃ t,b=Value.str ⟨y.toArray⟩ t:=vb;subst zb
   have e:eqD (.int x) (.str y)=eqD _ _:=rfl
   unfold eqD
   exact RcAt.int_str x ta _ tb
  | tup y =>
   obtain⟨lb,wsb,zu,hqb,hrb⟩:=bJ rb;subst zu;have zb:b=Value.ref lb:=vb;subst zb;obtain⟨itsb,rvb,plb,_⟩:=I.tuple hqb;have ilb:s.heap.IsTuple lb itsb.toArray:=plb
   have e:eqD (.int x) (.tup y)=eqD _ _:=rfl
   unfold eqD
   exact RcAt.int_tuple x ta ilb (Nat.lt_of_le_of_lt (le_add_right _ _) hu)
  | lst y =>
   obtain⟨lb,wsb,zu,hqb,hrb⟩:=bU.mp rb;subst zu;have zb:b=Value.ref lb:=vb;subst zb;obtain⟨itsb,rvb,plb,_⟩:=I.list hqb;have ilb:=plb.isList
   have e:eqD (.int x) (.lst y)=eqD _ _:=rfl
   unfold eqD
   exact RcAt.int_list x ta ilb (Nat.lt_of_le_of_lt (le_add_right _ _) hu)
 | .str x,y,A,v,u,a,b,ra,rb,va,vb,hu,px,py=>by
  have zv:=bI.mp ra;subst zv;obtain⟨ta,za⟩:∃ t,a=Value.str ⟨x.toArray⟩ t:=va;subst za
  cases y with
  | dct _ _ _=>simp at py
  | ins _ _ _=>simp at py
  | exn _ _ _=>simp at py
  | fn _=>simp at py
  | non =>
   have zu:=cC.mp rb;subst zu;have zb:b=Value.none:=vb;subst zb
   have e:eqD (.str x) (.non)=eqD _ _:=rfl
   unfold eqD
   exact RcAt.str_none _ ta
  | bl y =>
   have zu:=bL.mp rb;subst zu;have zb:b=Value.bool y:=vb;subst zb
   have e:eqD (.str x) (.bl y)=eqD _ _:=rfl
   unfold eqD
   exact RcAt.str_bool _ ta y
  | int y =>
   have zu:=aU.mp rb;subst zu;obtain⟨tb,zb⟩:∃ t,b=Value.int y t:=vb;subst zb
   have e:eqD (.str x) (.int y)=eqD _ _:=rfl
   unfold eqD
   exact RcAt.str_int _ ta y tb
  | str y =>
   have zu:=bI.mp rb;subst zu;obtain⟨tb,zb⟩:∃ t,b=Value.str ⟨y.toArray⟩ t:=vb;subst zb
   have e:eqD (.str x) (.str y)=((⟨x.toArray⟩:Str)==⟨y.toArray⟩):=by rw[<-str_beq];unfold eqD;simp
   rw[e]
   exact RcAt.str_str _ ta _ tb
  | tup y =>
   obtain⟨lb,wsb,zu,hqb,hrb⟩:=bJ rb;subst zu;have zb:b=Value.ref lb:=vb;subst zb;obtain⟨itsb,rvb,plb,_⟩:=I.tuple hqb;have ilb:s.heap.IsTuple lb itsb.toArray:=plb
   have e:eqD (.str x) (.tup y)=eqD _ _:=rfl
   unfold eqD
   exact RcAt.str_tuple _ ta ilb (Nat.lt_of_le_of_lt (le_add_right _ _) hu)
  | lst y =>
   obtain⟨lb,wsb,zu,hqb,hrb⟩:=bU.mp rb;subst zu;have zb:b=Value.ref lb:=vb;subst zb;obtain⟨itsb,rvb,plb,_⟩:=I.list hqb;have ilb:=plb.isList
   have e:eqD (.str x) (.lst y)=eqD _ _:=rfl
   unfold eqD
   exact RcAt.str_list _ ta ilb (Nat.lt_of_le_of_lt (le_add_right _ _) hu)
 | .tup x,y,A,v,u,a,b,ra,rb,va,vb,hu,px,py=>by
  obtain⟨la,wsa,zv,hqa,hra⟩:=bJ ra;subst zv;have za:a=Value.ref la:=va;subst za;obtain⟨itsa,rva,pla,_⟩:=I.tuple hqa;have ila:s.heap.IsTuple la itsa.toArray:=pla
  cases y with
  | dct _ _ _=>simp at py
  | ins _ _ _=>simp at py
  | exn _ _ _=>simp at py
  | fn _=>simp at py
  | non =>
   have zu:=cC.mp rb;subst zu;have zb:b=Value.none:=vb;subst zb
   have e:eqD (.tup x) (.non)=eqD _ _:=rfl
   unfold eqD
   exact RcAt.tuple_none ila (Nat.lt_of_le_of_lt (le_add_right _ _) hu)
  | bl y =>
   have zu:=bL.mp rb;subst zu;have zb:b=Value.bool y:=vb;subst zb
   have e:eqD (.tup x) (.bl y)=eqD _ _:=rfl
   unfold eqD
   exact RcAt.tuple_bool y ila (Nat.lt_of_le_of_lt (le_add_right _ _) hu)
  | int y =>
   have zu:=aU.mp rb;subst zu;obtain⟨tb,zb⟩:∃ t,b=Value.int y t:=vb;subst zb
   have e:eqD (.tup x) (.int y)=eqD _ _:=rfl
   unfold eqD
   exact RcAt.tuple_int y tb ila (Nat.lt_of_le_of_lt (le_add_right _ _) hu)
  | str y =>
   have zu:=bI.mp rb;subst zu;obtain⟨tb,zb⟩:∃ t,b=Value.str ⟨y.toArray⟩ t:=vb;subst zb
   have e:eqD (.tup x) (.str y)=eqD _ _:=rfl
   unfold eqD
   exact RcAt.tuple_str _ tb ila (Nat.lt_of_le_of_lt (le_add_right _ _) hu)
  | tup y =>
   obtain⟨lb,wsb,zu,hqb,hrb⟩:=bJ rb;subst zu;have zb:b=Value.ref lb:=vb;subst zb;obtain⟨itsb,rvb,plb,_⟩:=I.tuple hqb;have ilb:s.heap.IsTuple lb itsb.toArray:=plb
   have n1:itsa.length=x.length:=by rw[<-rva.length,hra.length]
   have n2:itsb.length=y.length:=by rw[<-rvb.length,hrb.length]
   have e:eqD (.tup x) (.tup y)=gA x y:=by conv=>lhs;unfold eqD
   have hd:dep (.tup x)=fP x+1:=by conv=>lhs;unfold dep
   rw[hd]at hu
   have hin:A.in1.units+fP x<cLine:=by show A.units+1+fP x<cLine;omega
   rw[e]
   have e3:gA x y=((List.range (min itsa.toArray.size itsb.toArray.size)).all (pairE x y)&&itsa.toArray.size==itsb.toArray.size):=by rw[<-oH,List.size_toArray,List.size_toArray,n1,n2]
   rw[e3]
   refine  (RcAt.tuples ila ilb (by omega) fun j j1 j2=>?_)
   have:=nJ I x y A.in1 wsa wsb itsa itsb hra hrb rva rvb hin (by simpa using px) (by simpa using py) j (by simpa using j1) (by simpa using j2)
   simpa using this
  | lst y =>
   obtain⟨lb,wsb,zu,hqb,hrb⟩:=bU.mp rb;subst zu;have zb:b=Value.ref lb:=vb;subst zb;obtain⟨itsb,rvb,plb,_⟩:=I.list hqb;have ilb:=plb.isList
   have e:eqD (.tup x) (.lst y)=eqD _ _:=rfl
   unfold eqD
   exact RcAt.tuple_list ila ilb (Nat.lt_of_le_of_lt (le_add_right _ _) hu)
 | .lst x,y,A,v,u,a,b,ra,rb,va,vb,hu,px,py=>by
  obtain⟨la,wsa,zv,hqa,hra⟩:=bU.mp ra;subst zv;have za:a=Value.ref la:=va;subst za;obtain⟨itsa,rva,pla,_⟩:=I.list hqa;have ila:=pla.isList
  cases y with
  | dct _ _ _=>simp at py
  | ins _ _ _=>simp at py
  | exn _ _ _=>simp at py
  | fn _=>simp at py
  | non =>
   have zu:=cC.mp rb;subst zu;have zb:b=Value.none:=vb;subst zb
   have e:eqD (.lst x) (.non)=eqD _ _:=rfl
   unfold eqD
   exact RcAt.list_none ila (Nat.lt_of_le_of_lt (le_add_right _ _) hu)
  | bl y =>
   have zu:=bL.mp rb;subst zu;have zb:b=Value.bool y:=vb;subst zb
   have e:eqD (.lst x) (.bl y)=eqD _ _:=rfl
   unfold eqD
   exact RcAt.list_bool y ila (Nat.lt_of_le_of_lt (le_add_right _ _) hu)
  | int y =>
   have zu:=aU.mp rb;subst zu;obtain⟨tb,zb⟩:∃ t,b=Value.int y t:=vb;subst zb
   have e:eqD (.lst x) (.int y)=eqD _ _:=rfl
   unfold eqD
   exact RcAt.list_int y tb ila (Nat.lt_of_le_of_lt (le_add_right _ _) hu)
  | str y =>
   have zu:=bI.mp rb;subst zu;obtain⟨tb,zb⟩:∃ t,b=Value.str ⟨y.toArray⟩ t:=vb;subst zb
   have e:eqD (.lst x) (.str y)=eqD _ _:=rfl
   unfold eqD
   exact RcAt.list_str _ tb ila (Nat.lt_of_le_of_lt (le_add_right _ _) hu)
  | tup y =>
   obtain⟨lb,wsb,zu,hqb,hrb⟩:=bJ rb;subst zu;have zb:b=Value.ref lb:=vb;subst zb;obtain⟨itsb,rvb,plb,_⟩:=I.tuple hqb;have ilb:s.heap.IsTuple lb itsb.toArray:=plb
   have e:eqD (.lst x) (.tup y)=eqD _ _:=rfl
   unfold eqD
   exact RcAt.list_tuple ila ilb (Nat.lt_of_le_of_lt (le_add_right _ _) hu)
  | lst y =>
   obtain⟨lb,wsb,zu,hqb,hrb⟩:=bU.mp rb;subst zu;have zb:b=Value.ref lb:=vb;subst zb;obtain⟨itsb,rvb,plb,_⟩:=I.list hqb;have ilb:=plb.isList
   have n1:itsa.length=x.length:=by rw[<-rva.length,hra.length]
   have n2:itsb.length=y.length:=by rw[<-rvb.length,hrb.length]
   have e:eqD (.lst x) (.lst y)=gA x y:=by conv=>lhs;unfold eqD
   have hd:dep (.lst x)=fP x+1:=by conv=>lhs;unfold dep
   rw[hd]at hu
   have hin:A.in1.units+fP x<cLine:=by show A.units+1+fP x<cLine;omega
   rw[e]
   by_cases hsz:itsa.length=itsb.length
   ·have e3:gA x y=(List.range itsa.toArray.size).all (pairE x y):=by rw[<-oH,List.size_toArray,n1];simp[show x.length=y.length by omega]
    rw[e3]
    refine  (RcAt.lists ila ilb (by simpa using hsz) (by omega) fun j j1 j2=>?_)
    have:=nJ I x y A.in1 wsa wsb itsa itsb hra hrb rva rvb hin (by simpa using px) (by simpa using py) j (by simpa using j1) (by simpa using j2)
    simpa using this
   ·rw[aA9 (by omega)]
    exact  (RcAt.lists_lengths ila ilb (by simpa using hsz) (by omega))
 | .dct _ _ _,y,A,v,u,a,b,ra,rb,va,vb,hu,px,py=>by simp at px
 | .ins _ _ _,y,A,v,u,a,b,ra,rb,va,vb,hu,px,py=>by simp at px
 | .exn _ _ _,y,A,v,u,a,b,ra,rb,va,vb,hu,px,py=>by simp at px
 | .fn _,y,A,v,u,a,b,ra,rb,va,vb,hu,px,py=>by simp at px
theorem aUr(I:Inv X pins σ H s):∀ (x y:D) (A:Around) (v u:V) (a b:Value),Rep X.K H x v->Rep X.K H y u->RelV v a->RelV u b->A.units+dep x<cLine->plain x=true->plain y=true->RcNeAt A s a b (!eqD x y)
 | .non,y,A,v,u,a,b,ra,rb,va,vb,hu,px,py=>by
  have zv:=cC.mp ra;subst zv;have za:a=Value.none:=va;subst za
  cases y with
  | dct _ _ _=>simp at py
  | ins _ _ _=>simp at py
  | exn _ _ _=>simp at py
  | fn _=>simp at py
  | non =>
   have zu:=cC.mp rb;subst zu;have zb:b=Value.none:=vb;subst zb
   have e:eqD (.non) (.non)=eqD _ _:=rfl
   unfold eqD
   exact RcNeAt.none_none
  | bl y =>
   have zu:=bL.mp rb;subst zu;have zb:b=Value.bool y:=vb;subst zb
   have e:eqD (.non) (.bl y)=eqD _ _:=rfl
   unfold eqD
   exact RcNeAt.none_bool y
  | int y =>
   have zu:=aU.mp rb;subst zu;obtain⟨tb,zb⟩:∃ t,b=Value.int y t:=vb;subst zb
   have e:eqD (.non) (.int y)=eqD _ _:=rfl
   unfold eqD
   exact RcNeAt.none_int y tb
  | str y =>
   have zu:=bI.mp rb;subst zu;obtain⟨tb,zb⟩:∃ t,b=Value.str ⟨y.toArray⟩ t:=vb;subst zb
   have e:eqD (.non) (.str y)=eqD _ _:=rfl
   unfold eqD
   exact RcNeAt.none_str _ tb
  | tup y =>
   obtain⟨lb,wsb,zu,hqb,hrb⟩:=bJ rb;subst zu;have zb:b=Value.ref lb:=vb;subst zb;obtain⟨itsb,rvb,plb,_⟩:=I.tuple hqb;have ilb:s.heap.IsTuple lb itsb.toArray:=plb
   have e:eqD (.non) (.tup y)=eqD _ _:=rfl
   unfold eqD
   exact RcNeAt.none_tuple ilb (Nat.lt_of_le_of_lt (le_add_right _ _) hu)
  | lst y =>
   obtain⟨lb,wsb,zu,hqb,hrb⟩:=bU.mp rb;subst zu;have zb:b=Value.ref lb:=vb;subst zb;obtain⟨itsb,rvb,plb,_⟩:=I.list hqb;have ilb:=plb.isList
   have e:eqD (.non) (.lst y)=eqD _ _:=rfl
   unfold eqD
   exact RcNeAt.none_list ilb (Nat.lt_of_le_of_lt (le_add_right _ _) hu)
 | .bl x,y,A,v,u,a,b,ra,rb,va,vb,hu,px,py=>by
  have zv:=bL.mp ra;subst zv;have za:a=Value.bool x:=va;subst za
  cases y with
  | dct _ _ _=>simp at py
  | ins _ _ _=>simp at py
  | exn _ _ _=>simp at py
  | fn _=>simp at py
  | non =>
   have zu:=cC.mp rb;subst zu;have zb:b=Value.none:=vb;subst zb
   have e:eqD (.bl x) (.non)=eqD _ _:=rfl
   unfold eqD
   exact RcNeAt.bool_none x
  | bl y =>
   have zu:=bL.mp rb;subst zu;have zb:b=Value.bool y:=vb;subst zb
   have e:eqD (.bl x) (.bl y)=eqD _ _:=rfl
   unfold eqD
   exact RcNeAt.bool_bool x y
  | int y =>
   have zu:=aU.mp rb;subst zu;obtain⟨tb,zb⟩:∃ t,b=Value.int y t:=vb;subst zb
   have e:eqD (.bl x) (.int y)=eqD _ _:=rfl
   unfold eqD
   exact RcNeAt.bool_int x y tb
  | str y =>
   have zu:=bI.mp rb;subst zu;obtain⟨tb,zb⟩:∃ t,b=Value.str ⟨y.toArray⟩ t:=vb;subst zb
   have e:eqD (.bl x) (.str y)=eqD _ _:=rfl
   unfold eqD
   exact RcNeAt.bool_str x _ tb
  | tup y =>
   obtain⟨lb,wsb,zu,hqb,hrb⟩:=bJ rb;subst zu;have zb:b=Value.ref lb:=vb;subst zb;obtain⟨itsb,rvb,plb,_⟩:=I.tuple hqb;have ilb:s.heap.IsTuple lb itsb.toArray:=plb
   have e:eqD (.bl x) (.tup y)=eqD _ _:=rfl
   unfold eqD
   exact RcNeAt.bool_tuple x ilb (Nat.lt_of_le_of_lt (le_add_right _ _) hu)
  | lst y =>
   obtain⟨lb,wsb,zu,hqb,hrb⟩:=bU.mp rb;subst zu;have zb:b=Value.ref lb:=vb;subst zb;obtain⟨itsb,rvb,plb,_⟩:=I.list hqb;have ilb:=plb.isList
   have e:eqD (.bl x) (.lst y)=eqD _ _:=rfl
   unfold eqD
   exact RcNeAt.bool_list x ilb (Nat.lt_of_le_of_lt (le_add_right _ _) hu)
 | .int x,y,A,v,u,a,b,ra,rb,va,vb,hu,px,py=>by
  have zv:=aU.mp ra;subst zv;obtain⟨ta,za⟩:∃ t,a=Value.int x t:=va;subst za
  cases y with
  | dct _ _ _=>simp at py
  | ins _ _ _=>simp at py
  | exn _ _ _=>simp at py
  | fn _=>simp at py
  | non =>
   have zu:=cC.mp rb;subst zu;have zb:b=Value.none:=vb;subst zb
   have e:eqD (.int x) (.non)=eqD _ _:=rfl
   unfold eqD
   exact RcNeAt.int_none x ta
  | bl y =>
   have zu:=bL.mp rb;subst zu;have zb:b=Value.bool y:=vb;subst zb
   have e:eqD (.int x) (.bl y)=eqD _ _:=rfl
   unfold eqD
   exact RcNeAt.int_bool x ta y
  | int y =>
   have zu:=aU.mp rb;subst zu;obtain⟨tb,zb⟩:∃ t,b=Value.int y t:=vb;subst zb
   have e:eqD (.int x) (.int y)=eqD _ _:=rfl
   unfold eqD
   exact RcNeAt.int_int x ta y tb
  | str y =>
   have zu:=bI.mp rb;subst zu;obtain⟨tb,zb⟩:∃ t,b=Value.str ⟨y.toArray⟩ t:=vb;subst zb
   have e:eqD (.int x) (.str y)=eqD _ _:=rfl
   unfold eqD
   exact RcNeAt.int_str x ta _ tb
  | tup y =>
   obtain⟨lb,wsb,zu,hqb,hrb⟩:=bJ rb;subst zu;have zb:b=Value.ref lb:=vb;subst zb;obtain⟨itsb,rvb,plb,_⟩:=I.tuple hqb;have ilb:s.heap.IsTuple lb itsb.toArray:=plb
   have e:eqD (.int x) (.tup y)=eqD _ _:=rfl
   unfold eqD
   exact RcNeAt.int_tuple x ta ilb (Nat.lt_of_le_of_lt (le_add_right _ _) hu)
  | lst y =>
   obtain⟨lb,wsb,zu,hqb,hrb⟩:=bU.mp rb;subst zu;have zb:b=Value.ref lb:=vb;subst zb;obtain⟨itsb,rvb,plb,_⟩:=I.list hqb;have ilb:=plb.isList
   have e:eqD (.int x) (.lst y)=eqD _ _:=rfl
   unfold eqD
   exact RcNeAt.int_list x ta ilb (Nat.lt_of_le_of_lt (le_add_right _ _) hu)
 | .str x,y,A,v,u,a,b,ra,rb,va,vb,hu,px,py=>by
  have zv:=bI.mp ra;subst zv;obtain⟨ta,za⟩:∃ t,a=Value.str ⟨x.toArray⟩ t:=va;subst za
  cases y with
  | dct _ _ _=>simp at py
  | ins _ _ _=>simp at py
  | exn _ _ _=>simp at py
  | fn _=>simp at py
  | non =>
   have zu:=cC.mp rb;subst zu;have zb:b=Value.none:=vb;subst zb
   have e:eqD (.str x) (.non)=eqD _ _:=rfl
   unfold eqD
   exact RcNeAt.str_none _ ta
  | bl y =>
   have zu:=bL.mp rb;subst zu;have zb:b=Value.bool y:=vb;subst zb
   have e:eqD (.str x) (.bl y)=eqD _ _:=rfl
   unfold eqD
   exact RcNeAt.str_bool _ ta y
  | int y =>
   have zu:=aU.mp rb;subst zu;obtain⟨tb,zb⟩:∃ t,b=Value.int y t:=vb;subst zb
   have e:eqD (.str x) (.int y)=eqD _ _:=rfl
   unfold eqD
   exact RcNeAt.str_int _ ta y tb
  | str y =>
   have zu:=bI.mp rb;subst zu;obtain⟨tb,zb⟩:∃ t,b=Value.str ⟨y.toArray⟩ t:=vb;subst zb
   have e:eqD (.str x) (.str y)=((⟨x.toArray⟩:Str)==⟨y.toArray⟩):=by rw[<-str_beq];unfold eqD;simp
   rw[e]
   exact RcNeAt.str_str _ ta _ tb
  | tup y =>
   obtain⟨lb,wsb,zu,hqb,hrb⟩:=bJ rb;subst zu;have zb:b=Value.ref lb:=vb;subst zb;obtain⟨itsb,rvb,plb,_⟩:=I.tuple hqb;have ilb:s.heap.IsTuple lb itsb.toArray:=plb
   have e:eqD (.str x) (.tup y)=eqD _ _:=rfl
   unfold eqD
   exact RcNeAt.str_tuple _ ta ilb (Nat.lt_of_le_of_lt (le_add_right _ _) hu)
  | lst y =>
   obtain⟨lb,wsb,zu,hqb,hrb⟩:=bU.mp rb;subst zu;have zb:b=Value.ref lb:=vb;subst zb;obtain⟨itsb,rvb,plb,_⟩:=I.list hqb;have ilb:=plb.isList
   have e:eqD (.str x) (.lst y)=eqD _ _:=rfl
   unfold eqD
   exact RcNeAt.str_list _ ta ilb (Nat.lt_of_le_of_lt (le_add_right _ _) hu)
 | .tup x,y,A,v,u,a,b,ra,rb,va,vb,hu,px,py=>by
  obtain⟨la,wsa,zv,hqa,hra⟩:=bJ ra;subst zv;have za:a=Value.ref la:=va;subst za;obtain⟨itsa,rva,pla,_⟩:=I.tuple hqa;have ila:s.heap.IsTuple la itsa.toArray:=pla
  cases y with
  | dct _ _ _=>simp at py
  | ins _ _ _=>simp at py
  | exn _ _ _=>simp at py
  | fn _=>simp at py
  | non =>
   have zu:=cC.mp rb;subst zu;have zb:b=Value.none:=vb;subst zb
   have e:eqD (.tup x) (.non)=eqD _ _:=rfl
   unfold eqD
   exact RcNeAt.tuple_none ila (Nat.lt_of_le_of_lt (le_add_right _ _) hu)
  | bl y =>
   have zu:=bL.mp rb;subst zu;have zb:b=Value.bool y:=vb;subst zb
   have e:eqD (.tup x) (.bl y)=eqD _ _:=rfl
   unfold eqD
   exact RcNeAt.tuple_bool y ila (Nat.lt_of_le_of_lt (le_add_right _ _) hu)
  | int y =>
   have zu:=aU.mp rb;subst zu;obtain⟨tb,zb⟩:∃ t,b=Value.int y t:=vb;subst zb
   have e:eqD (.tup x) (.int y)=eqD _ _:=rfl
   unfold eqD
   exact RcNeAt.tuple_int y tb ila (Nat.lt_of_le_of_lt (le_add_right _ _) hu)
  | str y =>
   have zu:=bI.mp rb;subst zu;obtain⟨tb,zb⟩:∃ t,b=Value.str ⟨y.toArray⟩ t:=vb;subst zb
   have e:eqD (.tup x) (.str y)=eqD _ _:=rfl
   unfold eqD
   exact RcNeAt.tuple_str _ tb ila (Nat.lt_of_le_of_lt (le_add_right _ _) hu)
  | tup y =>
   obtain⟨lb,wsb,zu,hqb,hrb⟩:=bJ rb;subst zu;have zb:b=Value.ref lb:=vb;subst zb;obtain⟨itsb,rvb,plb,_⟩:=I.tuple hqb;have ilb:s.heap.IsTuple lb itsb.toArray:=plb
   have n1:itsa.length=x.length:=by rw[<-rva.length,hra.length]
   have n2:itsb.length=y.length:=by rw[<-rvb.length,hrb.length]
   have e:eqD (.tup x) (.tup y)=gA x y:=by conv=>lhs;unfold eqD
   have hd:dep (.tup x)=fP x+1:=by conv=>lhs;unfold dep
   rw[hd]at hu
   have hin:A.in1.units+fP x<cLine:=by show A.units+1+fP x<cLine;omega
   rw[e]
   have e3:gA x y=((List.range (min itsa.toArray.size itsb.toArray.size)).all (pairE x y)&&itsa.toArray.size==itsb.toArray.size):=by rw[<-oH,List.size_toArray,List.size_toArray,n1,n2]
   rw[e3]
   refine  (RcNeAt.tuples ila ilb (by omega) fun j j1 j2=>?_)
   have:=nJ I x y A.in1 wsa wsb itsa itsb hra hrb rva rvb hin (by simpa using px) (by simpa using py) j (by simpa using j1) (by simpa using j2)
   simpa using this
  | lst y =>
   obtain⟨lb,wsb,zu,hqb,hrb⟩:=bU.mp rb;subst zu;have zb:b=Value.ref lb:=vb;subst zb;obtain⟨itsb,rvb,plb,_⟩:=I.list hqb;have ilb:=plb.isList
   have e:eqD (.tup x) (.lst y)=eqD _ _:=rfl
   unfold eqD
   exact RcNeAt.tuple_list ila ilb (Nat.lt_of_le_of_lt (le_add_right _ _) hu)
 | .lst x,y,A,v,u,a,b,ra,rb,va,vb,hu,px,py=>by
  obtain⟨la,wsa,zv,hqa,hra⟩:=bU.mp ra;subst zv;have za:a=Value.ref la:=va;subst za;obtain⟨itsa,rva,pla,_⟩:=I.list hqa;have ila:=pla.isList
  cases y with
  | dct _ _ _=>simp at py
  | ins _ _ _=>simp at py
  | exn _ _ _=>simp at py
  | fn _=>simp at py
  | non =>
   have zu:=cC.mp rb;subst zu;have zb:b=Value.none:=vb;subst zb
   have e:eqD (.lst x) (.non)=eqD _ _:=rfl
   unfold eqD
   exact RcNeAt.list_none ila (Nat.lt_of_le_of_lt (le_add_right _ _) hu)
  | bl y =>
   have zu:=bL.mp rb;subst zu;have zb:b=Value.bool y:=vb;subst zb
   have e:eqD (.lst x) (.bl y)=eqD _ _:=rfl
   unfold eqD
   exact RcNeAt.list_bool y ila (Nat.lt_of_le_of_lt (le_add_right _ _) hu)
  | int y =>
   have zu:=aU.mp rb;subst zu;obtain⟨tb,zb⟩:∃ t,b=Value.int y t:=vb;subst zb
   have e:eqD (.lst x) (.int y)=eqD _ _:=rfl
   unfold eqD
   exact RcNeAt.list_int y tb ila (Nat.lt_of_le_of_lt (le_add_right _ _) hu)
  | str y =>
   have zu:=bI.mp rb;subst zu;obtain⟨tb,zb⟩:∃ t,b=Value.str ⟨y.toArray⟩ t:=vb;subst zb
   have e:eqD (.lst x) (.str y)=eqD _ _:=rfl
   unfold eqD
   exact RcNeAt.list_str _ tb ila (Nat.lt_of_le_of_lt (le_add_right _ _) hu)
  | tup y =>
   obtain⟨lb,wsb,zu,hqb,hrb⟩:=bJ rb;subst zu;have zb:b=Value.ref lb:=vb;subst zb;obtain⟨itsb,rvb,plb,_⟩:=I.tuple hqb;have ilb:s.heap.IsTuple lb itsb.toArray:=plb
   have e:eqD (.lst x) (.tup y)=eqD _ _:=rfl
   unfold eqD
   exact RcNeAt.list_tuple ila ilb (Nat.lt_of_le_of_lt (le_add_right _ _) hu)
  | lst y =>
   obtain⟨lb,wsb,zu,hqb,hrb⟩:=bU.mp rb;subst zu;have zb:b=Value.ref lb:=vb;subst zb;obtain⟨itsb,rvb,plb,_⟩:=I.list hqb;have ilb:=plb.isList
   have n1:itsa.length=x.length:=by rw[<-rva.length,hra.length]
   have n2:itsb.length=y.length:=by rw[<-rvb.length,hrb.length]
   have e:eqD (.lst x) (.lst y)=gA x y:=by conv=>lhs;unfold eqD
   have hd:dep (.lst x)=fP x+1:=by conv=>lhs;unfold dep
   rw[hd]at hu
   have hin:A.in1.units+fP x<cLine:=by show A.units+1+fP x<cLine;omega
   rw[e]
   by_cases hsz:itsa.length=itsb.length
   ·have e3:gA x y=(List.range itsa.toArray.size).all (pairE x y):=by rw[<-oH,List.size_toArray,n1];simp[show x.length=y.length by omega]
    rw[e3]
    refine  (RcNeAt.lists ila ilb (by simpa using hsz) (by omega) fun j j1 j2=>?_)
    have:=nJ I x y A.in1 wsa wsb itsa itsb hra hrb rva rvb hin (by simpa using px) (by simpa using py) j (by simpa using j1) (by simpa using j2)
    simpa using this
   ·rw[aA9 (by omega)]
    exact  (RcNeAt.lists_lengths ila ilb (by simpa using hsz) (by omega))
 | .dct _ _ _,y,A,v,u,a,b,ra,rb,va,vb,hu,px,py=>by simp at px
 | .ins _ _ _,y,A,v,u,a,b,ra,rb,va,vb,hu,px,py=>by simp at px
 | .exn _ _ _,y,A,v,u,a,b,ra,rb,va,vb,hu,px,py=>by simp at px
 | .fn _,y,A,v,u,a,b,ra,rb,va,vb,hu,px,py=>by simp at px
end
end Pu
namespace Pu
open PySem PySem.Spec PyProof.Rows L2
section
variable{X:Cx}{B:List Addr}{a b e:Expr}{f g:Ex}{pos:Pos}
theorem mR.rep{K:Frag}{A:List Addr}{H:Hp}{d:D}{v:V}(h:mR K A H d v):Rep K H d v:=by
 rcases h with h | ⟨a,k,o,ds,vs,e1,e2,e3,ko,q⟩
 ·exact h.mono (bH _ _)
 ·subst e1 e2
  exact ko.rep e3 (q.mono (bH _ _))
def aXo(K:Frag)(neg:Bool):R2:=fun v u H Q=>∃ x y,Rep K H x v/\Rep K H y u/\(dep x<=64/\plain x=true/\plain y=true)/\Q (.bl (if neg then !eqD x y else eqD x y)) H
theorem eX(hu:X.A.units+64<cLine):OpR X (compareOp .Eq) (aXo X.K false):=by
 intro pins s σ H v u a b Q I ra rb h
 obtain⟨x,y,rx,ry,hd,q⟩:=h
 exact aUq I x y X.A v u a b rx ry ra rb (by omega) hd.2.1 hd.2.2 X.prog X.w X.xe _ ⟨.bl _,H,I,rfl,q⟩
theorem aCj(hu:X.A.units+64<cLine):OpR X (compareOp .NotEq) (aXo X.K true):=by
 intro pins s σ H v u a b Q I ra rb h
 obtain⟨x,y,rx,ry,hd,q⟩:=h
 exact aUr I x y X.A v u a b rx ry ra rb (by omega) hd.2.1 hd.2.2 X.prog X.w X.xe _ ⟨.bl _,H,I,rfl,q⟩
theorem eY{K:Frag}:aA6 K (aXo K false) dEq:=by
 intro A H x y d v u Q w rx ry e q
 obtain⟨c,e⟩:=aK e
 cases e
 exact⟨x,y,rx.rep,ry.rep,c,q _ H (bA.refl _) (bL.mpr rfl)⟩
theorem aCk{K:Frag}:aA6 K (aXo K true) dNe:=by
 intro A H x y d v u Q w rx ry e q
 obtain⟨c,e⟩:=aK e
 cases e
 exact⟨x,y,rx.rep,ry.rep,c,q _ H (bA.refl _) (bL.mpr rfl)⟩
def tyD:D->String
 | .non => "NoneType"
 | .bl _ => "bool"
 | .int _ => "int"
 | .str _ => "str"
 | .tup _ => "tuple"
 | .lst _ => "list"
 | .dct _ _ _ => "dict"
 | .ins _ _ _ => ""
 | .exn _ _ _ => ""
 | .fn _ => ""
structure IsT(T:String)(p:D->Bool):Prop where
 boot:bootBuiltins T=some (.type T)
 ans:∀ (K:Frag) (d:D),aEc d=true->PySem.W.kitOne K (.type (tyD d)) (.type T)=some (p d)
theorem aUs{T:String}{p:D->Bool}(h:IsT T p):nZ X (.builtin "isinstance") (fun xs H Q=>∃ v d,xs=[v,.ty T]/\aEc d=true/\Rep X.K H d v/\Q (.bl (p d)) H):=by
 intro pins s σ H xs us Q I r q
 obtain⟨v,d,rfl,hbl,rd,q⟩:=q
 obtain⟨u,u2,rfl,ru,ru2⟩:=r.two
 have e2:u2=Value.type T:=ru2
 subst e2
 have fin:∀ tk,EP X pins σ Q (.bool (p d)) {s with toks:=tk}:=fun tk=>⟨.bl (p d),H,I.tok tk,rfl,q⟩
 have e:=h.ans X.K d hbl
 cases d with
 | non=>have z:=cC.mp rd;subst z;have z:u=Value.none:=ru;subst z;exact kia_one PySem.W.kitx_none I.kIn True.intro e (fun z=>nomatch z) fin
 | bl x=>have z:=bL.mp rd;subst z;have z:u=Value.bool x:=ru;subst z;exact kia_one PySem.W.kitx_bool I.kIn True.intro e (fun z=>nomatch z) fin
 | int x=>have z:=aU.mp rd;subst z;obtain⟨t,z⟩:∃ t,u=Value.int x t:=ru;subst z;exact kia_one PySem.W.kitx_int I.kIn True.intro e (fun z=>nomatch z) fin
 | str x=>have z:=bI.mp rd;subst z;obtain⟨t,z⟩:∃ t,u=Value.str ⟨x.toArray⟩ t:=ru;subst z;exact kia_one PySem.W.kitx_str I.kIn True.intro e (fun z=>nomatch z) fin
 | tup x =>
  obtain⟨l,vs,z,hq,_⟩:=bJ rd;subst z
  have z:u=Value.ref l:=ru;subst z
  obtain⟨its,_,⟨o,h1,h2,_⟩,_⟩:=I.tuple hq
  exact kia_one PySem.W.kitx_tuple I.kIn ⟨o,h1,h2⟩ e (fun z=>nomatch z) fin
 | lst x =>
  obtain⟨l,vs,z,hq,_⟩:=bU.mp rd;subst z
  have z:u=Value.ref l:=ru;subst z
  obtain⟨its,_,⟨o,n,h1,h2,_⟩,_⟩:=I.list hq
  exact kia_one PySem.W.kitx_list I.kIn ⟨o,h1,h2⟩ e (fun z=>nomatch z) fin
 | dct t ks x =>
  obtain⟨l,vs,z,hq,_⟩:=aBg.mp rd;subst z
  have z:u=Value.ref l:=ru;subst z
  have hd:∃ o,s.heap.get? l=some o/\o.ExactDict:=by
   rcases hq with ⟨_,kvs,hq,_⟩ | ⟨_,kvs,hq,_⟩
   ·obtain⟨_,_,vs',_,m⟩:kvs.length<=sizeLine/\(l==sysModules)=false/\∃ vs,KV kvs vs/\s.heap.DictOf (fK X.prog X.w) l vs:=I.hok l _ hq
    obtain⟨o,es,n,h1,h2,_⟩:=m
    exact⟨o,h1,h2⟩
   ·obtain⟨_,_,xs,_,o,es,ep,h1,h2,_⟩:=I.hok l _ hq
    exact⟨o,h1,h2⟩
  obtain⟨o,h1,h2⟩:=hd
  exact kia_one PySem.W.kitx_dict I.kIn ⟨o,h1,h2.1⟩ e (fun z=>nomatch z) fin
 | ins _ _ _=>exact nomatch hbl
 | exn _ _ _=>exact nomatch hbl
 | fn _=>exact nomatch hbl
theorem lX{T:Str}{S:String}{p:D->Bool}  (hT:IsT S p) (hm:X.mg "isinstance" = none) (hmT:X.mg T=none) (ha:PE X a (tP X.K B f)) (hST:bootBuiltins T=some (.type S):=by first | rfl | exact hT.boot) (hg:Gl X "isinstance" := by rfl) (hgT:Gl X T:=by rfl) (hnT:T ≠ "__name__" := by decide) (hdT:(T==("__debug__" : Str))=false:=by decide)
  (hs:starEach [a,.Name T p1] X.env=(false,eval a X.env)::starEach [.Name T p1] X.env:=by rfl) (hs2:starEach [.Name T p1] X.env=(false,eval (.Name T p1) X.env)::starEach [] X.env:=by rfl) :
  PE X (.Call (.Name "isinstance" p0) [a,.Name T p1] [] pos) (tI X.K B (eB p f)):=by
 have hTy:PE X (.Name T p1) (tC (.ty S)):=aVr hgT hmT hST rfl hnT hdT
 refine cQ (rZ (aUs hT) hg hm boot_isinstance (eQ ha (eQ hTy jP hs2) hs) (he:=hs)) ?_
 rintro σ H Q ⟨A,st,d,rs,hd,q⟩
 obtain⟨x,hx,h2⟩:=R.ok_of hd
 obtain⟨hbl,h2⟩:=aK h2
 cases h2
 exact⟨A,st,x,rs,hx,fun v H1 s1 r1=>⟨v,x,rfl,hbl,r1.rep,q _ H1 s1 (bL.mpr rfl)⟩⟩
theorem ty_str:IsT "str" bA8:=⟨rfl,fun K d hb=>by cases d<;>first | (cases hb;done) | kernel_rfl⟩
theorem ty_bool:IsT "bool" aQ7:=⟨rfl,fun K d hb=>by cases d<;>first | (cases hb;done) | kernel_rfl⟩
theorem ty_int:IsT "int" isIn:=⟨rfl,fun K d hb=>by cases d<;>first | (cases hb;done) | kernel_rfl⟩
theorem ty_tuple:IsT "tuple" bA9:=⟨rfl,fun K d hb=>by cases d<;>first | (cases hb;done) | kernel_rfl⟩
theorem ty_list:IsT "list" aQ8:=⟨rfl,fun K d hb=>by cases d<;>first | (cases hb;done) | kernel_rfl⟩
end
end Pu
namespace Pu
open PySem PySem.Spec PyProof.Rows L2 PySem.SeqAt PySem.StrLaws
theorem aMz(x y:List Nat)(i:Nat):Builtin.Str.subAt ⟨x.toArray⟩ ⟨y.toArray⟩ i=((x.drop i).take y.length==y):=by
 rw[subAt_eq]
 simp[Str.length]
theorem aKx(s sub:Str)(hi:Nat):∀ (l:List Nat) (st:Array Nat × Nat),1<=st.1.size->(forIn l st (occBody s sub hi 1)).run.fst=st.1
 | [],st,h=>rfl
 | a::l,st,h=>by
  rw[forIn_cons]
  unfold occBody
  rw[if_neg (fun z=>by have:=z.1.1.1;omega)]
  exact aKx s sub hi l (st.1,st.2) h
theorem aKy(s sub:Str)(hi:Nat):∀ (l:List Nat) (free:Nat),(∀ i∈l,free<=i) ->
  (forIn l ((#[]:Array Nat),free) (occBody s sub hi 1)).run.fst.toList=(l.find? fun i=>decide (i+sub.length<=hi)&&Builtin.Str.subAt s sub i).toList
 | [],free,_=>rfl
 | a::l,free,hf=>by
  rw[forIn_cons]
  have ha:free<=a:=hf a mem_cons_self
  by_cases hc:a+sub.length<=hi/\Builtin.Str.subAt s sub a=true
  ·have e:(decide (a+sub.length<=hi)&&Builtin.Str.subAt s sub a)=true:=by rw[hc.2,decide_eq_true hc.1];rfl
   rw[List.find?_cons_of_pos (p:=fun i=>decide (i+sub.length<=hi)&&Builtin.Str.subAt s sub i) e]
   have e2:occBody s sub hi 1 a ((#[]:Array Nat),free)=pure (ForInStep.yield ((#[]:Array Nat).push a,a+sub.length)):=by
    unfold occBody
    exact if_pos ⟨⟨⟨by simp,ha⟩,hc.1⟩,hc.2⟩
   rw[e2]
   show (forIn l (((#[]:Array Nat).push a),a+sub.length) (occBody s sub hi 1)).run.fst.toList=_
   rw[aKx s sub hi l _ (by simp)]
   rfl
  ·have e:¬ (decide (a+sub.length<=hi)&&Builtin.Str.subAt s sub a)=true:=fun z=>hc (by simpa using z)
   rw[List.find?_cons_of_neg (p:=fun i=>decide (i+sub.length<=hi)&&Builtin.Str.subAt s sub i) e]
   have e2:occBody s sub hi 1 a ((#[]:Array Nat),free)=pure (ForInStep.yield ((#[]:Array Nat),free)):=by
    unfold occBody
    exact if_neg fun h=>hc ⟨h.1.2,h.2⟩
   rw[e2]
   exact aKy s sub hi l free fun i hi'=>hf i (mem_cons_of_mem _ hi')
theorem aCl(x y:List Nat)(lo:Nat):Builtin.Str.occurrences ⟨x.toArray⟩ ⟨y.toArray⟩ lo (⟨x.toArray⟩:Str).length 1=(jR x y lo).toList:=by
 rw[occ_eq,aKy _ _ _ _ _ (fun i hi=>by simp[List.mem_range']at hi;omega)]
 unfold jR
 simp only[aMz,str_len]
theorem aXp(x y:List Nat):Txt.find ⟨x.toArray⟩ ⟨y.toArray⟩=rC (jR x y 0):=by
 unfold Txt.find
 rw[aCl]
 cases jR x y 0<;>rfl
theorem aUt(x y:List Nat)(i:Int)(h:0<=i):Txt.find3 ⟨x.toArray⟩ ⟨y.toArray⟩ i=rC (jR x y i.toNat):=by
 have e:fromIndex (⟨x.toArray⟩:Str).length i=i.toNat:=by unfold fromIndex;rw[if_neg (by omega)];omega
 unfold Txt.find3
 rw[e,aCl]
 cases jR x y i.toNat<;>rfl
theorem lY{α:Type}(p:α->Bool):∀ x:List α,x.drop (x.takeWhile p).length=x.dropWhile p
 | []=>rfl
 | a::x=>by
  cases h:p a with
  | true=>rw[List.takeWhile_cons_of_pos h,List.dropWhile_cons_of_pos h,length_cons,List.drop_succ_cons,lY p x]
  | false=>rw[List.takeWhile_cons_of_neg (by simp[h]),List.dropWhile_cons_of_neg (by simp[h])];rfl
theorem zE(p:α->Bool)(x:List α):(x.takeWhile p).length+(x.dropWhile p).length=x.length:=by
 rw[<-length_append,List.takeWhile_append_dropWhile]
theorem aUu(x y:List Nat):Txt.stripChars ⟨x.toArray⟩ ⟨y.toArray⟩=⟨(rD x y).toArray⟩:=by
 have hp:(y.toArray.contains:Nat->Bool)=fun c=>y.contains c:=by funext c;simp
 have key:Builtin.Str.strSub ⟨x.toArray⟩ (stripLo y.toArray.contains true ⟨x.toArray⟩) (stripHi y.toArray.contains true ⟨x.toArray⟩ (stripLo y.toArray.contains true ⟨x.toArray⟩))=⟨(rD x y).toArray⟩:=by
  unfold stripLo stripHi
  rw[hp]
  simp only[if_true]
  rw[lY]
  unfold rD
  generalize hq:(fun c=>y.contains c)=q
  have l1:=zE q x
  have l2:=zE q (x.dropWhile q).reverse
  rw[List.length_reverse]at l2
  unfold Builtin.Str.strSub
  simp only[str_len]
  congr 1
  apply ext'
  rw[Array.toList_extract]
  simp only[List.toList_toArray,List.extract_eq_take_drop]
  rw[lY]
  have e3:((x.dropWhile q).reverse.dropWhile q).reverse=(x.dropWhile q).take ((x.dropWhile q).length-((x.dropWhile q).reverse.takeWhile q).length):=by
   have:(x.dropWhile q).reverse.dropWhile q=(x.dropWhile q).reverse.drop ((x.dropWhile q).reverse.takeWhile q).length:=(lY q _).symm
   rw[this,List.drop_reverse,List.reverse_reverse]
  rw[e3]
  congr 1
  omega
 unfold Txt.stripChars Txt.stripBy
 by_cases h:stripSame y.toArray.contains true true ⟨x.toArray⟩=true
 ·rw[if_pos h]
  unfold stripSame at h
  rw[and_eq_true,beq_iff_eq,beq_iff_eq]at h
  rw[h.2,h.1]at key
  rw[<-key]
  unfold Builtin.Str.strSub
  simp[str_len]
 ·rw[if_neg h]
  exact key
section
variable   {a b o:Expr}  
theorem bEv{id:String}{m:Mop}{r:Exs}   {q:V->List V->Hp->VK->Prop} (slot:Slot "str" name id) (hty:typeOf (.builtin id)=pure (.type "method_descriptor")) (hm:MtR X id q)
  (hk:∀ x xs d,m x xs = .ok d->∃ s,x = .str s) (sem:∀ (A:List Addr) (H:Hp) (x d:D) (xs:List D) (v:V) (vs:List V) (Q:VK),Own A H->mR X.K A H x v->bD X.K (hide A H) xs vs->m x xs = .ok d->(∀ w H',bA H H'->Rep X.K (hide A H') d w->Q w H')->q v vs H Q)
  (ho:PE X o (tP X.K B f)) (ha:PA X (e::es) (tA X.K B r))
  (hbase:attributeBase o name X.env (eval o X.env)=eval o X.env:=by rfl)
  (hfew:((backTo cpos (starEach (e::es) X.env)).all (fun x => !x.1)&&(backToKw cpos (keywordEach [] X.env)).all (fun x=>x.1.isSome)
   && decide ((e::es).length+([]:List Keyword).length+(if ([]:List Keyword).isEmpty then 0 else 1)<30))=true:=by rfl)
  (hline:(apos.endLine==cpos.line)=true:=by rfl) (hs:starEach (e::es) X.env=(false,eval e X.env)::starEach es X.env:=by rfl) (hplain:(backTo cpos (starEach es X.env)).any (·.1)=false:=by rfl) :
  PE X (.Call (.Attribute o name apos) (e::es) [] cpos) (tI X.K B (eMt m f r)):=by
 refine cQ (aNo PySem.F.plainAttrs_str slot hty hm ho ha hbase hfew hline hs hplain) ?_
 rintro σ H Q ⟨A,st,d,rs,hd,k⟩
 obtain⟨x,hx,h2⟩:=R.ok_of hd
 obtain⟨xs,hxs,h3⟩:=R.ok_of h2
 obtain⟨s,rfl⟩:=hk x xs d h3
 refine⟨A,st,_,rs,hx,fun v H1 s1 r1=>⟨?_,A,st,xs,rs.mono s1,hxs,fun vs H2 s2 r2=>?_⟩⟩
 ·rw[r1.str];rfl
 ·exact sem (A++B) H2 _ d xs v vs Q (rs.own.mono (s1.trans s2)) (r1.mono s2) r2 h3 fun w H' s' r'=>k w H' (s1.trans (s2.trans s')) r'
theorem aP4{K:Frag}    (h:bD K H [d] vs):∃ v,vs=[v]/\Rep K H d v:=by
 obtain⟨v,r,rfl,h1,h2⟩:=bT.mp h
 rw[cY.mp h2]
 exact⟨v,rfl,h1⟩
theorem bEw{K:Frag}  {e:D}  (h:bD K H [d,e] vs):∃ v u,vs=[v,u]/\Rep K H d v/\Rep K H e u:=by
 obtain⟨v,r,rfl,h1,h2⟩:=bT.mp h
 obtain⟨u,rfl,h3⟩:=aP4 h2
 exact⟨v,u,rfl,h1,h3⟩
theorem aXq:MtR X "str.find" (fun x vs H Q=>∃ (s:List Nat),x = .str ⟨s.toArray⟩/\((∃ y:List Nat,vs=[.str ⟨y.toArray⟩]/\Q (.int (rC (jR s y 0))) H)\/∃ (y:List Nat) (i:Int),vs=[.str ⟨y.toArray⟩,.int i]/\0<=i/\Q (.int (rC (jR s y i.toNat))) H)):=by
 intro pins s σ H x vs v us Q I rx rv h
 obtain⟨z,rfl,h⟩:=h
 obtain⟨t,rfl⟩:=rx
 rcases h with ⟨y,rfl,q⟩ | ⟨y,i,rfl,hi,q⟩
 ·obtain⟨u,rfl,t2,rfl⟩:=rv.one
  exact SC.find ⟨.int _,H,I.tok _,⟨_,rfl⟩,by rw[aXp];exact q⟩
 ·obtain⟨u,u2,rfl,⟨t2,rfl⟩,⟨t3,rfl⟩⟩:=rv.two
  exact SC.find3 ⟨.int _,H,I.tok _,⟨_,rfl⟩,by rw[aUt _ _ _ hi];exact q⟩
theorem aUv:MtR X "str.strip" (fun x vs H Q=>∃ (s y:List Nat),x = .str ⟨s.toArray⟩/\vs=[.str ⟨y.toArray⟩]/\s.length<=sizeLine/\Q (.str ⟨(rD s y).toArray⟩) H):=by
 intro pins s σ H x vs v us Q I rx rv h
 obtain⟨z,y,rfl,rfl,hz,q⟩:=h
 obtain⟨t,rfl⟩:=rx
 obtain⟨u,rfl,t2,rfl⟩:=rv.one
 exact SC.stripChars (fun t' k=>⟨.str ⟨(rD z y).toArray⟩,H,I.tok _,⟨_,by rw[aUu]⟩,q⟩) (by rw[str_len];exact hz)
end
end Pu
namespace Pu
open PySem PySem.Spec PyProof.Rows L2 PySem.SeqAt
section
variable{X:Cx}{B:List Addr}{a b e o:Expr}{f g:Ex}{pos:Pos}{r:Exs}{es:List Expr}{apos cpos:Pos}
theorem bBl(ho:PE X o (tP X.K B f))(ha:PA X (e::es) (tA X.K B r))(hbase:attributeBase o "find" X.env (eval o X.env)=eval o X.env:=by rfl)
  (hfew:((backTo cpos (starEach (e::es) X.env)).all (fun x => !x.1)&&(backToKw cpos (keywordEach [] X.env)).all (fun x=>x.1.isSome)
   && decide ((e::es).length+([]:List Keyword).length+(if ([]:List Keyword).isEmpty then 0 else 1)<30))=true:=by rfl)
  (hline:(apos.endLine==cpos.line)=true:=by rfl) (hs:starEach (e::es) X.env=(false,eval e X.env)::starEach es X.env:=by rfl) (hplain:(backTo cpos (starEach es X.env)).any (·.1)=false:=by rfl) :
  PE X (.Call (.Attribute o "find" apos) (e::es) [] cpos) (tI X.K B (eMt aGs f r)):=by
 refine bEv (m:=aGs) PySem.F.slot_str_find PySem.F.type_str_find aXq (fun x xs d h=>?_) (fun A H x d xs v vs Q w rx rxs h k=>?_) ho ha hbase hfew hline hs hplain
 ·cases x<;>first | exact⟨_,rfl⟩ | exact nomatch h
 ·unfold aGs at h
  split at h
  ·cases h
   obtain⟨u,rfl,ru⟩:=aP4 rxs
   exact⟨_,rx.str,.inl ⟨_,by rw[bI.mp ru],k _ H (bA.refl _) (aU.mpr rfl)⟩⟩
  ·obtain⟨c,h⟩:=aK h
   cases h
   obtain⟨u,u2,rfl,ru,ru2⟩:=bEw rxs
   exact⟨_,rx.str,.inr ⟨_,_,by rw[bI.mp ru,aU.mp ru2],c,k _ H (bA.refl _) (aU.mpr rfl)⟩⟩
  ·cases h
theorem aXr(ho:PE X o (tP X.K B f))(ha:PA X (e::es) (tA X.K B r))(hbase:attributeBase o "strip" X.env (eval o X.env)=eval o X.env:=by rfl)
  (hfew:((backTo cpos (starEach (e::es) X.env)).all (fun x => !x.1)&&(backToKw cpos (keywordEach [] X.env)).all (fun x=>x.1.isSome)
   && decide ((e::es).length+([]:List Keyword).length+(if ([]:List Keyword).isEmpty then 0 else 1)<30))=true:=by rfl)
  (hline:(apos.endLine==cpos.line)=true:=by rfl) (hs:starEach (e::es) X.env=(false,eval e X.env)::starEach es X.env:=by rfl) (hplain:(backTo cpos (starEach es X.env)).any (·.1)=false:=by rfl) :
  PE X (.Call (.Attribute o "strip" apos) (e::es) [] cpos) (tI X.K B (eMt aEd f r)):=by
 refine bEv (m:=aEd) PySem.F.slot_str_strip PySem.F.type_str_strip aUv (fun x xs d h=>?_) (fun A H x d xs v vs Q w rx rxs h k=>?_) ho ha hbase hfew hline hs hplain
 ·cases x<;>first | exact⟨_,rfl⟩ | exact nomatch h
 ·unfold aEd at h
  split at h
  ·obtain⟨c,h⟩:=aK h
   cases h
   obtain⟨u,rfl,ru⟩:=aP4 rxs
   exact⟨_,_,rx.str,by rw[bI.mp ru],lim c,k _ H (bA.refl _) (bI.mpr rfl)⟩
  ·cases h
theorem aKz(ha:PE X a (tP X.K B f)):PE X (.UnaryOp .USub a pos) (tI X.K B (e1 aDi f)):=by
 refine cQ (bCz aZw ha) ?_
 rintro σ H Q ⟨A,st,d,rs,hd,q⟩
 obtain⟨x,hx,h2⟩:=R.ok_of hd
 refine⟨A,st,x,rs,hx,fun v H1 s1 r1=>?_⟩
 cases x<;>first | (cases h2;done) | skip
 cases h2
 exact⟨_,r1.int,q _ H1 s1 (aU.mpr rfl)⟩
open Classical in
noncomputable def yU(K:Frag)(H:Hp)(x:D)(u:Value):Bool:=if ∃ d z,Rep K H d z/\RelV z u/\plain d=true/\eqD d x=true then true else false
theorem aP5(I:Inv X pins σ H s){x:D}{z:V}{u:Value}(r:Rep X.K H d z)(rz:RelV z u)(pd:plain d=true):yU X.K H x u=eqD d x:=by
 unfold yU
 split
 ·rename_i h
  obtain⟨d',z',r',rz',pd',e⟩:=h
  have:=RelV.inj rz rz'
  subst this
  rw[Rep.inj I pd pd' r r',e]
 ·rename_i h
  cases hb:eqD d x with
  | false=>rfl
  | true=>exact(h ⟨d,z,r,rz,pd,hb⟩).elim
theorem aFs{pins:List (Addr × Obj)}{σ:LSt}{H:Hp}{s:Shared}(I:Inv X pins σ H s){x:D}:∀ {ds:List D} {zs:List V} {us:List Value},bD X.K H ds zs->Vals zs us->eV ds=true->us.any (yU X.K H x)=inD x ds
 | [],zs,us,r,v,_=>by
  have e:=cY.mp r;subst e;cases v;rfl
 | d::ds,zs,us,r,v,p=>by
  obtain⟨z,r',e,h1,h2⟩:=bT.mp r;subst e
  simp only[oA,and_eq_true]at p
  cases v with
  | cons v vs =>
   rw[any_cons,aP5 I h1 v p.1,aFs I h2 vs p.2]
   unfold inD
   rw[any_cons]
theorem aFt{pins:List (Addr × Obj)}{σ:LSt}{H:Hp}{s:Shared}(I:Inv X pins σ H s){A:Around}{x:D}{zx:V}{ux:Value}(rx:Rep X.K H x zx)(vx:RelV zx ux)(px:plain x=true):∀ {ds:List D} {zs:List V} {us:List Value},bD X.K H ds zs->Vals zs us->eV ds=true->A.units+fP ds<cLine->∀ u∈us,EqAt A s u ux (yU X.K H x u)
 | [],zs,us,r,v,_,_=>by
  have e:=cY.mp r;subst e;cases v;exact fun u hu=>nomatch hu
 | d::ds,zs,us,r,v,p,hd=>by
  obtain⟨z,r',e,h1,h2⟩:=bT.mp r;subst e
  simp only[oA,and_eq_true]at p
  rw[aQb]at hd
  cases v with
  | cons v vs =>
   intro u hu
   rcases List.mem_cons.mp hu with rfl | hu
   ·rw[aP5 I h1 v p.1]
    exact aKw I d x A z zx _ ux h1 rx v vx (by omega) p.1 px
   ·exact aFt I rx vx px h2 vs p.2 (by omega) u hu
def aXs(K:Frag)(neg:Bool):R2:=fun v u H Q=>(∃ a o,u = .ref a/\yS H a v o/\Q (.bl (if neg then !o.isSome else o.isSome)) H)\/(∃ x ds zs p,u = .ref p/\(SqL K H p zs\/SqT K H p zs)/\Rep K H x v/\bD K H ds zs/\fP ds<=60/\plain x=true/\eV ds=true/\Q (.bl (if neg then !inD x ds else inD x ds)) H) \/
 ∃ i j:List Nat,v = .str ⟨i.toArray⟩/\u = .str ⟨j.toArray⟩/\Q (.bl (if neg then !(jR j i 0).isSome else (jR j i 0).isSome)) H
theorem some_of(x y:List Nat):(!(Builtin.Str.occurrences ⟨x.toArray⟩ ⟨y.toArray⟩ 0 (⟨x.toArray⟩:Str).length 1).isEmpty)=(jR x y 0).isSome:=by
 rw[aCl]
 cases jR x y 0<;>rfl
theorem aIy(hu:X.A.units+64<cLine):OpR X (compareOp .In) (aXs X.K false):=by
 intro pins s σ H v u a b Q I ra rb h
 rcases h with ⟨p,o,rfl,g,q⟩ | ⟨x,ds,zs,p,rfl,hq,rx,rds,hd,px,pd,q⟩ | ⟨i,j,rfl,rfl,q⟩
 ·cases rb
  exact bGm (by omega) I g ra fun s' I'=>⟨.bl _,H,I',rfl,q⟩
 ·cases rb
  have hin:X.A.in1.units+fP ds<cLine:=by show X.A.units+1+fP ds<cLine;omega
  rcases hq with hq | hq
  ·obtain⟨its,r,pl,hz⟩:=I.list hq
   refine SeqAt.in_listAt (yU X.K H x) pl.isList (fun w hw=>aFt I rx ra px rds r pd hin w (by simpa using hw)) ⟨.bl _,H,I,rfl,?_⟩
   rw[show its.toArray.any (yU X.K H x)=its.any (yU X.K H x) by simp,aFs I rds r pd]
   exact q
  ·obtain⟨its,r,pl,hz⟩:=I.tuple hq
   refine SeqAt.in_tupleAt (yU X.K H x) pl (fun w hw=>aFt I rx ra px rds r pd hin w (by simpa using hw)) ⟨.bl _,H,I,rfl,?_⟩
   rw[show its.toArray.any (yU X.K H x)=its.any (yU X.K H x) by simp,aFs I rds r pd]
   exact q
 ·refine aPw pins s σ H _ _ a b Q I ra rb ⟨_,_,rfl,rfl,?_⟩
  rw[some_of]
  exact q
theorem tH(hu:X.A.units+64<cLine):OpR X (compareOp .NotIn) (aXs X.K true):=by
 intro pins s σ H v u a b Q I ra rb h
 rcases h with ⟨p,o,rfl,g,q⟩ | ⟨x,ds,zs,p,rfl,hq,rx,rds,hd,px,pd,q⟩ | ⟨i,j,rfl,rfl,q⟩
 ·cases rb
  exact aW9 (by omega) I g ra fun s' I'=>⟨.bl _,H,I',rfl,q⟩
 ·cases rb
  have hin:X.A.in1.units+fP ds<cLine:=by show X.A.units+1+fP ds<cLine;omega
  rcases hq with hq | hq
  ·obtain⟨its,r,pl,hz⟩:=I.list hq
   refine SeqAt.notIn_listAt (yU X.K H x) pl.isList (fun w hw=>aFt I rx ra px rds r pd hin w (by simpa using hw)) ⟨.bl _,H,I,rfl,?_⟩
   rw[show its.toArray.any (yU X.K H x)=its.any (yU X.K H x) by simp,aFs I rds r pd]
   exact q
  ·obtain⟨its,r,pl,hz⟩:=I.tuple hq
   refine SeqAt.notIn_tupleAt (yU X.K H x) pl (fun w hw=>aFt I rx ra px rds r pd hin w (by simpa using hw)) ⟨.bl _,H,I,rfl,?_⟩
   rw[show its.toArray.any (yU X.K H x)=its.any (yU X.K H x) by simp,aFs I rds r pd]
   exact q
 ·refine aHx pins s σ H _ _ a b Q I ra rb ⟨_,_,rfl,rfl,?_⟩
  rw[some_of]
  exact q
theorem aIz{K:Frag}:aA6 K (aXs K false) dIn:=by
 intro A H x y d v u Q w rx ry e q
 unfold dIn at e
 split at e
 ·obtain⟨c,e⟩:=aK e
  cases e
  rename_i t ks ds
  have rxr:Rep K H x v:=rx.rep
  obtain⟨a,o,e1,g,g1,_⟩:=aDx ry rxr c
  exact .inl ⟨a,o,e1,g,by rw[g1];exact q _ H (bA.refl _) (bL.mpr rfl)⟩
 ·obtain⟨c,e⟩:=aK e
  cases e
  obtain⟨p,zs,h1,h2,h3⟩:=ry.lst
  exact .inr (.inl ⟨_,_,zs,p,h1,.inl h2,rx.rep,h3.mono (bH _ _),c.1,c.2.1,c.2.2,q _ H (bA.refl _) (bL.mpr rfl)⟩)
 ·obtain⟨c,e⟩:=aK e
  cases e
  obtain⟨p,zs,h1,h2,h3⟩:=ry.tup
  exact .inr (.inl ⟨_,_,zs,p,h1,.inr h2,rx.rep,h3.mono (bH _ _),c.1,c.2.1,c.2.2,q _ H (bA.refl _) (bL.mpr rfl)⟩)
 ·cases e
  exact .inr (.inr ⟨_,_,rx.str,ry.str,q _ H (bA.refl _) (bL.mpr rfl)⟩)
 ·cases e
theorem tK{K:Frag}:aA6 K (aXs K true) mW:=by
 intro A H x y d v u Q w rx ry e q
 unfold mW at e
 split at e
 ·obtain⟨c,e⟩:=aK e
  cases e
  rename_i t ks ds
  have rxr:Rep K H x v:=rx.rep
  obtain⟨a,o,e1,g,g1,_⟩:=aDx ry rxr c
  exact .inl ⟨a,o,e1,g,by rw[g1];exact q _ H (bA.refl _) (bL.mpr rfl)⟩
 ·obtain⟨c,e⟩:=aK e
  cases e
  obtain⟨p,zs,h1,h2,h3⟩:=ry.lst
  exact .inr (.inl ⟨_,_,zs,p,h1,.inl h2,rx.rep,h3.mono (bH _ _),c.1,c.2.1,c.2.2,q _ H (bA.refl _) (bL.mpr rfl)⟩)
 ·obtain⟨c,e⟩:=aK e
  cases e
  obtain⟨p,zs,h1,h2,h3⟩:=ry.tup
  exact .inr (.inl ⟨_,_,zs,p,h1,.inr h2,rx.rep,h3.mono (bH _ _),c.1,c.2.1,c.2.2,q _ H (bA.refl _) (bL.mpr rfl)⟩)
 ·cases e
  exact .inr (.inr ⟨_,_,rx.str,ry.str,q _ H (bA.refl _) (bL.mpr rfl)⟩)
 ·cases e
end
end Pu
namespace Pu
open PySem PySem.Spec PyProof.Rows L2
section
variable{X:Cx}{B:List Addr}{a b e:Expr}{f g:Ex}{pos:Pos}
theorem aHi(i:Nat){x:Str}  (he:PE X e (tI X.K B f)) (hN:X.N[i]?=some x:=by rfl) (hv:Vis X.env.scope x:=by first | exact Or.inl rfl | exact Or.inr (Or.inl rfl) | exact Or.inr (Or.inr rfl)) (hd:(x==("__debug__" : Str))=false:=by decide)
  (hcd:(x==("__classdict__" : Str))=false:=by decide) (hbase:attributeBase (.Name x p1) "append" X.env (eval (.Name x p1) X.env)=eval (.Name x p1) X.env:=by rfl)
  (hfew:((backTo cpos (starEach [e] X.env)).all (fun x => !x.1)&&(backToKw cpos (keywordEach [] X.env)).all (fun x=>x.1.isSome)
   && decide (([e]:List Expr).length+([]:List Keyword).length+(if ([]:List Keyword).isEmpty then 0 else 1)<30))=true:=by rfl)
  (hline:(apos.endLine==cpos.line)=true:=by rfl) (hs:starEach [e] X.env=(false,eval e X.env)::starEach [] X.env:=by rfl)
  (hsw:swapsWith (.Call (.Attribute (.Name x p1) "append" apos) [e] [] cpos) none pos.line X.env=pure false:=by rfl) :
  PS X (.Expr (.Call (.Attribute (.Name x p1) "append" apos) [e] [] cpos) pos) (tS X.K B (aC5 i f)):=by
 refine gD (aHv (aNo PySem.F.plainAttrs_list PySem.F.slot_list_append PySem.F.type_list_append aQ1 (tW hN hv hd hcd) (eQ he jP hs) hbase hfew hline hs rfl) hsw) ?_
 rintro Dn σ H ⟨A,st,r,rs,hr,p⟩
 obtain⟨d,hd,h3⟩:=R.ok_of hr
 split at h3
 ·rename_i xs e1
  obtain⟨c,h4⟩:=aK h3
  cases h4
  obtain⟨l,o,vs,e2,m,h1,ko,q,u⟩:=rs.lst i _ xs e1
  have eo:o = .lst vs:=ko
  subst eo
  refine⟨.ref l,e2,.inl ⟨rfl,vs,SqL.of h1⟩,A,st,d,rs,hd,fun v H' s rv=>?_⟩
  have ql:=q.length
  refine⟨l,vs,v,rfl,rfl,s _ _ h1,by rw[ql];rw[oK]at c;exact Nat.lt_of_lt_of_le c (by decide),?_⟩
  obtain⟨w1,w2⟩:=(rs.mono s).write e1 e2 (k1 := .l) (ds:=xs++[d]) (vs':=vs++[v]) rfl ((q.mono (bA.hide s)).append (.cons rv .nil))
  exact p A _ _ ((Le.of s).trans w2) w1
 ·cases h3
theorem bEx(i:Nat)  {j:Expr}  (hj:PE X j (tP X.K B g)) (he:PE X e (tI X.K B f)) (hN:X.N[i]?=some x:=by rfl) (hv:Vis X.env.scope x:=by first | exact Or.inl rfl | exact Or.inr (Or.inl rfl) | exact Or.inr (Or.inr rfl)) (hd:(x==("__debug__" : Str))=false:=by decide)
  (hcd:(x==("__classdict__" : Str))=false:=by decide)
  (ha:∀ v,assign (.Subscript (.Name x p1) j p2) X.env v=(do
   let ov <- holding [v] (eval (.Name x p1) X.env)
   let iv <- holding [v,ov] (eval j X.env)
   standAt p2
   holding [v,ov,iv] (setItem ov iv v)
   release [v,ov,iv] []):=by intro _;rfl)
  (hs:swapsWithSole [.Subscript (.Name x p1) j p2] e pos.line X.env=pure false:=by rfl) (hw:swappedStores [.Subscript (.Name x p1) j p2] e X.env=pure none:=by rfl)
  (h1:(assignEach [.Subscript (.Name x p1) j p2] X.env).map (·.2)=[assign (.Subscript (.Name x p1) j p2) X.env]:=by rfl) :
  PS X (.Assign [.Subscript (.Name x p1) j p2] e pos) (tS X.K B (aSn i g f)):=by
 refine gD (aLq he (aS0 (tW hN hv hd hcd) hj set_list ha) hs hw h1) ?_
 rintro Dn σ H ⟨A,st,r,rs,hr,p⟩
 obtain⟨d,hd,h3⟩:=R.ok_of hr
 obtain⟨y,hy,h4⟩:=R.ok_of h3
 obtain⟨k,rfl,h5⟩:=aEe h4
 split at h5
 ·rename_i xs e1
  obtain⟨n,hn,h6⟩:=R.ok_of h5
  cases h6
  obtain⟨l,o,vs,e2,m,h1,ko,q,u⟩:=rs.lst i _ xs e1
  have eo:o = .lst vs:=ko
  subst eo
  refine⟨A,st,d,rs,hd,fun v H' s rv=>⟨.ref l,e2,A,st,_,rs.mono s,hy,fun w H2 s2 rw2=>?_⟩⟩
  have ql:=q.length
  have hk:L2.ixN vs.length k=some n:=by rw[ql,aKn];exact xR hn
  refine⟨l,vs,k,n,rfl,rw2.int,(s.trans s2) _ _ h1,hk,?_⟩
  obtain⟨w1,w2⟩:=(rs.mono (s.trans s2)).write e1 e2 (k1 := .l) (ds:=xs.set n d) (vs':=vs.set n v) rfl (bD.set (rv.mono (bA.hide s2)) n (q.mono (bA.hide (s.trans s2))))
  exact p A _ _ ((Le.of (s.trans s2)).trans w2) w1
 ·cases h5
theorem aP6(i:Nat)  {dp:Pos} (hN:X.N.Nodup) (hi:X.N[i]?=some x:=by rfl) (hx:Loc X.env.scope x:=by first | exact Or.inl rfl | exact Or.inr rfl) (hs:swapsWith (.Dict [] [] dp) (some (.Name x pos')) pos.line X.env=pure false:=by rfl)
  (hf:X.fn x=true\/X.env.scope.names.lookup x=some .local:=by first | exact .inl rfl | exact .inr rfl | assumption):PS X (.Assign [.Name x pos'] (.Dict [] [] dp) pos) (tS X.K B (aNp i false)):=gD (aE6 hN hi hx aSi hs hf) (by
 rintro Dn σ H ⟨A,st,r,rs,hr,p⟩
 cases hr
 exact fun a ha=>p (a::A) _ _ (aFh ha) (rs.setO (kk := .d false []) i ha (.inl ⟨rfl,[],rfl,rfl,rfl⟩) .nil))
def bEy:V->V->V->Hp->(Hp->Prop)->Prop:=fun o i v H Q=>∃ p H',o = .ref p/\aI4 H p i v H'/\Q H'
theorem set_dict(hu:X.A.units+64<cLine):aZi X bEy:=by
 intro pins s σ H o i v ov iv u Q I ro ri rv h
 obtain⟨p,H',rfl,g,q⟩:=h
 cases ro
 exact aQ6 (by omega) I g ri rv fun s' I'=>⟨H',I',q⟩
theorem aJ0(hu:X.A.units+64<cLine)(i:Nat)  {j:Expr}  (hj:PE X j (tI X.K B g)) (he:PE X e (tI X.K B f)) (hN:X.N[i]?=some x:=by rfl) (hv:Vis X.env.scope x:=by first | exact Or.inl rfl | exact Or.inr (Or.inl rfl) | exact Or.inr (Or.inr rfl)) (hd:(x==("__debug__" : Str))=false:=by decide)
  (hcd:(x==("__classdict__" : Str))=false:=by decide)
  (ha:∀ v,assign (.Subscript (.Name x p1) j p2) X.env v=(do
   let ov <- holding [v] (eval (.Name x p1) X.env)
   let iv <- holding [v,ov] (eval j X.env)
   standAt p2
   holding [v,ov,iv] (setItem ov iv v)
   release [v,ov,iv] []):=by intro _;rfl)
  (hs:swapsWithSole [.Subscript (.Name x p1) j p2] e pos.line X.env=pure false:=by rfl) (hw:swappedStores [.Subscript (.Name x p1) j p2] e X.env=pure none:=by rfl)
  (h1:(assignEach [.Subscript (.Name x p1) j p2] X.env).map (·.2)=[assign (.Subscript (.Name x p1) j p2) X.env]:=by rfl) :
  PS X (.Assign [.Subscript (.Name x p1) j p2] e pos) (tS X.K B (sDPut i g f)):=by
 refine gD (aLq he (aS0 (tW hN hv hd hcd) hj (set_dict hu) ha) hs hw h1) ?_
 rintro Dn σ H ⟨A,st,r,rs,hr,p⟩
 obtain⟨d,hd,h3⟩:=R.ok_of hr
 obtain⟨k,hk,h5⟩:=R.ok_of h3
 split at h5
 ·rename_i t ks ds e1
  obtain⟨c,h6⟩:=aK h5
  cases h6
  obtain⟨l,o,vs,e2,m,h1,ko,q,u⟩:=rs.lst i _ _ e1
  refine⟨A,st,d,rs,hd,fun v H' s rv=>⟨.ref l,e2,A,st,k,rs.mono s,hk,fun w H2 s2 rk=>?_⟩⟩
  have hl:H2 l=some o:=(s.trans s2) _ _ h1
  have q2:=q.mono (bA.hide (s.trans s2))
  have rv2:=rv.mono (bA.hide s2)
  have rk2:Rep X.K H2 k w:=rk.mono (bH _ _)
  have hlen:ds.length<sizeLine:=by have:=c.2;rw[oK]at this;exact Nat.lt_of_lt_of_le this (by decide)
  have ql:=q.length
  rcases ko with ⟨rfl,kvs,rfl,rfl,rfl⟩ | ⟨rfl,kvs,rfl,rfl,rfl⟩
  ·obtain⟨k',e3,e4⟩:=aA7 rk2 c.1
   subst e3 e4
   obtain⟨z1,z2⟩:=aOy aIs k' v d rv2 kvs ds q2
   refine⟨l,_,rfl,aI4.k hl (by rw[length_map]at ql;omega),?_⟩
   obtain⟨w1,w2⟩:=(rs.mono (s.trans s2)).write e1 e2 (k1 := .d false (pI (kvs.map fun p=>mQ p.1) (mQ k'))) (.inl ⟨rfl,putK kvs k' v,rfl,z1,rfl⟩) z2
   exact p A _ _ ((Le.of (s.trans s2)).trans w2) w1
  ·obtain⟨k',b,e3,e4,e5⟩:=aD6 rk2 c.1
   subst e3 e4
   obtain⟨z1,z2⟩:=aOy (E:=fun l=>D.tup (l.map mQ)) aKp k' v d rv2 kvs ds q2
   refine⟨l,_,rfl,aI4.t hl e5 (by rw[length_map]at ql;omega),?_⟩
   obtain⟨w1,w2⟩:=(rs.mono (s.trans s2)).write e1 e2 (k1 := .d true (pI (kvs.map fun p=>D.tup (p.1.map mQ)) (.tup (k'.map mQ)))) (.inr ⟨rfl,putK kvs k' v,rfl,z1,rfl⟩) z2
   exact p A _ _ ((Le.of (s.trans s2)).trans w2) w1
 ·cases h5
theorem bH3{lo hi:Option Expr}{l u:ExO}  (ha:PE X a (tP X.K B f)) (hl:PO X lo (tO X.K B l)) (hu:PO X hi (tO X.K B u)):PE X (.Subscript a (.Slice lo hi none p2) pos) (tF X.K B (eSl f l u)):=by
 refine cQ (aJl aNn ha hl hu) ?_
 rintro σ H Q ⟨A,st,d,rs,hd,q⟩
 obtain⟨x,hx,h2⟩:=R.ok_of hd
 obtain⟨l',hl',h3⟩:=R.ok_of h2
 obtain⟨u',hu',h4⟩:=R.ok_of h3
 refine⟨A,st,x,rs,hx,fun v H1 s1 r1=>⟨A,st,l',rs.mono s1,hl',fun H2 s2=>⟨A,st,u',rs.mono (s1.trans s2),hu',fun H3 s3=>?_⟩⟩⟩
 have r3:=r1.mono (s2.trans s3)
 cases x<;>first | (cases h4;done) | skip
 ·obtain⟨c,h5⟩:=aK h4
  cases h5
 ·cases h4
  obtain⟨p,vs,e,h6,r6⟩:=r3.lst
  exact⟨p,vs,e,h6,fun n hn=>q n _ H3 (s1.trans (s2.trans s3)) hn (aKr _ _ r6)⟩
theorem aZ7(i:Nat){x:Str}  (he:PE X e (tF X.K B f)) (hN:X.N[i]?=some x:=by rfl) (hv:Vis X.env.scope x:=by first | exact Or.inl rfl | exact Or.inr (Or.inl rfl) | exact Or.inr (Or.inr rfl)) (hd:(x==("__debug__" : Str))=false:=by decide)
  (hcd:(x==("__classdict__" : Str))=false:=by decide) (hbase:attributeBase (.Name x p1) "extend" X.env (eval (.Name x p1) X.env)=eval (.Name x p1) X.env:=by rfl)
  (hfew:((backTo cpos (starEach [e] X.env)).all (fun x => !x.1)&&(backToKw cpos (keywordEach [] X.env)).all (fun x=>x.1.isSome)
   && decide (([e]:List Expr).length+([]:List Keyword).length+(if ([]:List Keyword).isEmpty then 0 else 1)<30))=true:=by rfl)
  (hline:(apos.endLine==cpos.line)=true:=by rfl) (hs:starEach [e] X.env=(false,eval e X.env)::starEach [] X.env:=by rfl)
  (hsw:swapsWith (.Call (.Attribute (.Name x p1) "extend" apos) [e] [] cpos) none pos.line X.env=pure false:=by rfl) :
  PS X (.Expr (.Call (.Attribute (.Name x p1) "extend" apos) [e] [] cpos) pos) (tS X.K B (aSo i f)):=by
 refine gD (aHv (aNo PySem.F.plainAttrs_list PySem.F.slot_list_extend PySem.F.type_list_extend aQ2 (tW hN hv hd hcd) (eQ he jP hs) hbase hfew hline hs rfl) hsw) ?_
 rintro Dn σ H ⟨A,st,r,rs,hr,p⟩
 obtain⟨d,hd,h3⟩:=R.ok_of hr
 cases d<;>first | (cases h3;done) | skip
 rename_i ys
 have h3':(match st[i]? with | some (some (.o .l xs))=>aJ (xs.length+ys.length<=big) (R.ok (Fl.nx (st.set i (some (.o .l (xs++ys)))))) | _ => .bad) = .ok r:=h3
 split at h3'
 ·rename_i xs e1
  obtain⟨c,h4⟩:=aK h3'
  cases h4
  obtain⟨l,o,vs,e2,m,h1,ko,q,u⟩:=rs.lst i _ xs e1
  have eo:o = .lst vs:=ko
  subst eo
  refine⟨.ref l,e2,.inl ⟨rfl,vs,SqL.of h1⟩,A,st,ys,rs,hd,fun n zs H' s hn rz=>?_⟩
  have ql:=q.length
  have zl:=rz.length
  have hl:H' l=some (.lst vs):=s _ _ h1
  have ne:l≠n:=bC hl hn
  refine⟨l,n,vs,zs,rfl,rfl,by rw[bQ ne];exact hl,cH,by rw[ql,zl];exact lim c,?_⟩
  have s2:=s.trans (cZ (o:=HO.lst zs) hn)
  obtain⟨w1,w2⟩:=(rs.mono s2).write e1 e2 (k1 := .l) (ds:=xs++ys) (vs':=vs++zs) rfl ((q.mono (bA.hide s2)).append (rz.mono (bA.hide (cZ hn))))
  exact p A _ _ ((Le.of s2).trans w2) w1
 ·cases h3'
end
section
open PySem.SeqAt
open PySem.AutoSeq1 (wpAny_loadPart')
open PySem.MeetsSeq PySem.MeetsSeq2 PySem.MeetsSeq3
inductive LexV (A:Around) (s:Shared):List Value->List Value->Bool->Prop where
 | nn:LexV A s [] [] false
 | nc {w:Value} {ws:List Value}:LexV A s [] (w::ws) true
 | cn {v:Value} {vs:List Value}:LexV A s (v::vs) [] false
 | eq {v w:Value} {vs ws:List Value} {b:Bool}:EqAt A s v w true->LexV A s vs ws b->LexV A s (v::vs) (w::ws) b
 | lt {v w:Value} {vs ws:List Value} {b:Bool}:EqAt A s v w false->(∀ (prog:Program) (wd:World) (E Q:Value->Shared->Prop),Q (.bool b) s->wpAny (model prog wd) A (richCompare .Lt v w) Q E s)->LexV A s (v::vs) (w::ws) b
end
section
end
structure ClsAt(K:Frag)(c:String)(C:Addr):Prop where
 ns:nsIn K mainGlobals (Str.ofString c)=some (some (.ref C))
 cl:Cls K C
theorem uT{a b:String}(h:Str.ofString a=Str.ofString b):a=b:=by
 have h1:(Str.ofString a).cps=(Str.ofString b).cps:=by rw[h]
 rw[Str.ofString_eq_toList,Str.ofString_eq_toList]at h1
 have h2:a.toList.map Char.toNat=b.toList.map Char.toNat:=by
  have:=congrArg Array.toList h1
  simpa using this
 have inj:∀ (x y:List Char),x.map Char.toNat=y.map Char.toNat->x=y:=by
  intro x
  induction x with
  | nil=>intro y h;cases y with | nil=>rfl | cons _ _=>simp at h
  | cons a x ih =>
   intro y h
   cases y with
   | nil=>simp at h
   | cons b y =>
    rw[map_cons,map_cons]at h
    injection h with h3 h4
    rw[ih y h4]
    congr 1
    exact Char.ext (UInt32.toNat_inj.mp h3)
 exact String.toList_inj.mp (inj _ _ h2)
section
variable{K:Frag} 
theorem aFu{f:String}:∀ {ns:List String} {ds:List D} {fs:List (Str × V)} {d:D},fs.map (·.1)=ns.map Str.ofString->bD K H ds (fs.map (·.2))->(ns.zip ds).lookup f=some d->∃ v,fs.lookup (Str.ofString f)=some v/\Rep K H d v
 | [],ds,fs,d,_,_,h=>by simp at h
 | n::ns,[],fs,d,_,_,h=>by simp at h
 | n::ns,d0::ds,[],d,e,_,h=>by simp at e
 | n::ns,d0::ds,(g,w)::fs,d,e,r,h=>by
  rw[map_cons,map_cons]at e
  injection e with e1 e2
  obtain⟨v,r',e3,h1,h2⟩:=bT.mp r
  rw[map_cons]at e3
  injection e3 with e4 e5
  subst e4 e5
  have e1':g=Str.ofString n:=e1
  subst e1'
  rw[zip_cons_cons,lookup_cons]at h
  rw[lookup_cons]
  by_cases hf:f=n
  ·subst hf
   simp only[beq_self_eq_true]at h ⊢
   cases h
   exact⟨_,rfl,h1⟩
  ·have hb:(f==n)=false:=beq_eq_false_iff_ne.mpr hf
   have hb2:(Str.ofString f==Str.ofString n)=false:=beq_eq_false_iff_ne.mpr fun z=>hf (uT z)
   rw[hb]at h
   rw[hb2]
   exact aFu e2 h2 h
theorem lookup_none{f:String}:∀ {ns:List String} {fs:List (Str × V)},fs.map (·.1)=ns.map Str.ofString->f ∉ ns->fs.lookup (Str.ofString f)=none
 | [],fs,e,_=>by cases fs with | nil=>rfl | cons _ _=>simp at e
 | n::ns,[],e,_=>rfl
 | n::ns,(g,w)::fs,e,h=>by
  rw[map_cons,map_cons]at e
  injection e with e1 e2
  have e1':g=Str.ofString n:=e1
  subst e1'
  rw[lookup_cons]
  have hb2:(Str.ofString f==Str.ofString n)=false:=beq_eq_false_iff_ne.mpr fun z=>h (by rw[uT z];exact mem_cons_self)
  rw[hb2]
  exact lookup_none e2 fun z=>h (mem_cons_of_mem _ z)
theorem aL0{f:String}{v:V}:∀ {ns:List String} {fs:List (Str × V)},fs.map (·.1)=ns.map Str.ofString->f ∉ ns->vX (Str.ofString f) v fs=fs++[(Str.ofString f,v)]
 | [],fs,e,_=>by cases fs with | nil=>rfl | cons _ _=>simp at e
 | n::ns,[],e,_=>by simp at e
 | n::ns,(g,w)::fs,e,h=>by
  rw[map_cons,map_cons]at e
  injection e with e1 e2
  have e1':g=Str.ofString n:=e1
  subst e1'
  unfold vX
  rw[if_neg (fun z=>h (by rw[uT z];exact mem_cons_self)),aL0 e2 fun z=>h (mem_cons_of_mem _ z)]
  rfl
end
section
variable{X:Cx}{B:List Addr}{a b e o:Expr}{f g:Ex}{pos:Pos}
theorem mR.ins{K:Frag}{A:List Addr}{H:Hp}{c:String}{ns:List String}{ds:List D}{v:V}(h:mR K A H (.ins c ns ds) v):∃ p C dx fs,v = .ref p/\H p=some (.ins C dx fs)/\nsIn K mainGlobals (Str.ofString c)=some (some (.ref C))/\fs.map (·.1)=ns.map Str.ofString/\bD K (hide A H) ds (fs.map (·.2)):=by
 rcases h with h | ⟨p,kk,o,ds',vs,e,e2,h,ko,r⟩
 ·obtain⟨p,C,dx,fs,vs,e,q1,q2,q3,q4,r⟩:=aOv.mp h
  subst q4
  exact⟨p,C,dx,fs,e,bH _ _ _ _ q1,q2,q3,r⟩
 ·cases kk<;>cases e
  obtain⟨_,C,dx,fs,rfl,q2,q3,rfl⟩:=ko
  exact⟨p,C,dx,fs,e2,h,q2,q3,r⟩
theorem tL{c f':String}  (hc:ClsAt X.K c C) (hn:jO X.K C (Str.ofString f')) (ho:PE X o (tP X.K B f)) (hb:attributeBase o (Str.ofString f') X.env (eval o X.env)=eval o X.env:=by rfl) :
  PE X (.Attribute o (Str.ofString f') pos) (tI X.K B (e1 (iQ c f') f)):=by
 refine cQ (aZx ho hb) ?_
 rintro σ H Q ⟨A,st,d,rs,hd,q⟩
 obtain⟨x,hx,h2⟩:=R.ok_of hd
 refine⟨A,st,x,rs,hx,fun v H1 s1 r1=>?_⟩
 cases x<;>first | (cases h2;done) | skip
 obtain⟨e1,h3⟩:=aK h2
 subst e1
 obtain⟨p,C',dx,fs,e2,h4,h5,h6,h7⟩:=r1.ins
 have:C'=C:=by have z:=h5.symm.trans hc.ns;injection z with z;injection z with z;injection z
 subst this
 obtain⟨w,h8,h9⟩:=aFu h6 h7 (xR h3)
 exact⟨p,C',dx,fs,w,e2,h4,hc.cl,hn,h8,q w H1 s1 h9⟩
structure MethOk(P:Program)(w:World)(K:Frag)(mg:Str->Option Value)(base:Heap)(c m:String)(k np:Nat)(dv:List D)(p:List D->R D):Prop where
 ex:∃ (C fa:Addr) (fd:FuncData) (ps:List Str) (dvs:List V) (ds:List Value),ClsAt K c C/\Meth K C (Str.ofString m) fa/\FnOk P w K mg base CX0 k fa fd ps (spI K np p)/\Binds K fd ps ds/\Vals dvs ds/\∀ H,bD K H dv dvs
 len:∀ ds d,p ds = .ok d->ds.length=np
theorem aN0{c m:String}{k:Nat}    {r:Exs}   (h:MethOk X.prog X.w X.K X.mg X.base c m k np dv p) (hr:Room j X.A) (hk:k<=j) (ho:PE X o (tI X.K B f)) (ha:PA X (e::es) (tA X.K B r))
  (hst:starEach (e::es) X.env=(false,eval e X.env)::starEach es X.env:=by rfl) (hpl:(backTo pos (starEach es X.env)).any (·.1)=false:=by rfl)
  (ht:eval (.Call (.Attribute o (Str.ofString m) apos) (e::es) [] pos) X.env=(do
   let ov <- eval o X.env
   standAt apos.atName
   let (f,first) <- holding [ov] (getMethod ov (Str.ofString m) pl)
   callWith pos f first (backTo pos (starEach (e::es) X.env)) (backToKw pos (keywordEach [] X.env))):=by rfl) :
  PE X (.Call (.Attribute o (Str.ofString m) apos) (e::es) [] pos) (tI X.K B (sH c m p dv f r)):=by
 obtain⟨C,fa,fd,ps,dvs,ds,hc,hm,F,bd,vd,rd⟩:=h.ex
 refine cQ (aNl (pl:=pl) ho hc.cl hm F (hr.mono hk) bd vd aJn ha hst hpl ht) ?_
 rintro σ H Q ⟨A,st,d,rs,hd,q⟩
 obtain⟨x,hx,h2⟩:=R.ok_of hd
 obtain⟨xs,hxs,h3⟩:=R.ok_of h2
 refine⟨A,st,x,rs,hx,fun v H1 s1 r1=>?_⟩
 cases x<;>first | (cases h3;done) | skip
 obtain⟨⟨e1,hn⟩,h4⟩:=aK h3
 subst e1
 obtain⟨p',C',dx,fs,e2,h5,h6,h7,h8⟩:=mR.ins (.inl r1)
 have:C'=C:=by have z:=h6.symm.trans hc.ns;injection z with z;injection z with z;injection z
 subst this
 refine⟨p',dx,fs,e2,h5,lookup_none h7 hn,A,st,xs,rs.mono s1,hxs,fun vs H2 s2 r2=>?_⟩
 exact⟨A++B,_,d,rs.own.mono (s1.trans s2),.cons (r1.mono (bA.hide s2)) (r2.append (rd _)),h.len _ _ h4,h4,fun w H' s' r'=>q w H' (s1.trans (s2.trans s')) r'⟩
def spM(K:Frag)(c:String)(np:Nat)(p:List D->R D):Sp:=fun vs H Q _=>∃ x ws A C dx ds d,vs = .ref x::ws/\H x=some (.ins C dx [])/\nsIn K mainGlobals (Str.ofString c)=some (some (.ref C))/\Own A H/\x ∉ A/\bD K (hide (x::A) H) ds ws/\ds.length=np/\p ds = .ok d /\
 ∀ H',bA (hide [x] H) H'->Rep K (hide A H') d (.ref x)->Q .non H'
structure MakeOk(P:Program)(w:World)(K:Frag)(mg:Str->Option Value)(base:Heap)(c:String)(k np:Nat)(p:List D->R D):Prop where
 ex:∃ (C fa:Addr) (fd:FuncData) (ps:List Str),ClsAt K c C/\Mk K C fa/\FnOk P w K mg base CX0 k fa fd ps (spM K c np p)/\Binds K fd ps []/\mg (Str.ofString c)=some (.ref C)
 len:∀ ds d,p ds = .ok d->ds.length=np
theorem bBm{c:String}{k:Nat}   {r:Exs}  (h:MakeOk X.prog X.w X.K X.mg X.base c k np p) (hr:Room j X.A) (hk:k+1<=j) (ha:PA X (e::es) (tA X.K B r)) (hg:Gl X (Str.ofString c):=by rfl) (hdb:(Str.ofString c==("__debug__" : Str))=false:=by decide)
  (he:starEach (e::es) X.env=(false,eval e X.env)::starEach es X.env:=by rfl) (hpl:(backTo pos (starEach es X.env)).any (·.1)=false:=by rfl):PE X (.Call (.Name (Str.ofString c) p0) (e::es) [] pos) (tI X.K B (aP p r)):=by
 obtain⟨C,fa,fd,ps,hc,M,F,bd,hm⟩:=h.ex
 refine cQ (aW2 M F (hr.mono hk) hg hm bd .nil aJn ha hdb he hpl) ?_
 rintro σ H Q ⟨A,st,d,rs,hd,q⟩
 obtain⟨xs,hx,h2⟩:=R.ok_of hd
 refine⟨A,st,xs,rs,hx,fun vs H1 s1 r1 x dx hx0 hdx hne=>?_⟩
 have w1:=rs.own.mono s1
 have hxA:x ∉ A++B:=w1.free hx0
 have e0:∀ b u,H1 b=some u->upd (upd H1 dx (.own x)) x (.ins C dx []) b=some u:=fun b u z=>by
  rw[bQ (bC z hx0),bQ (bC z hdx)];exact z
 refine⟨x,vs++[],A++B,C,dx,xs,d,rfl,cH,hc.ns,fun b hb=>?_,hxA,?_,h.len _ _ h2,h2,fun H' sm rd=>⟨rfl,q _ H' (fun b u z=>?_) rd⟩⟩
 ·obtain⟨u,z⟩:=Option.isSome_iff_exists.mp (w1 b hb)
  rw[e0 b u z];rfl
 ·rw[append_nil]
  refine r1.mono fun b u z=>?_
  have z1:=bH _ _ _ _ z
  have hb:b ∉ A++B:=fun y=>by rw[eN y]at z;cases z
  rw[bV (fun y=>(List.mem_cons.mp y).elim (bC z1 hx0) hb)]
  exact e0 b u z1
 ·have z1:=s1 _ _ z
  exact sm b u (by rw[bV (by simpa using bC z1 hx0)];exact e0 b u z1)
theorem aR4{K:Frag}     {ws:List V} {x dx:Addr} {c:String} (w:Own A H) (hxA:x ∉ A) (hx:H x=some (.ins C dx [])) (hns:nsIn K mainGlobals (Str.ofString c)=some (some (.ref C))) (r:bD K (hide (x::A) H) ds ws) :
  RS K A [x] H (some (Sl.o (.i x c []) [])::(ds.map (fun d=>some (Sl.v d))++List.replicate (N.length-ds.length-1) none)) (L2.start N (.ref x::ws)):=by
 have hl:=r.length
 have sh:L2.start N (.ref x::ws)=some (.ref x)::(ws.map some++List.replicate (N.length-ds.length-1) none):=by
  unfold L2.start
  rw[map_cons,cons_append,length_cons,hl]
  congr 2
 rw[sh]
 have nov:∀ (i:Nat) (s:Sl),(ds.map (fun d=>some (Sl.v d))++List.replicate (N.length-ds.length-1) none)[i]?=some (some s)->∃ d,ds[i]?=some d/\s = .v d:=fun i s e=>by
  by_cases hi:i<ds.length
  ·rw[List.getElem?_append_left (by simpa using hi),List.getElem?_map,List.getElem?_eq_getElem hi]at e
   simp at e
   exact⟨ds[i],List.getElem?_eq_getElem hi,e.symm⟩
  ·rw[List.getElem?_append_right (by simpa using hi),List.getElem?_replicate]at e
   split at e<;>simp at e
 refine⟨by simp[hl],fun b hb=>?_,fun b hb=>by rw[List.mem_singleton.mp hb];exact hxA,fun i d e=>?_,fun i k xs e=>?_⟩
 ·rcases List.mem_append.mp hb with hb | hb
  ·rw[List.mem_singleton.mp hb,hx];rfl
  ·exact w b hb
 ·cases i with
  | zero=>simp at e
  | succ i =>
   rw[getElem?_cons_succ]at e
   obtain⟨d',e1,e2⟩:=nov i _ e
   cases e2
   obtain⟨v,hv,rv⟩:=r.get e1
   refine⟨v,?_,rv⟩
   have hi:i<ws.length:=(List.getElem?_eq_some_iff.mp hv).1
   rw[getElem?_cons_succ,List.getElem?_append_left (by simpa using hi),List.getElem?_map,hv]
   rfl
 ·cases i with
  | zero =>
   simp at e
   obtain⟨rfl,rfl⟩:=e
   refine⟨x,_,[],rfl,List.mem_singleton.mpr rfl,hx,⟨rfl,C,dx,[],rfl,hns,rfl,rfl⟩,.nil,fun j k' ys ej _=>?_⟩
   cases j with
   | zero=>rfl
   | succ j =>
    rw[getElem?_cons_succ]at ej
    obtain⟨_,_,e2⟩:=nov j _ ej
    cases e2
  | succ i =>
   rw[getElem?_cons_succ]at e
   obtain⟨_,_,e2⟩:=nov i _ e
   cases e2
theorem aXt{K:Frag}    {st:Stmt} {f:Addr}   {k:Nat} (F:Fun K x qual st f fd) (S:FnScope N ps (aG st)) (c:String) (np n:Nat) (bd:Bd) (hnp:ps.length=np+1) (hn:N.length=n)
  (hb:∀ (cdv:Value) (A:Around) (outer:List Env) (s:Shared) (H:Hp) (E:XK) (B:List Addr),Room k (A.deeper (envOfC qual (aG st) s.heap.objs.size f cdv)) ->
   PSs (aAp CX0 P w K mg base N qual (aG st) f cdv A outer s H E).nox (dB st) (tS K B bd)):FnOk P w K mg base CX0 (k+1) f fd ps (spM K c np (aI7 c np n bd)):=by
 refine F.ok S (fun vs H Q E h=>?_) (fun cdv A outer s H vs Q E hr h=>?_)
 ·obtain⟨y,ws,A,C,dx,ds,d,rfl,_,_,_,_,r,hl,_⟩:=h
  rw[length_cons,r.length,hl,hnp]
 ·obtain⟨y,ws,A',C,dx,ds,d,rfl,hy,hns,own,hyA,r,hl,hp,q⟩:=h
  refine⟨tS K A' bd,hb cdv A outer s H E A' hr,?_⟩
  obtain⟨_,h2⟩:=aK (aNq hp y)
  obtain⟨fl,hfl,h3⟩:=R.ok_of h2
  have rs:=aR4 (N:=N) (c:=c) own hyA hy hns r
  rw[hl,hn]at rs
  refine⟨[y],_,fl,rs,hfl,?_⟩
  cases fl with
  | nx s1 =>
   intro A1 σ1 H1 l rs1
   have h3':(match (s1[0]?:Option (Option Sl)) with | some (some (.o (.i y' c' ns) xs))=>aJ (y'=y) (R.ok (D.ins c' ns xs)) | _ => .bad) = .ok d:=h3
   split at h3'
   ·rename_i y' c' ns xs e1
    obtain⟨rfl,h4⟩:=aK h3'
    cases h4
    obtain⟨a,o,vs,e2,m,h5,ko,r5,_⟩:=rs1.lst 0 _ _ e1
    have ea:a=y':=ko.1
    subst ea
    refine q H1 (bA.trans (show bA (hide [a] H) (hide A1 H1) from l) (bH _ _)) ?_
    have:=ko.rep (H:=hide A' H1) (ds:=xs) (by rw[bV (rs1.dis a m)];exact h5) (r5.mono (iM fun b hb=>List.mem_append_right _ hb))
    exact this
   ·cases h3'
  | rt d'=>cases h3
  | bk s1=>cases h3
  | ct s1=>cases h3
theorem aUw{c:String}   (ds:List D) (d:D) (h:aI7 c np n bd ds = .ok d):ds.length=np:=(aK (aNq h 0)).1
theorem aJ1(i:Nat)  {c f':String}   {value:Expr} (hc:ClsAt X.K c C) (hn:jO X.K C (Str.ofString f')) (he:PE X value (tI X.K B f)) (hN:X.N[i]?=some x:=by rfl) (hv:Vis X.env.scope x:=by first | exact Or.inl rfl | exact Or.inr (Or.inl rfl) | exact Or.inr (Or.inr rfl)) (hd:(x==("__debug__" : Str))=false:=by decide)
  (hcd:(x==("__classdict__" : Str))=false:=by decide) (hs:swapsWith value (some (.Attribute (.Name x p1) (Str.ofString f') p2)) pos.line X.env=pure false:=by rfl) :
  PS X (.Assign [.Attribute (.Name x p1) (Str.ofString f') p2] value pos) (tS X.K B (aGu i c f' f)):=by
 refine gD (aZy (tW hN hv hd hcd) he hs) ?_
 rintro Dn σ H ⟨A,st,r,rs,hr,p⟩
 obtain⟨d,hd,h3⟩:=R.ok_of hr
 split at h3
 ·rename_i n c' ns xs e1
  obtain⟨⟨ec,hf,hlen⟩,h4⟩:=aK h3
  subst ec
  cases h4
  obtain⟨l,o,vs,e2,m,h1,ko,q,u⟩:=rs.lst i _ _ e1
  obtain⟨el,C',dx,fs,rfl,k1,k2,rfl⟩:=ko
  have:C'=C:=by have z:=k1.symm.trans hc.ns;injection z with z;injection z with z;injection z
  subst this
  refine⟨A,st,d,rs,hd,fun y H1 s1 r1=>⟨.ref l,e2,l,C',dx,fs,rfl,s1 _ _ h1,hc.cl,hn,?_,?_⟩⟩
  ·have:=congrArg List.length k2
   rw[length_map,length_map]at this
   omega
  ·rw[aL0 k2 hf]
   obtain⟨w1,w2⟩:=(rs.mono s1).write e1 e2 (k1 := .i n c' (ns++[f'])) (o' := .ins C' dx (fs++[(Str.ofString f',y)])) (ds:=xs++[d]) (vs':=fs.map (·.2)++[y]) ⟨el,C',dx,_,rfl,k1,by rw[List.map_append,List.map_append,k2];rfl,by rw[List.map_append];rfl⟩ ((q.mono (bA.hide s1)).append (.cons r1 .nil))
   exact p A _ _ ((Le.of s1).trans w2) w1
 ·cases h3
theorem aP7:PS X sm (tS X.K B aM2):=fun _ _ _ _ _ _ ⟨_,_,_,_,h,_⟩=>nomatch h
end
section
variable    {iter c:Expr}  {t:Tg}  
theorem aHj{H3 H5:Hp}{s3 s5:Shared}{fp:List Addr}{p:Addr}{m5:Str->Option Value}     (hN:X.N.Nodup) (hi:X.N[i]?=some x) (hx:Loc X.env.scope x)
  (hf:X.fn x=true\/X.env.scope.names.lookup x=some .local) (hC:s3.heap.objs.size<=C) (I3:Inv X pins σ H3 s3) (hfp:∀ b∈fp,aAo X pins H3 b) (I5:Inv (cM X scope C s3 H3 fp) [] τ H5 s5) (hn5:s5.heap.Ns C m5)
  (hQ:∀ s',Inv X pins (σ.set i (some (.ref p))) H5 s'->Qf .none s'):compPost (model X.prog X.w) X.A X.xe (some (assign (.Name x px) X.env)) Qf (.ref p) C (.ok .next) s5:=by
 have I5':Inv X pins σ H5 {s5 with heap:=s5.heap}:=aDz I3 hfp hC I5 (.refl ..)
 have lt:∀ b o,s3.heap.get? b=some o->C≠b:=fun b o e z=>Nat.lt_irrefl _ (Nat.lt_of_lt_of_le (Heap.lt_size (z ▸ e)) hC)
 have hL:C≠X.env.locals:=fun z=>Nat.lt_irrefl _ (Nat.lt_of_lt_of_le (z ▸ I3.lt) hC)
 have hc:∀ y c,X.env.cells.lookup y=some c->c≠C:=fun y c e=>by
  obtain⟨v,o,ho,_⟩:=I3.cell y c e
  exact(lt c o ho).symm
 have hp:∀ q∈X.pn++pins,q.1≠C:=fun q hq=>(lt q.1 q.2 (I3.pin q hq).1).symm
 show wpAny _ X.A (assign (.Name x px) X.env (.ref p)) _ _ _
 refine wpAny_assign_Name (aGm (v := .ref p) I5' hN hi hx rfl (fun s6 I6 ⟨a,hs,ha⟩=>?_) hf)
 have hCa:C≠a:=by
  rcases ha with z | z
  ·rw[z];exact hL
  ·exact(hc x a z).symm
 refine⟨m5,hn5.sameBut hs hCa,fun h' hs'=>hQ _ ?_⟩
 exact I6.turned (t':=s6.toks) (fun b o hb e=>(hs'.2 b hb).trans e) (show H5 C=none from I5.free) hL (.inr (Nat.le_trans I3.sz hC)) hc hp
theorem aFv(i:Nat){x:Str}{spos:Pos}(is:List Nat)(hsub:aFq is t)(S:CScope X scope is)(hi:L2.PI X tg iter (tIt X.K B it))(hg:∀ (B:List Addr) (C:Addr) (s₀:Shared) (H₀:Hp) (fp:List Addr),PG (cM X scope C s₀ H₀ fp) tg (tG X.K B t))
  (ht:∀ (B:List Addr) (C:Addr) (s₀:Shared) (H₀:Hp) (fp:List Addr),PT (cM X scope C s₀ H₀ fp) c (tT X.K B u))
  (he:∀ (B:List Addr) (C:Addr) (s₀:Shared) (H₀:Hp) (fp:List Addr),PE (cM X scope C s₀ H₀ fp) elt (tI X.K B f)) (hc:X.calm=true) (hN:X.N.Nodup) (hi':X.N[i]?=some x:=by rfl) (hx:Loc X.env.scope x:=by first | exact Or.inl rfl | exact Or.inr rfl)
  (hsw:swapsWith (.ListComp elt [⟨tg,iter,[c],0⟩] scope pos) (some (.Name x px)) spos.line X.env=pure true:=by rfl)
  (hf:X.fn x=true\/X.env.scope.names.lookup x=some .local:=by first | exact .inl rfl | exact .inr rfl | assumption) (hs:∀ x,foldedSetIterable iter X.env x=pure x:=by intro _;rfl) :
  PS X (.Assign [.Name x px] (.ListComp elt [⟨tg,iter,[c],0⟩] scope pos) spos) (tS X.K B (dU i (cR is t it u f))):=by
 intro pins s σ H Dn I h
 obtain⟨A,st,r,rs,hr,q⟩:=h
 obtain⟨d,hd,h3⟩:=R.ok_of hr
 cases h3
 obtain⟨xs,hx',h2⟩:=R.ok_of hd
 obtain⟨hl,h3⟩:=aK h2
 obtain⟨ys,hy,h4⟩:=R.ok_of h3
 cases h4
 rw[exec_Assign_Name_used _ _ _ _ hsw]
 refine wpAny_bind (wpAny_standAt (wpAny_bind ?_))
 show wpAny _ X.A (do let _ <- comprehension (.ListComp elt [⟨tg,iter,[c],0⟩] scope pos) scope X.env _ (newList []) false (eval iter X.env) (some (assign (.Name x px) X.env))) _ _ s
 refine wpAny_bind (wpAny_mono (Q:=fun _ s'=>SP X pins Dn .next s') ?_ (fun _ s' hq=>wpAny_pure (wpAny_pure hq)) fun _ _ e=>e)
 exact tE (use:=some (assign (.Name x px) X.env)) (Qf:=fun _ s'=>SP X pins Dn .next s') (Q:=fun v H'=>Dn.nx (σ.set i (some v)) H') (tt:=tTx X.K u) (te:=tIx X.K f) (rest:=fun env it p=>isTrue c env (eval c env) >>= fun ok=>if ok=true then (eval elt env >>= fun x=>call (.builtin "list.append") [p,x] >>= fun _=>again (.compLoop (.ListComp elt [⟨tg,iter,[c],0⟩] scope pos) 0 it p env)) else again (.compLoop (.ListComp elt [⟨tg,iter,[c],0⟩] scope pos) 0 it p env)) S hc hi (fun C s₀ H₀ fp=>aUo fun B=>hg B C s₀ H₀ fp) (fun _ _ _=>pX)
  (fun C s₀ H₀ fp it p s Q h=>bBj (Y:=cM X scope C s₀ H₀ fp) h) (fun C s₀ H₀ fp it p τ H s pins vs N Q I h q=>aUp (Y:=cM X scope C s₀ H₀ fp) rfl (aUn fun B=>he B C s₀ H₀ fp) (bBk fun B=>ht B C s₀ H₀ fp) τ H s pins vs N Q I h (fun _ Q Q' m h=>xU Q Q' m h) q) hs I
  (aKv hsub (fun τ H Q h=>h) rs hx' hl hy fun p vs H1 H' s1 hp s2 hv r=>aMy (Q:=fun v H'=>Dn.nx (σ.set i (some v)) H') rs (fun v H' sm rv=>q A _ H' (Le.of sm) ((rs.mono sm).set i rv)) s1 hp s2 hv r) fun C p H5 s5 m5 s3 H3 fp τ hC I3 hfp I5 hn5 q5=>aHj hN hi' hx hf hC I3 hfp I5 hn5 fun s' I'=>⟨_,_,I',q5⟩
end
structure FunD(K:Frag)(x qual:Str)(st:Stmt)(dV:Value)(f:Addr)(fd:FuncData):Prop where
 ex:∃ (oc:Value) (od:Option Addr) (kV doc pm:Value) (an:Option Addr) (cdv ct:Value) (osl:Array (Option Value)),
  fd=fnOf x qual (fL st) (dB st) (aG st) dV kV doc pm an cdv ct/\K.lookup f=some ⟨oc,od,.func fd,osl⟩/\codeIn K cdv qual=true
 kp:keepIn K (.ref f)=true
section
variable   {K:Frag}    {st:Stmt}  {f:Addr}   {k:Nat}
theorem yN{od an:Option Addr}  {kV doc pm cdv ct:Value} (l:K.lookup f=some ⟨oc,od,.func (fnOf x qual (fL st) (dB st) (aG st) dV kV doc pm an cdv ct),osl⟩)
  (c:codeIn K cdv qual=true) (k:keepIn K (.ref f)=true):FunD K x qual st dV f (fnOf x qual (fL st) (dB st) (aG st) dV kV doc pm an cdv ct):=⟨⟨oc,od,kV,doc,pm,an,cdv,ct,osl,rfl,l,c⟩,k⟩
theorem FunD.binds0(F:FunD K x qual st .none f fd)
  (h:∀ (kV doc pm:Value) (an:Option Addr) (cdv ct:Value) (us:List Value),us.length=ps.length->bindArgs (fnOf x qual (fL st) (dB st) (aG st) .none kV doc pm an cdv ct) ⟨us,[]⟩=pure (ps.zip us)):Binds K fd ps []:=by
 obtain⟨oc,od,kV,doc,pm,an,cdv,ct,osl,rfl,lk,hcd⟩:=F.ex
 exact .all (h kV doc pm an cdv ct)
theorem FunD.binds{o:Obj}   {ds:List Value} (F:FunD K x qual st (.ref T) f fd) (hT:K.lookup T=some o) (hd:o.data = .seq items n) (hm:m+ds.length=ps.length)
  (h:∀ (kV doc pm:Value) (an:Option Addr) (cdv ct:Value) (us:List Value),us.length=m->∃ k:Option (Array Value)->Sem (List (Str × Value)),bindArgs (fnOf x qual (fL st) (dB st) (aG st) (.ref T) kV doc pm an cdv ct) ⟨us,[]⟩=seqItems? (.ref T) >>= k/\k (some items)=pure (ps.zip (us++ds))):Binds K fd ps ds:=by
 obtain⟨oc,od,kV,doc,pm,an,cdv,ct,osl,rfl,lk,hcd⟩:=F.ex
 intro s us KX hl
 obtain⟨k,h1,h2⟩:=h kV doc pm an cdv ct us (by rw[length_append]at hl;omega)
 exact .of_defaults rfl (KX _ _ hT) hd h1 h2
theorem FunD.okX(F:FunD K x qual st dV f fd)(S:FnScope N ps (aG st))(len:∀ vs H Q E,sp vs H Q E->vs.length=ps.length)
  (hbody:∀ (cdv:Value) (A:Around) (outer:List Env) (s:Shared) (H:Hp) (vs:List V) (Q:VK) (E:XK),Room k (A.deeper (envOfC qual (aG st) s.heap.objs.size f cdv))->sp vs H Q E ->
   ∃ t,PSs (aAp CX0 P w K mg base N qual (aG st) f cdv A outer s H E).nox (dB st) t/\t {nx:=fun _ H'=>Q .non H',rt:=Q} (L2.start N vs) H):FnOk P w K mg base CX0 (k+1) f fd ps sp:=by
 obtain⟨oc,od,kV,doc,pm,an,cdv,ct,osl,rfl,lk,hcd⟩:=F.ex
 refine aSc lk hcd S len fun A outer s H vs Q E hr hsp=>?_
 obtain⟨t,h,q⟩:=hbody cdv A outer s H vs Q E hr hsp
 exact⟨t,h.nox,q⟩
theorem eF(F:FunD K x qual st dV f fd)(S:FnScope N ps (aG st))(np n:Nat)(bd:Bd)(hnp:ps.length=np)(hn:N.length=n)
  (hb:∀ (cdv:Value) (A:Around) (outer:List Env) (s:Shared) (H:Hp) (E:XK) (B:List Addr),Room k (A.deeper (envOfC qual (aG st) s.heap.objs.size f cdv)) ->
   PSs (aAp CX0 P w K mg base N qual (aG st) f cdv A outer s H E).nox (dB st) (tS K B bd)):FnOk P w K mg base CX0 (k+1) f fd ps (spI K np (cT np n bd)):=by
 refine F.okX S (fun vs H Q E h=>?_) (fun cdv A outer s H vs Q E hr h=>?_)
 ·obtain⟨A,ds,d,own,r,hl,_⟩:=h
  rw[r.length,hl,hnp]
 ·obtain⟨B,ds,d,own,r,hl,hp,q⟩:=h
  refine⟨tS K B bd,hb cdv A outer s H E B hr,?_⟩
  obtain⟨_,h2⟩:=aK hp
  obtain⟨fl,hfl,h3⟩:=R.ok_of h2
  have rs:=aBn (N:=N) own r
  rw[hl,hn]at rs
  refine⟨[],_,fl,rs,hfl,?_⟩
  have fin:∀ {A':List Addr} {H':Hp},Le [] H A' H'->bA H H':=fun {A' H'} l=>by
   unfold Le at l
   rw[pW]at l
   exact l.trans (bH _ _)
  cases fl with
  | nx s1 =>
   cases h3
   exact fun A' σ' H' l rs'=>q _ H' (fin l) (cC.mpr rfl)
  | rt d' =>
   cases h3
   exact fun A' v H' l rv=>q v H' (fin l) (rv.mono (iM fun a ha=>List.mem_append_right _ ha))
  | bk s1=>exact nomatch h3
  | ct s1=>exact nomatch h3
end
end Pu
namespace Pu
open PySem PySem.Spec PyProof.Rows L2 PySem.SeqAt
section
variable   {a b o:Expr}   {r:Exs}  
theorem aN1:nZ X (.type "list") (fun vs H Q=>∃ l xs,vs=[.ref l]/\(SqL X.K H l xs\/SqT X.K H l xs)/\∀ n,H n=none->Q (.ref n) (upd H n (.lst xs))):=by
 intro pins s σ H vs us Q I r h
 obtain⟨l,xs,rfl,hl,q⟩:=h
 obtain⟨u,rfl,ru⟩:=r.one
 obtain rfl:u=Value.ref l:=ru
 rcases hl with hl | hl
 ·obtain⟨its,rv,⟨ob,n,e,hc,_,hd⟩,hz⟩:=I.list hl
  refine call_list_seq l (T := "list") (.inl rfl) e hc hd (fun h' c' k hn=>?_) (by rw[rv.length]at hz;simpa using hz)
  exact⟨.ref s.heap.objs.size,_,I.laid (o := .lst xs) (t':=s.toks) k (Nat.le_refl _) ⟨hz,its,c',rv,hn⟩,rfl,q _ (I.hok.fresh (Nat.le_refl _))⟩
 ·obtain⟨its,rv,⟨ob,e,hc,n,hd⟩,hz⟩:=I.tuple hl
  refine call_list_seq l (T := "tuple") (.inr rfl) e hc hd (fun h' c' k hn=>?_) (by rw[rv.length]at hz;simpa using hz)
  exact⟨.ref s.heap.objs.size,_,I.laid (o := .lst xs) (t':=s.toks) k (Nat.le_refl _) ⟨hz,its,c',rv,hn⟩,rfl,q _ (I.hok.fresh (Nat.le_refl _))⟩
theorem aJ2(hm:X.mg "list" = none)(ha:PE X a (tP X.K B f))(hg:Gl X "list" := by rfl)(hs:starEach [a] X.env=(false,eval a X.env)::starEach [] X.env:=by rfl):PE X (.Call (.Name "list" p0) [a] [] pos) (tI X.K B (e1 aEi f)):=by
 refine cQ (aC2 aN1 hg hm (by rfl) (eQ ha jP hs) (he:=hs)) ?_
 rintro σ H Q ⟨A,st,d,rs,hd,q⟩
 obtain⟨x,hx,h2⟩:=R.ok_of hd
 refine⟨A,st,x,rs,hx,fun v H1 s1 r1=>?_⟩
 cases x<;>first | (cases h2;done) | skip
 ·cases h2
  obtain⟨l,vs,e,h3,r3⟩:=r1.tup
  exact⟨l,vs,by rw[e],.inr h3,fun n hn=>q _ _ (s1.trans (cZ hn)) (jC (rs.own.mono s1) hn r3)⟩
 ·cases h2
  obtain⟨l,vs,e,h3,r3⟩:=r1.lst
  exact⟨l,vs,by rw[e],.inl h3,fun n hn=>q _ _ (s1.trans (cZ hn)) (jC (rs.own.mono s1) hn r3)⟩
theorem aP8:∀ {l:List Bool} {us:List Value},Vals (l.map V.bl) us->us=l.map Value.bool
 | [],_,.nil=>rfl
 | b::l,_,.cons r t=>by
  rw[aP8 t]
  cases r
  rfl
theorem aR5(hc:X.calm=true):nZ X (.builtin "all") (fun vs H Q=>∃ (l:Addr) (bs:List Bool),vs=[.ref l]/\SqL X.K H l (bs.map V.bl)/\Q (.bl (bs.all id)) H):=by
 intro pins s σ H vs us Q I r h
 obtain⟨l,bs,rfl,hl,q⟩:=h
 obtain⟨u,rfl,ru⟩:=r.one
 obtain rfl:u=Value.ref l:=ru
 obtain⟨its,rv,⟨ob,n,e,hcl,_,hd⟩,hz⟩:=I.list hl
 have ei:=aP8 rv
 have isl:s.heap.IsList l its.toArray:=⟨ob,e,hcl,n,hd⟩
 have hlt:l<s.heap.objs.size:=Heap.lt_size e
 refine call_all_walk (wpAny_pyIter_list isl ⟨s.heap.objs.size,_,_,_,_,_,fun i=>bs[i]?.getD false,rfl,Walks.list (A:=X.A.in1) (I.ok.hd hc) _ l (Nat.ne_of_lt hlt) its.toArray,⟨⟨_,Heap.get?_push_size _ rfl,rfl,rfl⟩,isl.push _⟩,?_,fun h' tk k=>?_⟩)
 ·intro i v s' Q' E' hv hq
  rw[ei]at hv
  simp only[List.getElem?_toArray,List.getElem?_map,Option.map_eq_some_iff]at hv
  obtain⟨b,hb,rfl⟩:=hv
  have hq':Q' (bs[i]?.getD false) s':=hq
  rw[hb]at hq'
  exact wpAny_pure hq'
 ·refine⟨.bl (bs.all id),H,I.kept (fun b u z=>k b u (fun hb=>?_) (Heap.get?_push_of_some _ z)),?_,q⟩
  ·have:=List.mem_singleton.mp hb
   exact Nat.lt_irrefl _ (this ▸ Heap.lt_size z)
  ·show Value.bool _=Value.bool _
   congr 1
   rw[Bool.eq_iff_iff,List.all_eq_true,List.all_eq_true]
   have hsz:its.toArray.size=bs.length:=by rw[ei];simp
   rw[hsz]
   constructor
   ·intro h x hx
    obtain⟨i,hi,rfl⟩:=List.mem_iff_getElem.mp hx
    have:=h i (List.mem_range.mpr hi)
    rw[List.getElem?_eq_getElem hi]at this
    exact this
   ·intro h i hi
    have hi':=List.mem_range.mp hi
    rw[List.getElem?_eq_getElem hi']
    exact h _ (List.getElem_mem hi')
theorem aP9{K:Frag}{H:Hp}:∀ {l:List Bool} {vs:List V},bD K H (l.map D.bl) vs->vs=l.map V.bl
 | [],vs,h=>cY.mp h
 | b::l,vs,h=>by
  obtain⟨v,r,rfl,h1,h2⟩:=bT.mp h
  rw[aP9 h2,bL.mp h1];rfl
theorem aPa(hm:X.mg "all" = none)(hc:X.calm=true)(ha:PE X a (tP X.K B f))(hg:Gl X "all" := by rfl)(hs:starEach [a] X.env=(false,eval a X.env)::starEach [] X.env:=by rfl):PE X (.Call (.Name "all" p0) [a] [] pos) (tI X.K B (e1 aDj f)):=by
 refine cQ (rZ (aR5 hc) hg hm (by rfl) (eQ ha jP hs) (he:=hs)) ?_
 rintro σ H Q ⟨A,st,d,rs,hd,q⟩
 obtain⟨x,hx,h2⟩:=R.ok_of hd
 refine⟨A,st,x,rs,hx,fun v H1 s1 r1=>?_⟩
 cases x<;>first | (cases h2;done) | skip
 obtain⟨bs,h3,h4⟩:=R.ok_of h2
 cases h4
 obtain⟨l,vs,e,h5,r5⟩:=r1.lst
 rw[aSw h3]at r5
 rw[aP9 r5]at h5
 exact⟨l,bs,by rw[e],h5,q _ H1 s1 (bL.mpr rfl)⟩
theorem aL1:∀ {l:List Int} {us:List Value},Vals (l.map V.int) us->∃ ps:List (Int × Tok),us=ps.map (fun p=>Value.int p.1 p.2)/\ps.map (·.1)=l
 | [],_,.nil=>⟨[],rfl,rfl⟩
 | b::l,_,.cons r t=>by
  obtain⟨ps,e,e2⟩:=aL1 t
  obtain⟨t,rfl⟩:=r
  exact⟨(b,t)::ps,by rw[e];rfl,by rw[map_cons,e2]⟩
theorem aL2{ps:List (Int × Tok)}  (hi:i<ps.length):numAt ps.toArray i=(ps.map (·.1))[i]'(by simpa using hi):=by
 unfold numAt
 rw[List.getElem?_toArray,List.getElem?_eq_getElem hi]
 simp
theorem aR6(hc:X.calm=true):nZ X (.builtin "max") (fun vs H Q=>∃ (l:Addr) (is:List Int),vs=[.ref l]/\SqL X.K H l (is.map V.int)/\0<is.length/\Q (.int (aDk is)) H):=by
 intro pins s σ H vs us Q I r h
 obtain⟨l,is,rfl,hl,hp,q⟩:=h
 obtain⟨u,rfl,ru⟩:=r.one
 obtain rfl:u=Value.ref l:=ru
 obtain⟨its,rv,⟨ob,n,e,hcl,_,hd⟩,hz⟩:=I.list hl
 obtain⟨ps,ei,e2⟩:=aL1 rv
 have hlen:ps.length=is.length:=by rw[<-e2,length_map]
 have isl:s.heap.IsList l (intItems ps.toArray):=⟨ob,e,hcl,n,by rw[hd,ei];simp[intItems]⟩
 refine max_intList (I.ok.hd hc) isl (by simpa [hlen] using hp) fun v h' tk hv k=>?_
 obtain⟨t,rfl⟩:=intItems_at hv
 refine⟨.int (aDk is),H,I.kept k,⟨t,?_⟩,q⟩
 congr 1
 have hs:ps.toArray.size=ps.length:=rfl
 rw[hs]
 obtain⟨h1,h2⟩:=argBest_gt (numAt ps.toArray) (ps.length-1)
 have hb:argBest (fun i j=>decide (numAt ps.toArray i>numAt ps.toArray j)) (ps.length-1)<ps.length:=by omega
 refine(aI8 ?_ fun x hx=>?_).symm
 ·rw[aL2 hb,<-e2]
  exact List.getElem_mem _
 ·rw[<-e2]at hx
  obtain⟨i,hi,rfl⟩:=List.mem_iff_getElem.mp hx
  have hi':i<ps.length:=by simpa using hi
  rw[<-aL2 hi']
  exact h2 i (by omega)
theorem aFw{K:Frag}{H:Hp}:∀ {l:List Int} {vs:List V},bD K H (l.map D.int) vs->vs=l.map V.int
 | [],vs,h=>cY.mp h
 | b::l,vs,h=>by
  obtain⟨v,r,rfl,h1,h2⟩:=bT.mp h
  rw[aFw h2,aU.mp h1];rfl
theorem aUx(hm:X.mg "max" = none)(hc:X.calm=true)(ha:PE X a (tP X.K B f))(hg:Gl X "max" := by rfl)(hs:starEach [a] X.env=(false,eval a X.env)::starEach [] X.env:=by rfl):PE X (.Call (.Name "max" p0) [a] [] pos) (tI X.K B (e1 aAr f)):=by
 refine cQ (rZ (aR6 hc) hg hm (by rfl) (eQ ha jP hs) (he:=hs)) ?_
 rintro σ H Q ⟨A,st,d,rs,hd,q⟩
 obtain⟨x,hx,h2⟩:=R.ok_of hd
 refine⟨A,st,x,rs,hx,fun v H1 s1 r1=>?_⟩
 cases x<;>first | (cases h2;done) | skip
 obtain⟨is,h3,h4⟩:=R.ok_of h2
 obtain⟨c,h4⟩:=aK h4
 cases h4
 obtain⟨l,vs,e,h5,r5⟩:=r1.lst
 rw[wK h3]at r5
 rw[aFw r5]at h5
 exact⟨l,is,by rw[e],h5,c,q _ H1 s1 (aU.mpr rfl)⟩
end
end Pu
namespace Pu
open PySem PySem.Spec PyProof.Rows L2
def aCm:List Addr->Heap->Heap
 | [],h=>h
 | a::l,h=>(aCm l h).update a fun _=>{cls := .none,data := .freed}
theorem aR7(h:Heap)(a:Addr):(h.update a fun _=>{cls := .none,data := .freed}).get? a=none:=by
 cases h with
 | mk objs =>
  simp only[Heap.update,Heap.get?,Array.getElem?_modify,if_true]
  cases objs[a]? <;> rfl
theorem aAa{b:Addr}{h:Heap}:∀ {l:List Addr},b∈l->(aCm l h).get? b=none
 | a::l,hb=>by
  by_cases e:b=a
  ·rw[e];exact aR7 _ _
  ·unfold aCm
   rw[Heap.get?_update_ne _ _ _ _ e]
   exact aAa ((List.mem_cons.mp hb).resolve_left e)
theorem aE1{b:Addr}{h:Heap}:∀ {l:List Addr},b ∉ l->(aCm l h).get? b=h.get? b
 | [],_=>rfl
 | a::l,hb=>by
  unfold aCm
  rw[Heap.get?_update_ne _ _ _ _ fun e=>hb (by rw[e];exact mem_cons_self)]
  exact aE1 fun z=>hb (mem_cons_of_mem _ z)
theorem aPb(l:List Addr)(h:Heap):(aCm l h).StaysIn h:=fun b o e=>by
 by_cases hb:b∈l
 ·rw[aAa hb]at e;cases e
 ·rwa [aE1 hb]at e
theorem aFx{h b0 base:Heap}:∀ {l:List Env},h.FunFrames b0 l->(∀ L∈frs l,base.get? L=none)->h.FunFrames base l
 | [],_,_=>trivial
 | env::l,⟨k,⟨L,o,e1,_,e3,e4⟩,r⟩,hb=>by
  have hL:L∈frs (env::l):=by unfold frs;rw[List.filterMap_cons_some e1];exact mem_cons_self
  exact⟨k,⟨L,o,e1,hb L hL,e3,e4⟩,aFx r fun M hM=>hb M (by unfold frs;rw[List.filterMap_cons_some e1];exact mem_cons_of_mem _ hM)⟩
structure Fly(C:Addr)(h0:Heap)(H:Hp)(e:Addr)(h:Heap):Prop where
 n0:h0.get? e=none
 nH:H e=none
 ex:∃ oe vs a0,h.get? e=some oe/\oe.cls = .ref C/\oe.data = .fields vs/\vs[0]?=some a0 /\
  (vs[1]?=some .none\/∃ T oT ts,vs[1]?=some (.ref T)/\T≠e/\h.get? T=some oT/\oT.data = .fields ts/\ts[3]?=some .none/\h0.get? T=none/\H T=none)
structure FlyT(C:Addr)(h0:Heap)(H:Hp)(e:Addr)(h:Heap):Prop where
 n0:h0.get? e=none
 nH:H e=none
 ex:∃ oe vs a0 T oT ts,h.get? e=some oe/\oe.cls = .ref C/\oe.data = .fields vs/\vs[0]?=some a0/\vs[1]?=some (.ref T)/\T≠e/\h.get? T=some oT/\oT.data = .fields ts/\ts[3]?=some .none/\h0.get? T=none/\H T=none
theorem FlyT.fly{e:Addr}   (F:FlyT C h0 H e h):Fly C h0 H e h:=by
 obtain⟨n0,nH,oe,vs,a0,T,oT,ts,he,hc,hd,hz,r⟩:=F
 exact⟨n0,nH,oe,vs,a0,he,hc,hd,hz,.inr ⟨T,oT,ts,r⟩⟩
def aUy(h0:Heap)(H:Hp)(fs:List Addr)(h h':Heap):Prop :=
 ∀ b o,h.get? b=some o->((∃ o0,h0.get? b=some o0)\/∃ u,H b=some u)->(b ∉ fs->h'.get? b=some o)/\∃ sl,h'.get? b=some {o with slots:=sl}
section
variable{A:Around}   {e L:Addr} {b0:Heap}    {Q:Unit->Shared->Prop}
theorem aFy{l:List Addr}  {a0:Value} (hth:∀ b o,h0.get? b=some o->∃ o',h.get? b=some o') (hH:∀ b u,H b=some u->∃ o,h.get? b=some o) (n0:h0.get? e=none) (nH:H e=none)
  (hl:∀ b∈l,b=e\/(h0.get? b=none/\H b=none)\/b∈frs fl) (f:h'.FunFrames (aCm l h) fl) (t:h'.TracedW (aCm l h) e (.ref C) a0):FlyT C h0 H e h':=by
 obtain⟨oe,vs,T,oT,ts,he,⟨hc,hz⟩,hd,h1,hT0,hTe,hT,hdT,h3⟩:=t
 have:h0.get? T=none/\H T=none:=by
  by_cases hb:T∈l
  ·rcases hl T hb with z | z | z
   ·exact(hTe z).elim
   ·exact z
   ·obtain⟨_,o,ho,hnf⟩:=f.mem z
    rw[hT]at ho
    cases ho
    exact(hnf ts hdT).elim
  ·rw[aE1 hb]at hT0
   refine⟨?_,?_⟩
   ·cases q:h0.get? T with
    | none=>rfl
    | some o=>obtain⟨o',z⟩:=hth T o q;rw[hT0]at z;cases z
   ·cases q:H T with
    | none=>rfl
    | some u=>obtain⟨o',z⟩:=hH T u q;rw[hT0]at z;cases z
 exact⟨n0,nH,oe,vs,a0,T,oT,ts,he,hc,hd,hz,h1,hTe,hT,hdT,h3,this⟩
theorem aL3{l:List Addr}  {bb:Heap} (hl:∀ b∈l,(h0.get? b=none/\H b=none)\/b∈frs fl) (f:h.FunFrames bb fl) (k1:(aCm l h).StaysIn h')
  (k4:∀ b o,h.get? b=some o->(∀ vs,o.data ≠ .fields vs)->∃ sl,h'.get? b=some {o with slots:=sl}):aUy h0 H (frs fl) h h':=fun b o e hb=>by
 have hk:b ∉ frs fl->h'.get? b=some o:=fun hn=>k1 b o (by
  rw[aE1 fun z=>?_];exact e
  rcases hl b z with ⟨q1,q2⟩ | q
  ·rcases hb with ⟨o0,z⟩ | ⟨u,z⟩
   ·rw[q1]at z;cases z
   ·rw[q2]at z;cases z
  ·exact hn q)
 refine⟨hk,?_⟩
 by_cases hn:b∈frs fl
 ·obtain⟨_,o',ho,hnf⟩:=f.mem hn
  rw[e]at ho
  cases ho
  exact k4 b o e hnf
 ·exact⟨o.slots,hk hn⟩
theorem aR8(hfr:A.frames=some (env::outer))(hl:s.heap.FunFrames b0 (env::outer))(hf:env.frame=some L)(hth:∀ b o,h0.get? b=some o->∃ o',s.heap.get? b=some o')(hH:∀ b u,H b=some u->∃ o,s.heap.get? b=some o)
  (F:Fly C h0 H e s.heap) (hQ:∀ h',Fly C h0 H e h'->aUy h0 H (frs (env::outer)) s.heap h'->Q () {s with heap:=h'}):wpAny M A (leaving env (.ref e)) Q E s:=by
 obtain⟨n0,nH,oe,vs,a0,he,hc,hd,hz,ht⟩:=F
 rcases ht with ht | ⟨T,oT,ts,h1,hTe,hT,hdT,h3,nT,nHT⟩
 ·have hcut:∀ L∈frs (env::outer),(aCm (e::frs (env::outer)) s.heap).get? L=none:=fun L hL=>aAa (mem_cons_of_mem _ hL)
  refine wpAny_leaving_firstW (base:=aCm (e::frs (env::outer)) s.heap) hfr (aFx hl hcut) hf he (aPb _ _) (aAa mem_cons_self) hd ht hz fun h' ⟨k1,k2,k3,k4⟩=>?_
  rw[hc]at k3
  refine hQ h' (aFy (h:=s.heap) hth hH n0 nH (fun b hb=>?_) k2 k3).fly (aL3 (fun b hb=>?_) hl k1 k4)
  ·exact(List.mem_cons.mp hb).elim .inl fun z => .inr (.inr z)
  ·exact(List.mem_cons.mp hb).elim (fun z => .inl (by rw[z];exact⟨n0,nH⟩)) .inr
 ·have hcut:∀ L∈frs (env::outer),(aCm (e::T::frs (env::outer)) s.heap).get? L=none:=fun L hL=>aAa (mem_cons_of_mem _ (mem_cons_of_mem _ hL))
  refine wpAny_leaving_nextW (base:=aCm (e::T::frs (env::outer)) s.heap) (cls := .ref C) (a0:=a0) hfr (aFx hl hcut) hf ⟨oe,vs,T,oT,ts,he,⟨hc,hz⟩,hd,h1,aAa (mem_cons_of_mem _ mem_cons_self),hTe,hT,hdT,h3⟩ (aPb _ _) (aAa mem_cons_self) fun h' ⟨k1,k2,k3,k4⟩=>?_
  refine hQ h' (aFy (h:=s.heap) hth hH n0 nH (fun b hb=>?_) k2 k3).fly (aL3 (fun b hb=>?_) hl k1 k4)
  ·rcases List.mem_cons.mp hb with z | hb
   ·exact .inl z
   ·exact(List.mem_cons.mp hb).elim (fun z => .inr (.inl (by rw[z];exact⟨nT,nHT⟩))) fun z => .inr (.inr z)
  ·rcases List.mem_cons.mp hb with z | hb
   ·exact .inl (by rw[z];exact⟨n0,nH⟩)
   ·exact(List.mem_cons.mp hb).elim (fun z => .inl (by rw[z];exact⟨nT,nHT⟩)) .inr
end
theorem aL4(x:jN P w H h a o):∃ ob,h.get? a=some ob:=by
 cases o with
 | lst xs=>obtain⟨_,_,_,_,e⟩:=x;exact⟨_,e⟩
 | tup xs=>obtain⟨_,_,_,ob,e,_⟩:=x;exact⟨_,e⟩
 | dK kvs=>obtain⟨_,_,_,_,o,_,_,e,_⟩:=x;exact⟨_,e⟩
 | dT kvs=>obtain⟨_,_,_,_,o,_,_,e,_⟩:=x;exact⟨_,e⟩
 | set S n=>obtain⟨o,_,_,_,e,_⟩:=x;exact⟨_,e⟩
 | ins C dx fs=>obtain⟨_,_,_,e,_⟩:=x;exact⟨_,e⟩
 | own y=>obtain⟨_,e⟩:=x;exact⟨_,e⟩
 | xd fs=>obtain⟨_,⟨_,_,_,e,_⟩,_⟩:=x;exact⟨_,e⟩
 | rng lo hi=>obtain⟨_,_,_,e⟩:=x;exact⟨_,e⟩
 | frz ob u=>obtain⟨e,_⟩:=x;exact⟨_,e⟩
 | tbl ps=>exact⟨_,(show h.get? a=some _ from x)⟩
 | met f y=>exact⟨_,(show h.get? a=some _ from x)⟩
 | ext φ=>obtain⟨_,⟨_,e⟩,_⟩:=x;exact⟨_,e⟩
theorem aHk(x:HOk P w H h):∀ b u,H b=some u->∃ o,h.get? b=some o:=fun b u e=>aL4 (x b u e)
theorem aR9{fs:List Addr}(x:HOk P w H h)(m:aUy h0 H fs h h')(hf:∀ b∈fs,H b=none):HOk P w H h':=fun b u e=>by
 refine(x b u e).stay (fun c v hc q=>?_) (fun _ q=>q) fun _ _ q=>q
 have ht:∃ u,H c=some u:=by
  rcases hc with z | z
  ·exact⟨u,by rw[z];exact e⟩
  ·exact⟨_,z⟩
 obtain⟨u',hu⟩:=ht
 exact(m c v q (.inr ⟨u',hu⟩)).1 fun hb=>by rw[hf c hb]at hu;cases hu
theorem Fly.back{e:Addr}{h1:Heap}  (F:Fly C h1 H e h) (k:∀ b o,h0.get? b=some o->∃ o',h1.get? b=some o'):Fly C h0 H e h:=by
 have z:∀ b,h1.get? b=none->h0.get? b=none:=fun b hb=>by
  cases q:h0.get? b with
  | none=>rfl
  | some o=>obtain⟨o',q'⟩:=k b o q;rw[hb]at q';cases q'
 obtain⟨n0,nH,oe,vs,a0,he,hc,hd,hz,ht⟩:=F
 refine⟨z _ n0,nH,oe,vs,a0,he,hc,hd,hz,?_⟩
 rcases ht with ht | ⟨T,oT,ts,h1',hTe,hT,hdT,h3,nT,nHT⟩
 ·exact .inl ht
 ·exact .inr ⟨T,oT,ts,h1',hTe,hT,hdT,h3,z _ nT,nHT⟩
def CX1(P:Program)(w:World):CXT:=fun outer H s E e s'=>∃ ea C H',e = .ref ea/\s'.os=s.os/\AllBare s'.gens/\Un (frs outer) [] H H' s.heap s'.heap/\HOk P w H' s'.heap/\Fly C s.heap H' ea s'.heap/\E (.ref C) none H'
def bBn(X:Cx)(W:Addr->L2.St->Hp->Prop):Prop:=∀ (pins:List (Addr × Obj)) (σ:L2.St) (H:Hp) (s:Shared) (ea C:Addr) (H':Hp) (s':Shared),Inv X pins σ H s->s'.os=s.os->AllBare s'.gens->Un (frs X.stack) [] H H' s.heap s'.heap ->
 HOk X.prog X.w H' s'.heap->Fly C s.heap H' ea s'.heap->W C σ H'->X.xe (.ref ea) s'
theorem aUz{K:Frag}      {f:Addr} {cd:Value} {A:Around}  {s0:Shared}  {E:XK} :
  bBn (aAp (CX1 P w) P w K mg base N qual scope f cd A outer s0 H0 E) (fun C _ H'=>E (.ref C) none H'):=by
 intro pins σ H s ea C H' s' I hos hb un hok F hE
 have J:Inv _ pins σ H' s':=I.call' (ch:=[]) hos un hok hb fun _ z=>nomatch z
 have th0:∀ b o,s0.heap.get? b=some o->∃ o',s.heap.get? b=some o':=fun b o e=>I.base.there b o e (by intro z;cases z)
 have th1:∀ b o,s0.heap.get? b=some o->∃ o',s'.heap.get? b=some o':=fun b o e=>J.base.there b o e (by intro z;cases z)
 refine aR8 (h0:=s0.heap) (L:=s0.heap.objs.size) J.ok.frames J.stack rfl th1 (aHk hok) (F.back th0) fun h' F' m=>?_
 refine⟨ea,C,H',rfl,J.os,hb,?_,aR9 hok m J.stkFree,F',hE⟩
 have nl:∀ b o,s0.heap.get? b=some o->b≠s0.heap.objs.size:=fun b o e=>Nat.ne_of_lt (Heap.lt_size e)
 have nf:∀ b o,s0.heap.get? b=some o->b ∉ frs outer->b ∉ frs (envOfC qual scope s0.heap.objs.size f cd::outer):=fun b o e hn z=>by
  rcases List.mem_cons.mp (show b∈s0.heap.objs.size::frs outer from z) with z | z
  ·exact nl b o e z
  ·exact hn z
 refine⟨fun b o e n hb hx=>?_,fun b o e n hb hx=>?_,fun b o e n hx=>J.base.free b o e n (by intro z;cases z),fun b o e hx=>?_,J.base.tups,J.base.frzs,J.base.tbls⟩
 ·exact(m b o (J.base.keep b o e n hb (by intro z;cases z)) (.inl ⟨o,e⟩)).1 (nf b o e hb)
 ·obtain⟨sl,e1⟩:=J.base.slot b o e n hb (by intro z;cases z)
  obtain⟨sl2,e2⟩:=(m b _ e1 (.inl ⟨o,e⟩)).2
  exact⟨sl2,e2⟩
 ·obtain⟨o',e1⟩:=th1 b o e
  obtain⟨sl2,e2⟩:=(m b _ e1 (.inl ⟨o,e⟩)).2
  exact⟨_,e2⟩
theorem aV0{e:Addr}{vs:List Value}   (x:Heap.MadeExcOf h h' e (.ref C) vs) (hok:HOk P w H h):Fly C h H e h':=by
 obtain⟨t,he,ht,_⟩:=x.there
 refine⟨x.new,?_,_,_,_,he,rfl,rfl,rfl,.inl rfl⟩
 cases q:H e with
 | none=>rfl
 | some u=>obtain⟨o,z⟩:=aHk hok e u q;rw[x.new]at z;cases z
section
variable    {t:TA} {W:Addr->L2.St->Hp->Prop}
theorem aV1{c:String}   {np:Pos} (hL:bBn X W) (hc:ExcAt X.K c C tl) (hm:X.mg (Str.ofString c)=some (.ref C)) (hcalm:X.calm=true) (ha:PA X (e::es) t) (hg:Gl X (Str.ofString c):=by rfl) (hdb:(Str.ofString c==("__debug__" : Str))=false:=by decide)
  (he:starEach (e::es) X.env=(false,eval e X.env)::starEach es X.env:=by rfl) (hpl:(backTo cpos (starEach es X.env)).any (·.1)=false:=by rfl) (hlen:(e::es).length<=100:=by decide) :
  PS X (.Raise (some (.Call (.Name (Str.ofString c) np) (e::es) [] cpos)) none pos) (fun _ σ H=>t σ H fun vs H'=>vs.length<=100/\W C σ H'):=by
 intro pins s σ H Dn I h
 obtain⟨B,newId,initId,bmB,FB,hob⟩:=hc.ob
 obtain⟨N,nm,q,bs,hdct,sn,sub,ab,col,dd,k0,k1,k2,k3,k5,mN,hC,hN,hni,T⟩:=hob X.base I.ok.mod.kin
 refine wpAny_Raise_call_subT (C:=C) (nm:=nm) (q:=q) (N:=N) (bs:=bs) (bm:=tl) (hdct:=hdct) (sn:=sn) (sub:=sub) (ab:=ab) (col:=col) (dd:=dd) (k0:=k0) (k1:=k1) (k2:=k2) (k3:=k3) (k5:=k5)
  FB (mN:=mN) (T.hasType FB.hasBase) (I.ok.hd hcalm) (by rw[he];show (false||(backTo cpos (starEach es X.env)).any (·.1))=false;rw[hpl];rfl) hni (aDp I hg hm ⟨rfl,?_⟩ hdb)
 have hh:=ha cpos pins s σ H _ I h
 rw[he]at hh ⊢
 refine Calls.evalArgs_plain (thn hh fun us s2 ⟨vs,H2,I2,r2,hv,hw⟩=>⟨rfl,?_,I2.bk _ _ hC,hN.keeps I2.bk,T.keeps I2.bk,fun h' ea hx=>?_⟩)
 ·show us.length<=sizeLine
  rw[<-r2.length]
  exact Nat.le_trans hv (by decide)
 ·exact hL pins σ H2 s2 ea C H2 {s2 with heap:=h'} I2 rfl I2.bare (Un.kept hx.keeps) (I2.hok.kept hx.keeps) (aV0 hx I2.hok) hw
end
section
variable   {σ:L2.St}  {ea:Addr} 
end
section
variable{A:Around}  {nm q:Str} {N:Addr} {bs bm:List Value} {hdct:Bool} {sn:List Str} {sub:List Value} {ab:Bool} {col:Option Bool} {dd:Option Addr} {k0 k1 k2 k3 k5:Option Value} 
variable{nm' q':Str}{D' N':Addr}{bs' bm':List Value}{hdct':Bool}{sn':List Str}{sub':List Value}{ab':Bool}{col':Option Bool}{dd':Option Addr}{j0 j1 j2 j3 j5:Option Value}{newId':String}
end
section
end
abbrev XW:=D->L2.St->Hp->Prop
def Exc(K:Frag)(B A:List Addr)(H:Hp)(sm:Bool)(st:PSt)(x:D)(W:XW):Prop:=∀ A' st' σ' H',Le A H A' H'->RS K B A' H' st' σ'->(sm=true->st'=st)->W x σ' H'
theorem Exc.mono{K:Frag}{A1:List Addr}  {sm:Bool} {st:PSt} {x:D} {W:XW} (l:Le A H A1 H1) (h:Exc K B A H sm st x W):Exc K B A1 H1 sm st x W:=fun A' st' σ' H' l'=>h A' st' σ' H' (l.trans l')
theorem Exc.any{K:Frag}   {sm:Bool} {st st2:PSt} {x:D} {W:XW} (h:Exc K B A H false st2 x W):Exc K B A H sm st x W:=fun A' st' σ' H' l r _=>h A' st' σ' H' l r fun z=>nomatch z
def Out(K:Frag)(B A:List Addr)(H:Hp)(sm:Bool)(st:PSt)(W:XW)(Dn:Ends)(r:R Fl):Prop:=match r with
 | .ok r=>aQy K B A H r Dn
 | .exc x=>Exc K B A H sm st x W
 | .bad=>False
theorem Out.mono{K:Frag}{B A A1:List Addr}{H H1:Hp}{sm:Bool}{st:PSt}{W:XW}{Dn:Ends}{r:R Fl}(l:Le A H A1 H1)(h:Out K B A H sm st W Dn r):Out K B A1 H1 sm st W Dn r:=by
 cases r with
 | ok r=>exact aQy.mono l h
 | exc x=>exact Exc.mono l h
 | bad=>exact h
theorem Out.any{K:Frag}{B A:List Addr}{H:Hp}{sm:Bool}{st st2:PSt}{W:XW}{Dn:Ends}{r:R Fl}(h:Out K B A H false st2 W Dn r):Out K B A H sm st W Dn r:=by
 cases r with
 | ok r=>exact h
 | exc x=>exact Exc.any h
 | bad=>exact h
def tSX(K:Frag)(B:List Addr)(sm:Bool)(W:XW)(b:Bd):TS:=fun Dn σ H=>∃ A st,RS K B A H st σ/\Out K B A H sm st W Dn (b st)
def tIX(K:Frag)(B:List Addr)(W:XW)(f:Ex):TE:=fun σ H Q=>∃ A st,RS K B A H st σ/\(match f st with
 | .ok d=>∀ v H',bA H H'->Rep K (hide (A++B) H') d v->Q v H'
 | .exc x=>∀ H',bA H H'->W x σ H'
 | .bad=>False)
def aPc(X:Cx)(W:XW):Prop:=bBn X fun C σ H'=>∃ c bm,ExcAt X.K c C bm/\W (.exn c [] []) σ H'
section
variable   {a b o:Expr}    {rest:List Stmt}  {W:XW} {s1 s2:Bool}
theorem vP(h:PS X sm (tSX X.K B s1 W bd)):PS X sm (tSX X.K B false W bd):=gD h fun Dn σ H ⟨A,st,rs,q⟩=>⟨A,st,rs,q.any⟩
theorem oO(h:PS X sm (tS X.K B bd)):PS X sm (tSX X.K B s1 W (sNX bd)):=gD h (by
 rintro Dn σ H ⟨A,st,rs,q⟩
 unfold sNX at q
 cases hb:bd st with
 | ok r=>rw[hb]at q;exact⟨A,st,r,rs,hb,q⟩
 | exc x=>rw[hb]at q;exact q.elim
 | bad=>rw[hb]at q;exact q.elim)
theorem aL5:PSs X [] (tSX X.K B s1 W eE):=qP aNh (by
 rintro Dn σ H ⟨A,st,rs,q⟩
 exact q A σ H Le.refl rs)
theorem zF(h1:PS X sm (tSX X.K B s1 W bd)):PSs X [sm] (tSX X.K B s1 W bd):=aDq h1
theorem lZ(h1:PS X sm (tSX X.K B s1 W bd))(h2:PSs X rest (tSX X.K B s2 W bd')):PSs X (sm::rest) (tSX X.K B false W (bN bd bd')):=by
 refine qP (aAn h1 h2) ?_
 rintro Dn σ H ⟨A,st,rs,q⟩
 refine⟨A,st,rs,?_⟩
 unfold bN aEf at q
 cases hb:bd st with
 | ok r =>
  rw[hb]at q
  cases r with
  | nx s1=>exact fun A' σ' H' l rs'=>⟨A',s1,rs',(q.mono l).any⟩
  | rt d=>exact q
  | bk s1=>exact q
  | ct s1=>exact q
 | exc x=>rw[hb]at q;exact Exc.any q
 | bad=>rw[hb]at q;exact q
theorem aV2{c:Expr}{t:Ex}{x y:List Stmt}(hc:PT X c (tT X.K B t))(ha:PSs X x (tSX X.K B s1 W bd))(hb:PSs X y (tSX X.K B s1 W bd')):PS X (.If c x y pos) (tSX X.K B s1 W (sIf (eNX t) bd bd')):=gD (aYl hc ha hb) (by
 rintro Dn σ H ⟨A,st,rs,q⟩
 unfold sIf eNX at q
 cases ht:t st with
 | exc x=>rw[ht]at q;exact q.elim
 | bad=>rw[ht]at q;exact q.elim
 | ok d =>
  rw[ht]at q
  cases d<;>first | exact q.elim | skip
  rename_i k
  refine⟨A,st,k,rs,ht,fun H1 s1=>?_⟩
  cases k with
  | true=>exact⟨A,st,rs.mono s1,Out.mono (Le.of s1) q⟩
  | false=>exact⟨A,st,rs.mono s1,Out.mono (Le.of s1) q⟩)
theorem bEz(h:PE X e (tIX X.K B W f))(hs:swapsWith e none pos.line X.env=pure false:=by rfl):PS X (.Expr e pos) (tSX X.K B true W (aQa f)):=gD (aHv h hs) (by
 rintro Dn σ H ⟨A,st,rs,q⟩
 refine⟨A,st,rs,?_⟩
 unfold aQa at q
 cases hf:f st with
 | ok d=>rw[hf]at q;exact fun v H' s _=>q A σ H' (Le.of s) (rs.mono s)
 | exc x=>rw[hf]at q;exact fun H' s=>q A st σ H' (Le.of s) (rs.mono s) fun _=>rfl
 | bad=>rw[hf]at q;exact q)
theorem bF0(i:Nat)   (he:PE X e (tIX X.K B W f)) (hN:X.N.Nodup) (hi:X.N[i]?=some x:=by rfl) (hx:Loc X.env.scope x:=by first | exact Or.inl rfl | exact Or.inr rfl) (hs:swapsWith e (some (.Name x pos')) pos.line X.env=pure false:=by rfl)
  (hf:X.fn x=true\/X.env.scope.names.lookup x=some .local:=by first | exact .inl rfl | exact .inr rfl | assumption):PS X (.Assign [.Name x pos'] e pos) (tSX X.K B true W (dU i f)):=gD (aE6 hN hi hx he hs hf) (by
 rintro Dn σ H ⟨A,st,rs,q⟩
 refine⟨A,st,rs,?_⟩
 unfold dU at q
 cases hf:f st with
 | ok d=>rw[hf]at q;exact fun v H' s r=>q A _ H' (Le.of s) ((rs.mono s).set i r)
 | exc x=>rw[hf]at q;exact fun H' s=>q A st σ H' (Le.of s) (rs.mono s) fun _=>rfl
 | bad=>rw[hf]at q;exact q)
theorem x_raise{c:String}    {r:Exs} {np:Pos} (hL:aPc X W) (hc:ExcAt X.K c C tl) (hm:X.mg (Str.ofString c)=some (.ref C)) (hcalm:X.calm=true) (ha:PA X (e::es) (tA X.K B r)) (hg:Gl X (Str.ofString c):=by rfl) (hdb:(Str.ofString c==("__debug__" : Str))=false:=by decide)
  (he:starEach (e::es) X.env=(false,eval e X.env)::starEach es X.env:=by rfl) (hpl:(backTo cpos (starEach es X.env)).any (·.1)=false:=by rfl) (hlen:(e::es).length<=100:=by decide) :
  PS X (.Raise (some (.Call (.Name (Str.ofString c) np) (e::es) [] cpos)) none pos) (tSX X.K B true W (rG c r)):=by
 refine gD (aV1 hL hc hm hcalm ha hg hdb he hpl hlen) ?_
 rintro Dn σ H ⟨A,st,rs,q⟩
 unfold rG at q
 cases hr:r st with
 | exc x=>rw[hr]at q;exact q.elim
 | bad=>rw[hr]at q;exact q.elim
 | ok ds =>
  rw[hr]at q
  by_cases hl:ds.length<=100
  ·refine⟨A,st,ds,rs,hr,fun vs H1 s1 r1=>⟨by rw[r1.length];exact hl,c,tl,hc,?_⟩⟩
   have q':Out X.K B A H true st W Dn (aJ (ds.length<=100) (.exc (.exn c [] []))):=q
   rw[aF hl]at q'
   exact q' A st σ H1 (Le.of s1) (rs.mono s1) fun _=>rfl
  ·have q':Out X.K B A H true st W Dn (aJ (ds.length<=100) (.exc (.exn c [] []))):=q
   rw[show aJ (ds.length<=100) (R.exc (α:=Fl) (.exn c [] [])) = .bad from if_neg hl]at q'
   exact q'.elim
end
end Pu
variable{W:Pu.XW}
namespace Pu
open PySem PySem.Spec PyProof.Rows L2
def spE(K:Frag)(np:Nat)(p:List D->R D):Sp:=fun vs H Q E=>∃ A ds,Own A H/\bD K (hide A H) ds vs/\ds.length=np/\(match p ds with
 | .ok d=>∀ v H',bA H H'->Rep K (hide A H') d v->Q v H'
 | .exc x=>∀ C c bm H',x = .exn c [] []->ExcAt K c C bm->bA H H'->E (.ref C) none H'
 | .bad=>False)
theorem aV3{K:Frag}    {st:Stmt} {f:Addr}   {k:Nat} {sm:Bool}  (F:FunD K x qual st dV f fd) (S:FnScope N ps (aG st)) (np n:Nat) (bd:Bd) (hnp:ps.length=np) (hn:N.length=n)
  (hb:∀ (cdv:Value) (A:Around) (outer:List Env) (s:Shared) (H:Hp) (E:XK) (B:List Addr) (W:XW),Room k (A.deeper (envOfC qual (aG st) s.heap.objs.size f cdv)) ->
   aPc (aAp (CX1 P w) P w K mg base N qual (aG st) f cdv A outer s H E) W->PSs (aAp (CX1 P w) P w K mg base N qual (aG st) f cdv A outer s H E) (dB st) (tSX K B sm W bd)):FnOk P w K mg base (CX1 P w) (k+1) f fd ps (spE K np (cT np n bd)):=by
 obtain⟨oc,od,kV,doc,pm,an,cdv,ct,osl,rfl,lk,hcd⟩:=F.ex
 refine aSc lk hcd S (fun vs H Q E h=>?_) fun A outer s H vs Q E hr h=>?_
 ·obtain⟨A,ds,own,r,hl,_⟩:=h
  rw[r.length,hl,hnp]
 ·obtain⟨B,ds,own,r,hl,q⟩:=h
  let W:XW:=fun x _ H'=>∀ C c bm,x = .exn c [] []->ExcAt K c C bm->E (.ref C) none H'
  refine⟨tSX K B sm W bd,hb cdv A outer s H E B W hr ?_,?_⟩
  ·intro pins σ H1 s1 ea C H' s' I h1 h2 h3 h4 h5 ⟨c,bm,hc,hw⟩
   exact aUz pins σ H1 s1 ea C H' s' I h1 h2 h3 h4 h5 (hw C c bm rfl hc)
  ·have rs:=aBn (N:=N) own r
   rw[hl,hn]at rs
   refine⟨[],_,rs,?_⟩
   have fin:∀ {A':List Addr} {H':Hp},Le [] H A' H'->bA H H':=fun {A' H'} l=>by
    unfold Le at l
    rw[pW]at l
    exact l.trans (bH _ _)
   unfold cT at q
   rw[aF hl]at q
   cases hfl:bd (ds.map (fun d=>some (Sl.v d))++List.replicate (n-np) none) with
   | ok fl =>
    rw[hfl]at q
    cases fl with
    | nx s1=>exact fun A' σ' H' l rs'=>q _ H' (fin l) (cC.mpr rfl)
    | rt d'=>exact fun A' v H' l rv=>q v H' (fin l) (rv.mono (iM fun a ha=>List.mem_append_right _ ha))
    | bk s1=>exact q.elim
    | ct s1=>exact q.elim
   | exc x =>
    rw[hfl]at q
    exact fun A' st' σ' H' l rs' _ C c bm e hc=>q C c bm H' e hc (fin l)
   | bad=>rw[hfl]at q;exact q
theorem aPd{K:Frag}   {k:Nat} {f:Addr}    (F:FnOk P w K mg base (CX1 P w) k f fd ps (spE K np p)):FnOk P w K mg base CX0 k f fd ps (spI K np (pNX p)):=by
 have up:∀ vs H Q E,spI K np (pNX p) vs H Q E->spE K np p vs H Q E0:=by
  rintro vs H Q E ⟨A,ds,d,own,r,hl,hp,q⟩
  refine⟨A,ds,own,r,hl,?_⟩
  rw[R.nox_ok hp]
  exact q
 refine⟨fun vs H Q E h=>F.len vs H Q E0 (up vs H Q E h),fun A outer s H args us vs Q E hr e0 hb hv h=>?_⟩
 refine codeAny_mono (F.run A outer s H args us vs Q E0 hr e0 hb hv (up vs H Q E h)) fun r s' z=>?_
 cases r with
 | error e=>obtain⟨_,_,_,_,_,_,_,_,_,hE⟩:=z;exact hE.elim
 | ok fl=>cases fl<;>exact z
structure DefOkX(P:Program)(w:World)(K:Frag)(mg:Str->Option Value)(base:Heap)(x:Str)(k np:Nat)(p:List D->R D):Prop where
 ex:∃ (fa:Addr) (fd:FuncData) (ps:List Str),FnOk P w K mg base (CX1 P w) k fa fd ps (spE K np p)/\mg x=some (.ref fa)/\keepIn K (.ref fa)=true/\Binds K fd ps []
 len:∀ ds,p ds ≠ .bad->ds.length=np
theorem aHl(ds:List D)(h:cT np n bd ds ≠ .bad):ds.length=np:=by
 by_cases hl:ds.length=np
 ·exact hl
 ·exact(h (if_neg hl)).elim
theorem DefOkX.of{K:Frag}    {k:Nat}     (h:FnOk P w K mg base (CX1 P w) k fa fd ps (spE K np (cT np n bd))) (m:mg x=some (.ref fa))
  (kp:keepIn K (.ref fa)=true) (b:Binds K fd ps []):DefOkX P w K mg base x k np (cT np n bd):=⟨⟨fa,fd,ps,h,m,kp,b⟩,aHl⟩
theorem DefOkX.calm{K:Frag}    {k:Nat}  (h:DefOkX P w K mg base x k np p):DefOk P w K mg base x k np (pNX p):=by
 obtain⟨fa,fd,ps,F,m,kp,b⟩:=h.ex
 refine⟨⟨fa,fd,ps,aPd F,m,kp,b⟩,fun ds d e=>h.len ds fun z=>?_⟩
 rw[R.nox_ok e]at z
 cases z
section
variable{X:Cx}{B:List Addr}{a b e o:Expr}{f g:Ex}{pos:Pos}{W:XW}
theorem aXu{CX:CXT}{k:Nat}      {ds:List Value} {E:XK}  {σ:L2.St}   {Q:VK} {us:List Value}  (F:FnOk X.prog X.w X.K X.mg X.base CX k fa fd ps sp) (hr:Room k X.A) (hb:Binds X.K fd ps ds) (hd:Vals dvs ds)
  (I:Inv X pins σ H s) (r:Vals vs us) (hx:∀ e s',CX X.stack H s E e s'->X.xe e s') (h:sp (vs++dvs) H Q E):wpAny (model X.prog X.w) X.A (call (.ref fa) us) (EP X pins σ Q) X.xe s:=by
 have r2:Vals (vs++dvs) (us++ds):=r.append hd
 have hl:(us++ds).length=ps.length:=by rw[<-r2.length];exact F.len _ _ _ _ h
 refine wpAny_call (codeAny_mono (F.run X.A X.stack s H ⟨us,[]⟩ (us++ds) (vs++dvs) Q E hr I.env0 (hb s us I.kIn hl) r2 h) fun r s' hq=>?_)
 cases r with
 | error e=>exact hx e s' hq
 | ok fl =>
  cases fl with
  | ret u=>exact I.after hq
  | next=>exact False.elim hq
  | brk=>exact False.elim hq
  | cont=>exact False.elim hq
def EW(X:Cx)(W:XW)(σ:L2.St):XK:=fun cv _ H'=>∃ C c bm,cv = .ref C/\ExcAt X.K c C bm/\W (.exn c [] []) σ H'
theorem bH4{σ:L2.St}   (hL:aPc X W) (I:Inv X pins σ H s) (e:Value) (s':Shared) (h:CX1 X.prog X.w X.stack H s (EW X W σ) e s'):X.xe e s':=by
 obtain⟨ea,C,H',rfl,os,bare,un,hok,F,C',c,bm,e1,hc,hw⟩:=h
 cases e1
 exact hL pins σ H s ea C H' s' I os bare un hok F ⟨c,bm,hc,hw⟩
structure MethOkX(P:Program)(w:World)(K:Frag)(mg:Str->Option Value)(base:Heap)(c m:String)(k np:Nat)(dv:List D)(p:List D->R D):Prop where
 ex:∃ (C fa:Addr) (fd:FuncData) (ps:List Str) (dvs:List V) (ds:List Value),ClsAt K c C/\Meth K C (Str.ofString m) fa/\FnOk P w K mg base (CX1 P w) k fa fd ps (spE K np p)/\Binds K fd ps ds/\Vals dvs ds/\∀ H,bD K H dv dvs
 len:∀ ds,p ds ≠ .bad->ds.length=np
theorem MethOkX.calm{K:Frag}   {c m:String} {k:Nat}   (h:MethOkX P w K mg base c m k np dv p):MethOk P w K mg base c m k np dv (pNX p):=by
 obtain⟨C,fa,fd,ps,dvs,ds,hc,hm,F,bd,vd,rd⟩:=h.ex
 refine⟨⟨C,fa,fd,ps,dvs,ds,hc,hm,aPd F,bd,vd,rd⟩,fun ds d e=>h.len ds fun z=>?_⟩
 rw[R.nox_ok e]at z
 cases z
theorem aPe{c m:String}{k:Nat}    {r:Exs}   (h:MethOkX X.prog X.w X.K X.mg X.base c m k np dv p) (hL:aPc X W) (hr:Room j X.A) (hk:k<=j) (ho:PE X o (tI X.K B f)) (ha:PA X (e::es) (tA X.K B r))
  (hst:starEach (e::es) X.env=(false,eval e X.env)::starEach es X.env:=by rfl) (hpl:(backTo pos (starEach es X.env)).any (·.1)=false:=by rfl)
  (ht:eval (.Call (.Attribute o (Str.ofString m) apos) (e::es) [] pos) X.env=(do
   let ov <- eval o X.env
   standAt apos.atName
   let (f,first) <- holding [ov] (getMethod ov (Str.ofString m) pl)
   callWith pos f first (backTo pos (starEach (e::es) X.env)) (backToKw pos (keywordEach [] X.env))):=by rfl) :
  PE X (.Call (.Attribute o (Str.ofString m) apos) (e::es) [] pos) (tIX X.K B W (wL c m p dv f r)):=by
 obtain⟨C,fa,fd,ps,dvs,ds,hc,hm,F,bd,vd,rd⟩:=h.ex
 intro pins s σ H Q I ⟨A,st,rs,q⟩
 unfold wL at q
 cases hf:f st with
 | exc x=>rw[hf]at q;exact q.elim
 | bad=>rw[hf]at q;exact q.elim
 | ok x =>
  rw[hf]at q
  cases hr':r st with
  | exc y=>rw[hr']at q;exact q.elim
  | bad=>rw[hr']at q;exact q.elim
  | ok xs =>
   rw[hr']at q
   cases x<;>first | exact q.elim | skip
   rename_i c' ns fs0
   by_cases hg:c'=c/\m ∉ ns
   ·have q':(match aJ (c'=c/\m ∉ ns) (p (.ins c' ns fs0::(xs++dv))) with
     | .ok d=>∀ v H',bA H H'->Rep X.K (hide (A++B) H') d v->Q v H'
     | .exc x=>∀ H',bA H H'->W x σ H'
     | .bad=>False):=q
    rw[aF hg]at q'
    obtain⟨rfl,hn⟩:=hg
    refine PySem.W.methodCall_KW (pl:=pl) (thn (ho pins s σ H (fun v H1=>bA H H1/\Rep X.K (hide (A++B) H1) (.ins c' ns fs0) v) I ⟨A,st,_,rs,hf,fun v H1 s1 r1=>⟨s1,r1⟩⟩) fun u s1 ⟨y,H1,I1,rx,sm1,ry⟩=>?_) ht
    obtain⟨p',C',dx,fs,e2,h5,h6,h7,h8⟩:=mR.ins (.inl ry)
    have:C'=C:=by have z:=h6.symm.trans hc.ns;injection z with z;injection z with z;injection z
    subst this
    subst e2
    obtain rfl:u=Value.ref p':=rx
    refine aE7 I1 h5 hc.cl hm (lookup_none h7 hn) ?_
    refine PySem.W.callWith_K (first:=[.ref p']) (h₀:=X.base) I.ok.mod.kin hm.kp (thn (ha pos pins s1 σ H1 (fun vs H2=>bA H1 H2/\bD X.K (hide (A++B) H2) xs vs) I1 ⟨A,st,xs,rs.mono sm1,hr',fun vs H2 s2 r2=>⟨s2,r2⟩⟩) fun us s2 ⟨vs,H2,I2,rv,sm2,rp⟩=>⟨I2.kIn,?_⟩) hst hpl
    refine aXu (us := .ref p' :: us) (vs := .ref p' :: vs) (E:=EW X W σ) F (hr.mono hk) bd vd I2 (.cons rfl rv) (bH4 hL I2) ?_
    have sm:=sm1.trans sm2
    refine⟨A++B,_,rs.own.mono sm,.cons (ry.mono (bA.hide sm2)) (rp.append (rd _)),h.len _ fun z=>?_,?_⟩
    ·rw[z]at q';exact q'
    ·cases hp:p (.ins c' ns fs0::(xs++dv)) with
     | ok d=>rw[hp]at q';exact fun v H' s' r'=>q' v H' (sm.trans s') r'
     | exc x=>rw[hp]at q';exact fun C c bm H' e1 hc s'=>⟨C,c,bm,rfl,hc,by rw[<-e1];exact q' H' (sm.trans s')⟩
     | bad=>rw[hp]at q';exact q'
   ·have q':(match aJ (c'=c/\m ∉ ns) (p (.ins c' ns fs0::(xs++dv))) with
     | .ok d=>∀ v H',bA H H'->Rep X.K (hide (A++B) H') d v->Q v H'
     | .exc x=>∀ H',bA H H'->W x σ H'
     | .bad=>False):=q
    rw[show aJ (c'=c/\m ∉ ns) (p (.ins c' ns fs0::(xs++dv))) = .bad from if_neg hg]at q'
    exact q'.elim
theorem MethOkX.of{K:Frag}   {f:Addr}   {k:Nat} {c m:String}     {ds:List Value}  (hc:ClsAt K c C) (hm:Meth K C (Str.ofString m) f) (F:FnOk P w K mg base (CX1 P w) k f fd ps (spE K np (cT np n bd))) (b:Binds K fd ps ds) (v:Vals dvs ds) (r:∀ H,bD K H dv dvs):MethOkX P w K mg base c m k np dv (cT np n bd) :=
 ⟨⟨C,f,fd,ps,dvs,ds,hc,hm,F,b,v,r⟩,aHl⟩
end
section
variable   {a b:Expr}   
theorem bF1(hu:X.A.units+64<cLine)(ha:PE X a (tIX X.K B W f))(hb:PE X b (tP X.K B g))(hs:aI0 b:=by intro _ _;rfl):PE X (.Subscript a b pos) (tIX X.K B W (e2X dIx f g)):=by
 refine cQ (aYo (aSd.or (aOz hu)) ha hb hs) ?_
 rintro σ H Q ⟨A,st,rs,q⟩
 unfold e2X at q
 refine⟨A,st,rs,?_⟩
 cases hf:f st with
 | bad=>rw[hf]at q;exact q
 | exc x=>rw[hf]at q;exact q
 | ok x =>
  rw[hf]at q
  intro v H1 s1 r1
  cases hg:g st with
  | bad=>rw[hg]at q;exact q.elim
  | exc y=>rw[hg]at q;exact q.elim
  | ok y =>
   rw[hg]at q
   refine⟨A,st,y,rs.mono s1,hg,fun u H2 s2 r2=>?_⟩
   cases ho:dIx x y with
   | bad =>
    have q':(match (dIx x y).nox with
     | .ok d=>∀ v H',bA H H'->Rep X.K (hide (A++B) H') d v->Q v H'
     | .exc x=>∀ H',bA H H'->W x σ H'
     | .bad=>False):=q
    rw[ho]at q';exact q'.elim
   | exc z =>
    have q':(match (dIx x y).nox with
     | .ok d=>∀ v H',bA H H'->Rep X.K (hide (A++B) H') d v->Q v H'
     | .exc x=>∀ H',bA H H'->W x σ H'
     | .bad=>False):=q
    rw[ho]at q';exact q'.elim
   | ok d =>
    have q':(match (dIx x y).nox with
     | .ok d=>∀ v H',bA H H'->Rep X.K (hide (A++B) H') d v->Q v H'
     | .exc x=>∀ H',bA H H'->W x σ H'
     | .bad=>False):=q
    rw[ho]at q'
    exact aP0 (A++B) H2 x y d v u Q (rs.own.mono (s1.trans s2)) (.inl (r1.mono (bA.hide s2))) r2 ho fun w H' s' r'=>q' w H' (s1.trans (s2.trans s')) r'
end
end Pu
namespace Pu
open PySem PySem.Spec PyProof.Rows L2 PySem.Calls Builtin Builtin.ObjectAttr Builtin.Getset_descriptor
section
variable   {A:Around}   {K:Frag} {x:Addr}
end
section
variable   {a:Expr}   
end
section
variable    {σ:L2.St}   {ea:Addr}
end
end Pu
namespace Pu
open PySem PySem.Spec PyProof.Rows L2
section
variable{K:Frag}  {c:String} {D':Addr}  {B initId:String}
theorem aV4(F:ExcBaseFacts B newId initId bmB)(a:nsIn K mainGlobals (Str.ofString c)=some (some (.ref C)))(q:excIn K C bmB newId=true)(g1:findIn K (.ref C) "__getattribute__" = some (some (.builtin "BaseException.__getattribute__")))(g6:findIn K (.ref C) "__getattr__" = some none)(g7:mroIn K C (.type "BaseException")=some true)(g2:findIn K (.ref C) "__class__" = some (some (.builtin "object.__class__")))
  (g3:specialIn K (.builtin "object.__class__") "__get__" = some (some (.builtin "getset_descriptor.__get__"))) (g4:takesIn K (.builtin "object.__class__")=some true) (g5:mroIn K C (.type "object")=some true):∃ bm,ExcAt K c C bm:=by
 have cl:(clsIn K C).isSome=true:=by
  unfold mroIn at g5
  cases e:clsIn K C with
  | none=>rw[e]at g5;cases g5
  | some cd=>rfl
 have ic:ExcCl K C:=⟨g1,g6,g7,cl,g2,g3,g4,g5⟩
 unfold excIn at q
 split at q
 ·rename_i dd cd sl ho
  split at q
  ·rename_i C' bm k0 k1 k2 k3 n k5 hm hsl
   simp only[Bool.not_eq_true',beq_iff_eq,and_eq_true]at q
   obtain⟨⟨⟨⟨⟨e1,e2⟩,e3⟩,e4⟩,e5⟩,e6⟩:=q
   refine⟨bm,a,⟨B,newId,initId,bmB,F,fun h kin=>?_⟩,ic⟩
   obtain⟨nm,bs,mro,ns,qn,hd,sn,sub,ab,col,del⟩:=cd
   dsimp only at hm e3 e5 e6
   have hsl':sl = #[k0,k1,k2,k3,some (.builtin n),k5]:=by rw[<-Array.toArray_toList (xs:=sl),hsl]
   subst hsl'
   subst e1 e2 e3 hm
   exact⟨ns,nm,qn,bs,hd,sn,sub,ab,col,dd,k0,k1,k2,k3,k5,h.nsMap ns,kin _ _ ho,.of_isNs (PySem.W.isNs_of_in kin e5),PySem.W.nsMap_none_of_in kin e5 e6,PySem.W.tail_of_in kin e4⟩
  ·cases q
 ·cases q
end
section
variable   {K:Frag}   {f:Addr}   {k:Nat}
theorem MakeOk.of{c:String}    (hc:ClsAt K c C) (hm:Mk K C f) (F:FnOk P w K mg base CX0 k f fd ps (spM K c np (aI7 c np n bd))) (b:Binds K fd ps []) (m:mg (Str.ofString c)=some (.ref C)):MakeOk P w K mg base c k np (aI7 c np n bd) :=
 ⟨⟨C,f,fd,ps,hc,hm,F,b,m⟩,aUw⟩
end
section
variable{P:List α->Prop}
theorem aXv(h:P [])(us:List α)(hl:us.length=0):P us:=by rw[List.length_eq_zero_iff.mp hl];exact h
theorem aE2(h:∀ a us,us.length=n->P (a::us))(us:List α)(hl:us.length=n+1):P us:=by
 cases us with
 | nil=>cases hl
 | cons a us=>exact h a us (Nat.succ.inj hl)
theorem kE(h:∀ a,P [a])(us:List α)(hl:us.length=1):P us:=aE2 (fun a=>aXv (h a)) us hl
theorem eZ(h:∀ a b,P [a,b])(us:List α)(hl:us.length=2):P us:=aE2 (fun a=>kE (P:=fun us=>P (a::us)) (h a)) us hl
theorem iV(h:∀ a b c,P [a,b,c])(us:List α)(hl:us.length=3):P us:=aE2 (fun a=>eZ (P:=fun us=>P (a::us)) (h a)) us hl
theorem aXw(h:∀ a b c d,P [a,b,c,d])(us:List α)(hl:us.length=4):P us:=aE2 (fun a=>iV (P:=fun us=>P (a::us)) (h a)) us hl
end
section
variable   {a b o:Expr}   {r:Exs} 
end
def Inn(K:Frag)(G H:Hp):List (List D)->List Addr->Prop
 | [],ps=>ps=[]
 | xs::xss,ps=>∃ p r vs,ps=p::r/\H p=some (.lst vs)/\bD K G xs vs/\Inn K G H xss r
section
variable   {a b o:Expr}    {rest:List Stmt}  {na:NB} 
end
def tSF(K:Frag)(B:List Addr)(i:Nat)(b:Bd):TS:=fun Dn σ H=>∃ A st st' xs,RS K B A H st σ/\b st = .ok (.nx st')/\st'[i]?=some (some (.o .l xs))/\∀ A' a vs H',Le A H A' H'->a∈A'->H' a=some (.lst vs)->bD K (hide (A'++B) H') xs vs->Dn.rt (.ref a) H'
def spF(K:Frag)(np:Nat)(p:List D->R D):Sp:=fun vs H Q _=>∃ A ds xs,Own A H/\bD K (hide A H) ds vs/\ds.length=np/\p ds = .ok (.lst xs)/\∀ a ws H',bA H H'->H a=none->H' a=some (.lst ws)->bD K (hide (a::A) H') xs ws->Q (.ref a) H'
section
variable   {o:Expr}    {rest:List Stmt}  
theorem aPf(h1:PS X sm (tS X.K B bd))(h2:PSs X rest (tSF X.K B i bd')):PSs X (sm::rest) (tSF X.K B i (bN bd bd')):=qP (aAn h1 h2) (by
 rintro Dn σ H ⟨A,st,st',xs,rs,hb,hi,q⟩
 unfold bN aEf at hb
 obtain⟨fl,hfl,h3⟩:=R.ok_of hb
 refine⟨A,st,fl,rs,hfl,?_⟩
 cases fl with
 | nx s1=>exact fun A' σ' H' l rs'=>⟨A',s1,st',xs,rs',h3,hi,fun A2 a vs H2 l2=>q A2 a vs H2 (l.trans l2)⟩
 | rt d=>cases h3
 | bk s1=>cases h3
 | ct s1=>cases h3)
theorem bBo(hN:X.N[i]?=some x:=by rfl)(hv:Vis X.env.scope x:=by first | exact Or.inl rfl | exact Or.inr (Or.inl rfl) | exact Or.inr (Or.inr rfl))(hd:(x==("__debug__" : Str))=false:=by decide)(hcd:(x==("__classdict__" : Str))=false:=by decide) :
  PSs X [.Return (some (.Name x p1)) pos] (tSF X.K B i eE):=qP (aDq (aLp (tW hN hv hd hcd))) (by
 rintro Dn σ H ⟨A,st,st',xs,rs,hb,hi,q⟩
 cases hb
 obtain⟨a,o,vs,e1,m,h1,ko,r,_⟩:=rs.lst i .l xs hi
 have eo:o = .lst vs:=ko
 subst eo
 exact⟨.ref a,e1,q A a vs H Le.refl m h1 r⟩)
end
section
variable   {K:Frag}    {st:Stmt}  {f:Addr}   {k:Nat}
theorem bH5(F:FunD K x qual st dV f fd)(S:FnScope N ps (aG st))(np n i:Nat)(bd:Bd)(hnp:ps.length=np)(hn:N.length=n)
  (hb:∀ (cdv:Value) (A:Around) (outer:List Env) (s:Shared) (H:Hp) (E:XK) (B:List Addr),Room k (A.deeper (envOfC qual (aG st) s.heap.objs.size f cdv)) ->
   PSs (aAp CX0 P w K mg base N qual (aG st) f cdv A outer s H E).nox (dB st) (tSF K B i bd)):FnOk P w K mg base CX0 (k+1) f fd ps (spF K np (cT np n (aAs bd i))):=by
 refine F.okX S (fun vs H Q E h=>?_) (fun cdv A outer s H vs Q E hr h=>?_)
 ·obtain⟨A,ds,d,own,r,hl,_⟩:=h
  rw[r.length,hl,hnp]
 ·obtain⟨B,ds,xs,own,r,hl,hp,q⟩:=h
  refine⟨tSF K B i bd,hb cdv A outer s H E B hr,?_⟩
  obtain⟨_,h2⟩:=aK hp
  obtain⟨fl,hfl,h3⟩:=R.ok_of h2
  have rs:=aBn (N:=N) own r
  rw[hl,hn]at rs
  unfold aAs at hfl
  split at hfl
  ·rename_i s1 hf1
   unfold aSy at hfl
   split at hfl
   ·rename_i e1
    cases hfl
    cases h3
    refine⟨[],_,s1,_,rs,hf1,e1,fun A' a vs' H' l ha hv rv=>?_⟩
    have sm:bA H H':=by
     unfold Le at l
     rw[pW]at l
     exact l.trans (bH _ _)
    refine q a vs' H' sm ?_ hv (rv.mono (iM fun b hb=>?_))
    ·cases hH:H a with
     | none=>rfl
     | some o =>
      have z:=l a o (by rw[pW];exact hH)
      rw[eN ha]at z;cases z
    ·rcases List.mem_cons.mp hb with rfl | hb
     ·exact List.mem_append_left _ ha
     ·exact List.mem_append_right _ hb
   ·cases hfl
  ·cases hfl
theorem aRa(h:cT np n (aAs bd i) ds = .ok d):∃ xs,d = .lst xs:=by
 obtain⟨_,h2⟩:=aK h
 obtain⟨fl,hfl,h3⟩:=R.ok_of h2
 unfold aAs at hfl
 split at hfl
 ·unfold aSy at hfl
  split at hfl
  ·cases hfl;cases h3;exact⟨_,rfl⟩
  ·cases hfl
 ·cases hfl
theorem aRb(hp:∀ ds d,p ds = .ok d->∃ xs,d = .lst xs)  (F:FnOk P w K mg base CX0 k f fd ps (spF K np p)):FnOk P w K mg base CX0 k f fd ps (spI K np p):=by
 have up:∀ vs H Q E,spI K np p vs H Q E->spF K np p vs H Q E:=by
  rintro vs H Q E ⟨A,ds,d,own,r,hl,he,q⟩
  obtain⟨xs,rfl⟩:=hp ds d he
  refine⟨A,ds,xs,own,r,hl,he,fun a ws H' sm ha hv rv=>q _ H' sm (bU.mpr ⟨a,ws,rfl,SqL.of (by rw[bV (own.free ha)];exact hv),rv.mono (iM fun b hb=>mem_cons_of_mem _ hb)⟩)⟩
 exact⟨fun vs H Q E h=>F.len vs H Q E (up vs H Q E h),fun A outer s H args us vs Q E hr e0 hb hv h=>F.run A outer s H args us vs Q E hr e0 hb hv (up vs H Q E h)⟩
end
structure MethOkF(P:Program)(w:World)(K:Frag)(mg:Str->Option Value)(base:Heap)(c m:String)(k np:Nat)(dv:List D)(p:List D->R D):Prop where
 ex:∃ (C fa:Addr) (fd:FuncData) (ps:List Str) (dvs:List V) (ds:List Value),ClsAt K c C/\Meth K C (Str.ofString m) fa/\FnOk P w K mg base CX0 k fa fd ps (spF K np p)/\Binds K fd ps ds/\Vals dvs ds/\∀ H,bD K H dv dvs
 len:∀ ds d,p ds = .ok d->ds.length=np
 lst:∀ ds d,p ds = .ok d->∃ xs,d = .lst xs
theorem MethOkF.of{K:Frag}   {k:Nat} {f:Addr}   {c m:String}     {ds:List Value}  (hc:ClsAt K c C) (hm:Meth K C (Str.ofString m) f) (F:FnOk P w K mg base CX0 k f fd ps (spF K np (cT np n (aAs bd i)))) (b:Binds K fd ps ds) (v:Vals dvs ds) (r:∀ H,bD K H dv dvs):MethOkF P w K mg base c m k np dv (cT np n (aAs bd i)) :=
 ⟨⟨C,f,fd,ps,dvs,ds,hc,hm,F,b,v,r⟩,aFl,fun _ _ h=>aRa h⟩
theorem MethOkF.plain{K:Frag}   {c m:String} {k:Nat}   (h:MethOkF P w K mg base c m k np dv p):MethOk P w K mg base c m k np dv p:=by
 obtain⟨C,fa,fd,ps,dvs,ds,hc,hm,F,b,v,r⟩:=h.ex
 exact⟨⟨C,fa,fd,ps,dvs,ds,hc,hm,aRb h.lst F,b,v,r⟩,h.len⟩
section
variable   {o:Expr}  
theorem bBp{c m:String}{k:Nat}    {r:Exs}   (h:MethOkF X.prog X.w X.K X.mg X.base c m k np dv p) (hr:Room j X.A) (hk:k<=j) (ho:PE X o (tI X.K B f)) (ha:PA X (e::es) (tA X.K B r))
  (hst:starEach (e::es) X.env=(false,eval e X.env)::starEach es X.env:=by rfl) (hpl:(backTo pos (starEach es X.env)).any (·.1)=false:=by rfl)
  (ht:eval (.Call (.Attribute o (Str.ofString m) apos) (e::es) [] pos) X.env=(do
   let ov <- eval o X.env
   standAt apos.atName
   let (f,first) <- holding [ov] (getMethod ov (Str.ofString m) pl)
   callWith pos f first (backTo pos (starEach (e::es) X.env)) (backToKw pos (keywordEach [] X.env))):=by rfl) :
  PE X (.Call (.Attribute o (Str.ofString m) apos) (e::es) [] pos) (tF X.K B (sH c m p dv f r)):=by
 obtain⟨C,fa,fd,ps,dvs,ds,hc,hm,F,bd,vd,rd⟩:=h.ex
 refine cQ (aNl (pl:=pl) ho hc.cl hm F (hr.mono hk) bd vd aJn ha hst hpl ht) ?_
 rintro σ H Q ⟨A,st,xs,rs,hd,q⟩
 obtain⟨x,hx,h2⟩:=R.ok_of hd
 obtain⟨ys,hxs,h3⟩:=R.ok_of h2
 refine⟨A,st,x,rs,hx,fun v H1 s1 r1=>?_⟩
 cases x<;>first | (cases h3;done) | skip
 obtain⟨⟨e1,hn⟩,h4⟩:=aK h3
 subst e1
 obtain⟨p',C',dx,fs,e2,h5,h6,h7,h8⟩:=mR.ins (.inl r1)
 have:C'=C:=by have z:=h6.symm.trans hc.ns;injection z with z;injection z with z;injection z
 subst this
 refine⟨p',dx,fs,e2,h5,lookup_none h7 hn,A,st,ys,rs.mono s1,hxs,fun vs H2 s2 r2=>?_⟩
 refine⟨A++B,_,xs,rs.own.mono (s1.trans s2),.cons (r1.mono (bA.hide s2)) (r2.append (rd _)),h.len _ _ h4,h4,fun a ws H' s' ha' hv rv=>?_⟩
 have e0:upd (hide [a] H') a (.lst ws)=H':=by
  funext b
  by_cases hb:b=a
  ·subst hb;rw[cH];exact hv.symm
  ·rw[bQ hb,bV (by simpa using hb)]
 have z:=q a ws (hide [a] H') (fun b u hz=>?_) (eN (by simp)) ?_
 ·rw[e0]at z;exact z
 ·have hz2:=s2 _ _ (s1 _ _ hz)
  rw[bV (by simpa using bC hz2 ha')]
  exact s' _ _ hz2
 ·refine rv.mono fun b u hz=>?_
  have hb:b ∉ a::(A++B):=fun y=>by rw[eN y]at hz;cases hz
  rw[bV fun y=>hb (mem_cons_of_mem _ y),bV (by simpa using fun y=>hb (by rw[y];exact mem_cons_self))]
  exact bH _ _ _ _ hz
end
section
variable   {a:Expr}  
end
section
variable   {e1 e2 o:Expr}    {rest:List Stmt}   {s1:Bool}
end
section
variable   {K:Frag}    {st:Stmt}     {k:Nat}   
end
section
variable   {e1 e2 o:Expr}  
end
section
variable   {o:Expr}  
end
section
variable   {a b:Expr}  
theorem aL6:∀ {ns:List Int} {us:List Value},Vals (ns.map V.int) us->IntsAre us ns
 | [],us,h=>by rw[h.zero];exact .nil
 | n::ns,us,h=>by
  cases h with
  | cons r t =>
   obtain⟨k,rfl⟩:=r
   exact .cons n k (aL6 t)
theorem aHm{K:Frag}{H:Hp}:∀ {l:List Int} {vs:List V},bD K H (l.map D.int) vs->vs=l.map V.int
 | [],vs,h=>cY.mp h
 | i::l,vs,h=>by
  obtain⟨v,r,rfl,h1,h2⟩:=bT.mp h
  rw[aU.mp h1,aHm h2]
  rfl
end
def noH:Hp:=fun _=>none
theorem aXx:bA noH H:=fun _ _ h=>nomatch h
theorem aV5{K:Frag}    (h:atom d=true) (r:Rep K H d v):Rep K noH d v:=by
 cases d<;>first | (cases h;done) | skip
 ·exact cC.mpr (cC.mp r)
 ·exact bL.mpr (bL.mp r)
 ·exact aU.mpr (aU.mp r)
 ·exact bI.mpr (bI.mp r)
def tC(K:Frag)(B:List Addr)(f:Ex):TE:=fun σ H Q=>∃ A st d xs,RS K B A H st σ/\f st = .ok d/\bAi d = .ok (.lst xs)/\∀ P ps H',bA H H'->(∀ p∈P::ps,H p=none)->(P::ps).Nodup->H' P=some (.lst (ps.map V.ref))->Inn K noH H' (xs.map unL) ps->Q (.ref P) H'
section
variable    {iter:Expr} {pl:Pos}  {r:Str} 
end
section
variable   {r:Str}
end
section
variable{a b o:Expr}    {rest:List Stmt}    {x:Addr}
end
section
variable   {a b o:Expr}   
end
section
variable{K:Frag}{Z:List Addr}  {st:PSt} 
end
section
variable   {a b o:Expr}    {rest:List Stmt}  {na:NB} 
end
section
variable    {iter:Expr} {pl:Pos}  {r:Str} {rest:List Stmt}  
end
open Builtin
section
variable{prog:Program}{w:World}{A:Around}{E:Value->Shared->Prop}{s:Shared}
variable{z TI TO i1 i2 l:Addr}{fp:List Addr}{n k1 k2:Nat}{P:Nat->Value->Prop}{St:Nat->Heap->Prop}{ys:Array Value}{y a b:Value}
structure ZApart(z TI TO i1 i2 l:Addr)(fp:List Addr):Prop where
 TIz:TI≠z
 TOz:TO≠z
 i1z:i1≠z
 i2z:i2≠z
 TITO:TI≠TO
 TIi1:TI≠i1
 TIi2:TI≠i2
 TOi1:TO≠i1
 TOi2:TO≠i2
 i12:i1≠i2
 lz:l≠z
 lTO:l≠TO
 li1:l≠i1
 li2:l≠i2
 zf:z ∉ fp
 Tf:TO ∉ fp
 i2f:i2 ∉ fp
theorem aN2{n l:Nat}(h:l<n):ZApart (n+4) (n+2) (n+3) n (n+1) l [n]:=by
 constructor
 ·show n+2≠n+4;omega
 ·show n+3≠n+4;omega
 ·show n≠n+4;omega
 ·show n+1≠n+4;omega
 ·show n+2≠n+3;omega
 ·show n+2≠n;omega
 ·show n+2≠n+1;omega
 ·show n+3≠n;omega
 ·show n+3≠n+1;omega
 ·show n≠n+1;omega
 ·show l≠n+4;omega
 ·show l≠n+3;omega
 ·show l≠n;omega
 ·show l≠n+1;omega
 ·intro z
  have:n+4=n:=List.mem_singleton.mp z
  omega
 ·intro z
  have:n+3=n:=List.mem_singleton.mp z
  omega
 ·intro z
  have:n+1=n:=List.mem_singleton.mp z
  omega
theorem aV6(D1:Draws prog w A i1 fp n P St)(D:ZApart z TI TO i1 i2 l fp)
  (hz:IsZip s.heap z TI TO .none) (hTI:IsPair s.heap TI (.ref i1) (.ref i2)) (hTO:IsPair s.heap TO a b)
  (h1:St k1 s.heap) (hk1:k1<n) (h2:s.heap.IsListIter i2 l k2) (hl:s.heap.IsList l ys) (hy:ys[k2]?=some y) 
  (hQ:∀ h' tk x,P k1 x->IsZip h' z TI TO (rawInt s.heap.objs.size)->IsPair h' TO x y->St (k1+1) h'->h'.IsListIter i2 l (k2+1)->IsPair h' s.heap.objs.size x y->h'.objs.size=s.heap.objs.size+1 ->
   (∀ c o,c≠z->c≠TO->c≠i1->c≠i2->s.heap.get? c=some o->h'.get? c=some o)->Q (.ref s.heap.objs.size) {s with heap:=h',toks:=tk}) :
  wpAny (model prog w) A (Builtin.«zip.__next__» ⟨[.ref z],[]⟩) (fun fin s'=>∃ v,fin = .done (.ret v)/\Q v s') E s:=by
 show wpAny _ _ (field (.ref z) 2 >>= _) _ _ _
 refine wpAny_bind (wpAny_field hz rfl (x := .bool false) rfl ?_)
 show wpAny _ _ (field (.ref z) 3 >>= _) _ _ _
 refine wpAny_bind (wpAny_field hz rfl (x := .ref TI) rfl ?_)
 refine wpAny_bind (wpAny_seqItems hTI rfl ?_)
 show wpAny _ _ (Builtin.SmallTypes.ownedTupleIsFree (.ref z) >>= _) _ _ _
 refine wpAny_bind ?_
 unfold Builtin.SmallTypes.ownedTupleIsFree
 refine wpAny_bind (wpAny_field hz rfl (x := .none) rfl (wpAny_pure ?_))
 simp only[if_true]
 refine wpAny_bind (wpAny_rule ?_)
 refine wpAny_bind (wpAny_field hz rfl (x := .ref TO) rfl ?_)
 refine wpAny_bind (wpAny_setField_rec hz (by simp) fun h₁ hz₁ hs₁=>?_)
 replace hz₁:IsZip h₁ z TI TO .ellipsis:=hz₁
 refine wpAny_bind ?_
 simp only[List.zipIdx_cons,List.zipIdx_nil,forIn_cons,forIn_nil]
 refine wpAny_bind (wpAny_bind (wpAny_onRaise ?_))
 show wpAny _ _ (Builtin.SmallTypes.nextOf (.ref i1) >>= _) _ _ _
 refine wpAny_bind (D1.item k1 {s with heap:=h₁} _ _ hk1 (D1.frame k1 s.heap h₁ h1 fun b hb o e=>hs₁.extBut _ _ (fun x=>D.zf (x ▸ hb)) e) fun x h₂ tk hP h1₂ hs₂=>wpAny_pure ?_)
 have hs₂:Heap.SameBut i1 h₁ h₂:=hs₂
 have hTO₂:IsPair h₂ TO a b:=hs₂.extBut _ _ D.TOi1 (hs₁.extBut _ _ D.TOz hTO)
 refine wpAny_bind (wpAny_seqItems hTO₂ rfl ?_)
 refine wpAny_bind (wpAny_updateSeq_pair hTO₂ fun h₃ hTO₃ hs₃=>?_)
 replace hTO₃:IsPair h₃ TO x b:=hTO₃
 refine wpAny_bind (wpAny_letGo (wpAny_pure ?_))
 refine wpAny_bind (wpAny_bind (wpAny_onRaise ?_))
 show wpAny _ _ (Builtin.SmallTypes.nextOf (.ref i2) >>= _) _ _ _
 refine wpAny_bind (wpAny_nextOf_list_item (((h2.extBut hs₁.extBut D.i2z).extBut hs₂.extBut D.i12.symm).extBut hs₃.extBut D.TOi2.symm)
  (((hl.extBut hs₁.extBut D.lz).extBut hs₂.extBut D.li1).extBut hs₃.extBut D.lTO) hy fun h₄ h2₄ hs₄=>wpAny_pure ?_)
 have hTO₄:IsPair h₄ TO x b:=hs₄.extBut _ _ D.TOi2 hTO₃
 refine wpAny_bind (wpAny_seqItems hTO₄ rfl ?_)
 refine wpAny_bind (wpAny_updateSeq_pair hTO₄ fun h₅ hTO₅ hs₅=>?_)
 replace hTO₅:IsPair h₅ TO x y:=hTO₅
 refine wpAny_bind (wpAny_letGo (wpAny_pure (wpAny_pure ?_)))
 refine wpAny_bind (wpAny_seqItems hTO₅ rfl ?_)
 refine wpAny_bind (wpAny_newTuple ?_)
 have hs₃':Heap.SameBut TO h₂ h₃:=hs₃
 have hs₄':Heap.SameBut i2 h₃ h₄:=hs₄
 have hs₅':Heap.SameBut TO h₄ h₅:=hs₅
 have hsz:h₅.objs.size=s.heap.objs.size:=by rw[hs₅'.1,hs₄'.1,hs₃'.1,hs₂.1,hs₁.1]
 have hz₅:IsZip h₅ z TI TO .ellipsis:=hs₅'.extBut _ _ D.TOz.symm (hs₄'.extBut _ _ D.i2z.symm (hs₃'.extBut _ _ D.TOz.symm (hs₂.extBut _ _ D.i1z.symm hz₁)))
 have hk₅:∀ c o,c≠z->c≠TO->c≠i1->c≠i2->s.heap.get? c=some o->h₅.get? c=some o:=fun c o c1 c2 c3 c4 e =>
  hs₅'.extBut _ _ c2 (hs₄'.extBut _ _ c4 (hs₃'.extBut _ _ c2 (hs₂.extBut _ _ c3 (hs₁.extBut _ _ c1 e))))
 have h1₅:St (k1+1) h₅:=D1.frame _ h₂ h₅ h1₂ fun b hb o e=>hs₅'.extBut _ _ (fun x=>D.Tf (x ▸ hb)) (hs₄'.extBut _ _ (fun x=>D.i2f (x ▸ hb)) (hs₃'.extBut _ _ (fun x=>D.Tf (x ▸ hb)) e))
 have h2₅:h₅.IsListIter i2 l (k2+1):=h2₄.extBut hs₅'.extBut D.TOi2.symm
 have hzlt:z<h₅.objs.size:=Heap.lt_size hz₅
 show wpAny _ _ (Builtin.SmallTypes.ownedTupleHandOut (.ref z) (.ref h₅.objs.size) >>= _) _ _ _
 refine wpAny_bind ?_
 unfold Builtin.SmallTypes.ownedTupleHandOut
 have hz₆:IsZip (h₅.push {cls := .type "tuple", data := .seq #[x,y] }) z TI TO .ellipsis:=Heap.get?_push_of_some _ hz₅
 refine wpAny_bind (wpAny_setField_rec hz₆ (by simp) fun h₇ hz₇ hs₇=>?_)
 replace hz₇:IsZip h₇ z TI TO (rawInt h₅.objs.size):=hz₇
 refine wpAny_setField_rec hz₇ (by simp) fun h₈ hz₈ hs₈=>?_
 replace hz₈:IsZip h₈ z TI TO (rawInt h₅.objs.size):=hz₈
 have up:∀ c o,c≠z->h₅.get? c=some o->h₈.get? c=some o:=fun c o c1 e=>hs₈.extBut _ _ c1 (hs₇.extBut _ _ c1 (Heap.get?_push_of_some _ e))
 have hT₈:IsPair h₈ h₅.objs.size x y:=hs₈.extBut _ _ (Nat.ne_of_gt hzlt) (hs₇.extBut _ _ (Nat.ne_of_gt hzlt) (Heap.get?_push_size _ rfl))
 have hz8:h₈.objs.size=h₅.objs.size+1:=by rw[hs₈.1,hs₇.1,Heap.size_push]
 rw[hsz]at hz₈ hT₈ hz8
 refine wpAny_pure ⟨_,rfl,?_⟩
 show Q (.ref h₅.objs.size) _
 rw[hsz]
 exact hQ h₈ _ x hP hz₈ (up _ _ D.TOz hTO₅) (D1.frame _ h₅ h₈ h1₅ fun b hb o e=>up b o (fun x=>D.zf (x ▸ hb)) e) (h2₅.at fun o e=>up _ o D.i2z e) hT₈ hz8 fun c o c1 c2 c3 c4 e=>up c o c1 (hk₅ c o c1 c2 c3 c4 e)
theorem aXy(D1:Draws prog w A i1 fp n P St)(hh:A.handled=none)(D:ZApart z TI TO i1 i2 l fp)
  (hz:IsZip s.heap z TI TO .none) (hTI:IsPair s.heap TI (.ref i1) (.ref i2)) (hTO:IsPair s.heap TO a b)
  (h1:St k1 s.heap) (h2:s.heap.IsListIter i2 l k2) (hl:s.heap.IsList l ys)
  (hend:(∀ (s:Shared) (Q:Value->Shared->Prop) (E:Value->Shared->Prop),St k1 s.heap->(∀ h' e,Heap.ExtBut i1 s.heap h'->(∃ o,h'.get? e=some o/\o.cls = .type "StopIteration")->E (.ref e) {s with heap:=h'})->wpAny (model prog w) A (Builtin.SmallTypes.nextOf (.ref i1)) Q E s)\/(k1<n/\ys[k2]?=none)) {Q:Fin->Shared->Prop}
  (hE:∀ h' e tk,(∀ c o,c≠z->c≠TO->c≠i1->c≠i2->s.heap.get? c=some o->h'.get? c=some o)->(∃ o,h'.get? e=some o/\o.cls = .type "StopIteration")->E (.ref e) {s with heap:=h',toks:=tk}) :
  wpAny (model prog w) A (Builtin.«zip.__next__» ⟨[.ref z],[]⟩) Q E s:=by
 show wpAny _ _ (field (.ref z) 2 >>= _) _ _ _
 refine wpAny_bind (wpAny_field hz rfl (x := .bool false) rfl ?_)
 show wpAny _ _ (field (.ref z) 3 >>= _) _ _ _
 refine wpAny_bind (wpAny_field hz rfl (x := .ref TI) rfl ?_)
 refine wpAny_bind (wpAny_seqItems hTI rfl ?_)
 show wpAny _ _ (Builtin.SmallTypes.ownedTupleIsFree (.ref z) >>= _) _ _ _
 refine wpAny_bind ?_
 unfold Builtin.SmallTypes.ownedTupleIsFree
 refine wpAny_bind (wpAny_field hz rfl (x := .none) rfl (wpAny_pure ?_))
 simp only[if_true]
 refine wpAny_bind (wpAny_rule ?_)
 refine wpAny_bind (wpAny_field hz rfl (x := .ref TO) rfl ?_)
 refine wpAny_bind (wpAny_setField_rec hz (by simp) fun h₁ hz₁ hs₁=>?_)
 replace hz₁:IsZip h₁ z TI TO .ellipsis:=hz₁
 refine wpAny_bind ?_
 simp only[List.zipIdx_cons,List.zipIdx_nil,forIn_cons,forIn_nil]
 refine wpAny_bind (wpAny_bind (wpAny_onRaise ?_))
 show wpAny _ _ (Builtin.SmallTypes.nextOf (.ref i1) >>= _) _ _ _
 have fr1:St k1 h₁:=D1.frame k1 s.heap h₁ h1 fun b hb o e=>hs₁.extBut _ _ (fun x=>D.zf (x ▸ hb)) e
 rcases hend with hend | ⟨hkn,hy⟩
 ·refine wpAny_bind (hend {s with heap:=h₁} _ _ fr1 fun h₂ e hs₂ he=>?_)
  have hs₂:Heap.ExtBut i1 h₁ h₂:=hs₂
  obtain⟨oe,hoe,hce⟩:=he
  have hz₂:IsZip h₂ z TI TO .ellipsis:=hs₂ _ _ D.i1z.symm hz₁
  have hez:e≠z:=fun x=>by subst x;rw[hz₂]at hoe;cases hoe;simp at hce
  refine wpAny_setField_rec hz₂ (by simp) fun h₃ _ hs₃=>hE h₃ e _ (fun c o c1 _ c3 _ x=>hs₃.extBut _ _ c1 (hs₂ _ _ c3 (hs₁.extBut _ _ c1 x))) ⟨oe,hs₃.extBut _ _ hez hoe,hce⟩
 ·refine wpAny_bind (D1.item k1 {s with heap:=h₁} _ _ hkn fr1 fun x h₂ tk hP h1₂ hs₂=>wpAny_pure ?_)
  have hs₂:Heap.SameBut i1 h₁ h₂:=hs₂
  have hTO₂:IsPair h₂ TO a b:=hs₂.extBut _ _ D.TOi1 (hs₁.extBut _ _ D.TOz hTO)
  refine wpAny_bind (wpAny_seqItems hTO₂ rfl ?_)
  refine wpAny_bind (wpAny_updateSeq_pair hTO₂ fun h₃ hTO₃ hs₃=>?_)
  have hs₃':Heap.SameBut TO h₂ h₃:=hs₃
  refine wpAny_bind (wpAny_letGo (wpAny_pure ?_))
  refine wpAny_bind (wpAny_bind (wpAny_onRaise ?_))
  show wpAny _ _ (Builtin.SmallTypes.nextOf (.ref i2) >>= _) _ _ _
  refine wpAny_bind (wpAny_nextOf_list_end hh (((h2.extBut hs₁.extBut D.i2z).extBut hs₂.extBut D.i12.symm).extBut hs₃'.extBut D.TOi2.symm)
   (((hl.extBut hs₁.extBut D.lz).extBut hs₂.extBut D.li1).extBut hs₃'.extBut D.lTO) hy fun h₄ e hs₄ he=>?_)
  have hs₄:Heap.ExtBut i2 h₃ h₄:=hs₄
  obtain⟨oe,hoe,hce⟩:=he
  have hz₄:IsZip h₄ z TI TO .ellipsis:=hs₄ _ _ D.i2z.symm (hs₃'.extBut _ _ D.TOz.symm (hs₂.extBut _ _ D.i1z.symm hz₁))
  have hez:e≠z:=fun x=>by subst x;rw[hz₄]at hoe;cases hoe;simp at hce
  refine wpAny_setField_rec hz₄ (by simp) fun h₅ _ hs₅=>hE h₅ e _ (fun c o c1 c2 c3 c4 x=>hs₅.extBut _ _ c1 (hs₄ _ _ c4 (hs₃'.extBut _ _ c2 (hs₂.extBut _ _ c3 (hs₁.extBut _ _ c1 x))))) ⟨oe,hs₅.extBut _ _ hez hoe,hce⟩
end
section
variable{prog:Program}{w:World}{A:Around}{E:Value->Shared->Prop}{s:Shared}
abbrev zH1(h:Heap)(x:Str)(t:Tok):Heap:=h.push {cls := .type (strIterType x),data := .fields #[.str x t,.int 0 0] }
abbrev zH2(h:Heap)(x:Str)(t:Tok)(l:Addr):Heap:=(zH1 h x t).push {cls := .type "list_iterator", data := .fields #[.ref l,.int 0 0] }
abbrev zH3(h:Heap)(x:Str)(t:Tok)(l:Addr):Heap:=(zH2 h x t l).push {cls := .type "tuple", data := .seq #[.ref h.objs.size,.ref (zH1 h x t).objs.size] }
abbrev zH4(h:Heap)(x:Str)(t:Tok)(l:Addr):Heap:=(zH3 h x t l).push {cls := .type "tuple", data := .seq #[.none,.none] }
abbrev zH5(h:Heap)(x:Str)(t:Tok)(l:Addr):Heap:=(zH4 h x t l).push {cls := .type "zip", data := .fields #[.none,.bool false,.bool false,.ref (zH2 h x t l).objs.size,.ref (zH3 h x t l).objs.size] }
theorem aN3(x:Str)(t:Tok)(l:Addr)(ys:Array Value) :
  Meets (Builtin.«zip.__new__» ⟨[.type "zip", .str x t,.ref l],[]⟩) (fun _ R s=>s.heap.IsList l ys /\
   R (.ok (.ret (.ref (zH4 s.heap x t l).objs.size))) {s with heap:=zH5 s.heap x t l}) :=
 .of_wp fun prog w A R s h=>by
  obtain⟨hp,g,d,tk,os⟩:=s;obtain⟨hl,h⟩:=h
  have hsub:=sub_zip
  have hL:Heap.IsList (Shared.heap ⟨hp.push {cls := .type (strIterType x),data := .fields #[.str x t,.int 0 0] },g,d,tk,os⟩) l ys:=Heap.IsList.push hl _
  wp_walk using wpAny_pyIter_strU,wpAny_pyIter_list hL
  exact⟨_,rfl,h⟩
theorem aRc{t:Tok}{l:Addr}{ys:Array Value}  (hl:s.heap.IsList l ys)
  (h:∀ h',IsZip h' (s.heap.objs.size+4) (s.heap.objs.size+2) (s.heap.objs.size+3) .none->IsPair h' (s.heap.objs.size+2) (.ref s.heap.objs.size) (.ref (s.heap.objs.size+1)) ->
   IsPair h' (s.heap.objs.size+3) .none .none->h'.IsStrIter s.heap.objs.size (strIterType x) x t 0->h'.IsListIter (s.heap.objs.size+1) l 0->h'.objs.size=s.heap.objs.size+5 ->
   (∀ c o,s.heap.get? c=some o->h'.get? c=some o)->Q (.ref (s.heap.objs.size+4)) {s with heap:=h'}) :
  wpAny (model prog w) A (call (.type "zip") [.str x t,.ref l]) Q E s:=by
 refine callType_new PySem.F.called_zip (by decide) (PySem.F.typeCall_zip_2 _ _) (PySem.F.newCall_zip_2 _ _) (fun obj=>PySem.F.args_object_init_3 obj _ _) PySem.F.entry_zip_new
  (aN3 x t l ys) ⟨hl,?_⟩
 have z1:(zH1 s.heap x t).objs.size=s.heap.objs.size+1:=Heap.size_push ..
 have z2:(zH2 s.heap x t l).objs.size=s.heap.objs.size+2:=by rw[Heap.size_push,z1]
 have z3:(zH3 s.heap x t l).objs.size=s.heap.objs.size+3:=by rw[Heap.size_push,z2]
 have z4:(zH4 s.heap x t l).objs.size=s.heap.objs.size+4:=by rw[Heap.size_push,z3]
 have z5:(zH5 s.heap x t l).objs.size=s.heap.objs.size+5:=by rw[Heap.size_push,z4]
 have g5:(zH5 s.heap x t l).get? (zH4 s.heap x t l).objs.size=some _:=Heap.get?_push_size _ rfl
 have g4:(zH5 s.heap x t l).get? (zH3 s.heap x t l).objs.size=some _:=Heap.get?_push_of_some _ (Heap.get?_push_size _ rfl)
 have g3:(zH5 s.heap x t l).get? (zH2 s.heap x t l).objs.size=some _:=Heap.get?_push_of_some _ (Heap.get?_push_of_some _ (Heap.get?_push_size _ rfl))
 have g2:(zH5 s.heap x t l).get? (zH1 s.heap x t).objs.size=some _:=Heap.get?_push_of_some _ (Heap.get?_push_of_some _ (Heap.get?_push_of_some _ (Heap.get?_push_size _ rfl)))
 have g1:(zH5 s.heap x t l).get? s.heap.objs.size=some _:=Heap.get?_push_of_some _ (Heap.get?_push_of_some _ (Heap.get?_push_of_some _ (Heap.get?_push_of_some _ (Heap.get?_push_size _ rfl))))
 show _/\_
 rw[z2,z3,z4]at g5
 rw[z1,z2]at g3
 rw[z3]at g4
 rw[z1]at g2
 rw[z4]
 exact⟨⟨_,g5,rfl⟩,h _ g5 g3 g4 ⟨_,g1,rfl,rfl⟩ ⟨_,g2,rfl,rfl⟩ z5 fun c o x =>
  Heap.get?_push_of_some _ (Heap.get?_push_of_some _ (Heap.get?_push_of_some _ (Heap.get?_push_of_some _ (Heap.get?_push_of_some _ x))))⟩
theorem aHn(hh:A.handled=none)(it:Addr)(x:Str)(t:Tok){n:String}(hn:n = "str_ascii_iterator" \/ n = "str_iterator") :
  Draws prog w A it [it] x.cps.size (fun i v=>∃ c u,x.cps[i]?=some c/\v = .str ⟨#[c]⟩ u) (fun i h=>h.IsStrIter it n x t i):=by
 rcases hn with rfl | rfl
 ·exact Draws.strAscii hh it x t
 ·exact Draws.strWide hh it x t
theorem aXz(hh:A.handled=none){it:Addr}  {t:Tok} {n:String}  (hn:n = "str_ascii_iterator" \/ n = "str_iterator")  (st:s.heap.IsStrIter it n x t i) (hx:x.cps[i]?=none)
  (hE:∀ h' e,Heap.ExtBut it s.heap h'->(∃ o,h'.get? e=some o/\o.cls = .type "StopIteration")->E (.ref e) {s with heap:=h'}):wpAny (model prog w) A (Builtin.SmallTypes.nextOf (.ref it)) Q E s:=by
 rcases hn with rfl | rfl
 ·exact wpAny_nextOf_ascii_end hh st hx hE
 ·exact wpAny_nextOf_wide_end hh st hx hE
theorem aGj(x:Str):strIterType x = "str_ascii_iterator" \/ strIterType x = "str_iterator" := by
 unfold strIterType
 split<;>simp
end
def Itz(K:Frag)(z:List Nat)(a:Addr):It :=
 ⟨fun i H=>i<z.length/\∃ xs x,SqL K H a xs/\xs[i]?=some x,fun i H x H'=>∃ T c v,x=V.ref T/\H T=none/\z[i]?=some c/\H'=upd H T (.tup [.str ⟨#[c]⟩,v])/\∀ xs,SqL K H a xs->xs[i]?=some v,fun i H=>∃ xs,SqL K H a xs/\(z.length<=i\/xs.length<=i)⟩
theorem aV7{K:Frag}  {x1} {tp:Pos} {zs:List Nat} {t:Tok} {n:String} (hn:n = "str_ascii_iterator" \/ n = "str_iterator") (a z TI TO i1 i2:Addr) (D:∀ l,l=a->ZApart z TI TO i1 i2 l [i1]) :
  Turn P w K (.Tuple elts x1 tp) (Itz K zs a) [z,TI,TO,i1,i2] z (fun i h=>IsZip h z TI TO .none/\IsPair h TI (.ref i1) (.ref i2)/\(∃ u v,IsPair h TO u v)/\h.IsStrIter i1 n ⟨zs.toArray⟩ t i/\h.IsListIter i2 a i) where
 mem:=by simp
 obj:=fun i h st b hb=>by
  obtain⟨hz,hTI,⟨u,v,hTO⟩,⟨o1,q1,c1,d1⟩,⟨o2,q2,c2,d2⟩⟩:=st
  simp only[mem_cons,not_mem_nil,or_false]at hb
  rcases hb with rfl | rfl | rfl | rfl | rfl
  ·exact⟨_,hz,fun v z=>by cases z⟩
  ·exact⟨_,hTI,fun v z=>by cases z⟩
  ·exact⟨_,hTO,fun v z=>by cases z⟩
  ·exact⟨o1,q1,fun v z=>by rw[d1]at z;cases z⟩
  ·exact⟨o2,q2,fun v z=>by rw[d2]at z;cases z⟩
 keep:=fun i h h' st k=>by
  obtain⟨hz,hTI,⟨u,v,hTO⟩,⟨o1,q1,r1⟩,h2⟩:=st
  exact⟨k z (by simp) _ hz,k TI (by simp) _ hTI,⟨u,v,k TO (by simp) _ hTO⟩,⟨o1,k i1 (by simp) _ q1,r1⟩,h2.at fun o x=>k i2 (by simp) o x⟩
 item:=by
  intro X hP hw hK hc i pins s σ H E I hf st hg
  subst hP hw hK
  obtain⟨hz,hTI,⟨u0,v0,hTO⟩,h1,h2⟩:=st
  obtain⟨hi,xs,x,hq,hx⟩:=hg
  obtain⟨its,rv,p,_⟩:=I.list hq
  obtain⟨u,hu,ru⟩:=rv.get hx
  have D:=D a rfl
  have fo:∀ b∈[z,TI,TO,i1,i2],H b=none:=fun b hb=>(hf b hb).1
  have hT:H s.heap.objs.size=none:=I.hok.fresh (Nat.le_refl _)
  have hzt:s.TypeIs (.ref z) "zip" := ⟨_,hz,rfl⟩
  have hh:=I.ok.hd hc
  unfold pyNext
  refine wpAny_bind (wpAny_attempt (wpAny_callSpecial?_slot (name:=Str.ofString "__next__") hzt PySem.F.slot_zip_next
   (wpAny_call_entry PySem.F.slot_zip_next hzt PySem.F.entry_zip_next
    (aV6 (aHn (A:=X.A.in1) hh i1 ⟨zs.toArray⟩ t hn) D hz hTI hTO h1 (by simpa using hi) h2 p.isList (y:=u) (by simpa using hu) fun h' tk v hP a1 a2 a3 a4 a5 a6 hk=>wpAny_pure ?_) (PySem.F.args_zip_next_1 _))))
  obtain⟨c,uu,hcc,rfl⟩:=hP
  refine⟨_,rfl,wpAny_letOwnedTupleGo_zip (s:={s with heap:=h',toks:=tk}) a1 fun h9 hz9 sb=>?_⟩
  have hkeep:∀ b o,b≠z->b≠TO->b≠i1->b≠i2->s.heap.get? b=some o->h9.get? b=some o:=fun b o e1 e2 e3 e4 q=>(sb.2 b e1).trans (hk b o e1 e2 e3 e4 q)
  have zlt:z≠s.heap.objs.size:=Nat.ne_of_lt (Heap.lt_size hz)
  have htup:h9.get? s.heap.objs.size=some {cls := .type "tuple", data := .seq #[.str ⟨#[c]⟩ uu,u] }:=(sb.2 _ zlt.symm).trans a5
  have nT:∀ b u',H b=some u'->b≠s.heap.objs.size:=fun b u' q=>bC q hT
  have nx:∀ b u',H b=some u'->b≠z/\b≠TO/\b≠i1/\b≠i2:=fun b u' q=>⟨bC q (fo z (by simp)),bC q (fo TO (by simp)),bC q (fo i1 (by simp)),bC q (fo i2 (by simp))⟩
  have mx:∀ b:Addr,b ∉ [z,TI,TO,i1,i2]->b≠z/\b≠TO/\b≠i1/\b≠i2:=fun b hb=>⟨fun q=>hb (by simp[q]),fun q=>hb (by simp[q]),fun q=>hb (by simp[q]),fun q=>hb (by simp[q])⟩
  have inL:∀ b o,s.heap.get? b=some o->b≠s.heap.objs.size:=fun b o q=>Nat.ne_of_lt (Heap.lt_size q)
  have kp:∀ b o,b ∉ [z,TI,TO,i1,i2]->s.heap.get? b=some o->h9.get? b=some o:=fun b o hb q=>hkeep b o (mx b hb).1 (mx b hb).2.1 (mx b hb).2.2.1 (mx b hb).2.2.2 q
  have un:Un (frs X.stack) [z,TI,TO,i1,i2] H (upd H s.heap.objs.size (.tup [.str ⟨#[c]⟩,x])) s.heap h9:=by
   refine⟨fun b o q n hb hx=>kp b o hx q,fun b o q n hb hx=>⟨o.slots,kp b o hx q⟩,fun b o q n hx=>by rw[bQ (inL b o q)];exact n,fun b o q hx=>⟨o,kp b o hx q⟩,fun b ys q=>by rw[bQ (nT b _ q)];exact q,fun b o u' q=>by rw[bQ (nT b _ q)];exact q,fun b ps q=>⟨#[],by rw[bQ (nT b _ q),Array.append_empty];exact q⟩⟩
  have hok:HOk X.prog X.w (upd H s.heap.objs.size (.tup [.str ⟨#[c]⟩,x])) h9:=fun b u' q=>by
   by_cases hb:b=s.heap.objs.size
   ·subst hb
    rw[cH]at q
    cases q
    exact⟨show 2<=sizeLine by decide,[.str ⟨#[c]⟩ uu,u],.cons ⟨_,rfl⟩ (.cons ru .nil),_,htup,rfl,_,rfl⟩
   ·rw[bQ hb]at q
    refine(I.hok b u' q).stay (fun c v hc' q' => ?_) (fun c q'=>by rw[bQ (nT c _ q')];exact q') fun c ys q'=>by rw[bQ (nT c _ q')];exact q'
    have:∃ u'',H c=some u'':=by
     rcases hc' with z | z
     ·exact⟨u',by rw[z];exact q⟩
     ·exact⟨_,z⟩
    obtain⟨u'',hu''⟩:=this
    obtain⟨e1,e2,e3,e4⟩:=nx c _ hu''
    exact hkeep c v e1 e2 e3 e4 q'
  have I2:Inv X pins σ (upd H s.heap.objs.size (.tup [.str ⟨#[c]⟩,x])) {s with heap:=h9,toks:=tk}:=I.call (g':=s.gens) (t':=tk) (d':=s.drawn) (ch:=[z,TI,TO,i1,i2]) un hok I.bare fun b hb=>by
   have fb:=hf b hb
   exact⟨fb.2.2.2.1,fb.2.1,fb.2.2.2.2.1,fb.2.2.2.2.2⟩
  have up:∀ b o,b≠z->h'.get? b=some o->h9.get? b=some o:=fun b o e q=>(sb.2 b e).trans q
  refine⟨.ref s.heap.objs.size,_,I2,rfl,⟨_,c,x,rfl,hT,by simpa using hcc,rfl,fun ys hy=>by rw[I.list_inj hy hq];exact hx⟩,⟨hz9,up _ _ D.TIz (hk _ _ D.TIz D.TITO D.TIi1 D.TIi2 hTI),⟨_,_,up _ _ D.TOz a2⟩,?_,a4.at fun o y=>up _ o D.i2z y⟩,fun b hb=>?_⟩
  ·obtain⟨o1,q1,r1⟩:=a3
   exact⟨o1,up _ _ D.i1z q1,r1⟩
  ·have hbs:∃ o,s.heap.get? b=some o:=by
    simp only[mem_cons,not_mem_nil,or_false]at hb
    obtain⟨o1,q1,_⟩:=h1
    obtain⟨o2,q2,_⟩:=h2
    rcases hb with rfl | rfl | rfl | rfl | rfl
    ·exact⟨_,hz⟩
    ·exact⟨_,hTI⟩
    ·exact⟨_,hTO⟩
    ·exact⟨_,q1⟩
    ·exact⟨_,q2⟩
   obtain⟨o,q⟩:=hbs
   rw[bQ (inL b o q)]
   exact fo b hb
 done:=by
  intro X hP hw hK hc i pins s σ H E I hf st hg
  subst hP hw hK
  obtain⟨hz,hTI,⟨u0,v0,hTO⟩,h1,h2⟩:=st
  obtain⟨xs,hq,hx⟩:=hg
  obtain⟨its,rv,p,_⟩:=I.list hq
  have D:=D a rfl
  have hzt:s.TypeIs (.ref z) "zip" := ⟨_,hz,rfl⟩
  have hh:=I.ok.hd hc
  have hl:=rv.length
  unfold pyNext
  refine wpAny_bind (wpAny_attempt (wpAny_callSpecial?_slot (name:=Str.ofString "__next__") hzt PySem.F.slot_zip_next
   (wpAny_call_entry PySem.F.slot_zip_next hzt PySem.F.entry_zip_next
    (aXy (aHn (A:=X.A.in1) hh i1 ⟨zs.toArray⟩ t hn) hh D hz hTI hTO h1 h2 p.isList (by
     by_cases hi:zs.length<=i
     ·refine .inl fun s' Q E st hE=>aXz (A:=X.A.in1) hh hn st (by simpa using hi) hE
     ·exact .inr ⟨by simpa using hi,by simp;omega⟩) fun h' e tk hk he=>?_) (PySem.F.args_zip_next_1 _))))
  obtain⟨o,ho,hce⟩:=he
  refine wpAny_bind (wpAny_isInstance (T := "StopIteration") (b:=true) ⟨o,ho,hce⟩ isSubtype_stop ?_)
  refine wpAny_pure ⟨rfl,?_⟩
  have fo:∀ b∈[z,TI,TO,i1,i2],H b=none:=fun b hb=>(hf b hb).1
  have mx:∀ b:Addr,b ∉ [z,TI,TO,i1,i2]->b≠z/\b≠TO/\b≠i1/\b≠i2:=fun b hb=>⟨fun q=>hb (by simp[q]),fun q=>hb (by simp[q]),fun q=>hb (by simp[q]),fun q=>hb (by simp[q])⟩
  have kp:∀ b o,b ∉ [z,TI,TO,i1,i2]->s.heap.get? b=some o->h'.get? b=some o:=fun b o hb q=>hk b o (mx b hb).1 (mx b hb).2.1 (mx b hb).2.2.1 (mx b hb).2.2.2 q
  have un:Un (frs X.stack) [z,TI,TO,i1,i2] H H s.heap h' :=
   ⟨fun b o q n hb hx=>kp b o hx q,fun b o q n hb hx=>⟨o.slots,kp b o hx q⟩,fun b o q n hx=>n,fun b o q hx=>⟨o,kp b o hx q⟩,fun b ys q=>q,fun b o u' q=>q,fun b ps q=>⟨#[],by rw[Array.append_empty];exact q⟩⟩
  have hok:HOk X.prog X.w H h':=fun b u' q=>by
   refine(I.hok b u' q).stay (fun c v hc' q' => ?_) (fun c q'=>q') fun c ys q'=>q'
   have:∃ u'',H c=some u'':=by
    rcases hc' with z | z
    ·exact⟨u',by rw[z];exact q⟩
    ·exact⟨_,z⟩
   obtain⟨u'',hu''⟩:=this
   exact hk c v (bC hu'' (fo z (by simp))) (bC hu'' (fo TO (by simp))) (bC hu'' (fo i1 (by simp))) (bC hu'' (fo i2 (by simp))) q'
  exact I.call (g':=s.gens) (t':=tk) (d':=s.drawn) (ch:=[z,TI,TO,i1,i2]) un hok I.bare fun b hb=>by
   have fb:=hf b hb
   exact⟨fb.2.2.2.1,fb.2.1,fb.2.2.2.2.1,fb.2.2.2.2.2⟩
 self:=fun _ _ _ _ _ st h=>wpAny_pyIter_zip st.1 h
theorem aL7:∀ (z:List Nat) (ds:List D),(aAt z ds).length=min z.length ds.length
 | [],ds=>by simp[aAt]
 | c::z,[]=>by simp[aAt]
 | c::z,d::ds=>by rw[aAt,length_cons,length_cons,length_cons,aL7];omega
theorem aL8:∀ (z:List Nat) (ds:List D) (i:Nat) (d:D),(aAt z ds)[i]?=some d->∃ c e,z[i]?=some c/\ds[i]?=some e/\d = .tup [.str [c],e]
 | [],ds,i,d,h=>by simp[aAt]at h
 | c::z,[],i,d,h=>by simp[aAt]at h
 | c::z,e::ds,0,d,h=>by
  rw[aAt]at h
  simp at h
  exact⟨c,e,rfl,rfl,h.symm⟩
 | c::z,e::ds,i+1,d,h=>by
  rw[aAt,getElem?_cons_succ]at h
  obtain⟨c',e',h1,h2,h3⟩:=aL8 z ds i d h
  exact⟨c',e',by simpa using h1,by simpa using h2,h3⟩
section
variable   {a b:Expr}  
theorem bBq{K:Frag}      {l:Addr} (hq:SqL K (hide (A++B) H) l vs) (r:bD K (hide (A++B) H) ds vs):aQz K B A H (Itz K z l) (aAt z ds):=by
 intro A' H' le own i
 have hq':SqL K H' l vs:=(bH _ _).seq ((Le.app le).seq hq)
 refine⟨fun d hd=>?_,fun hl=>⟨vs,hq',?_⟩⟩
 ·obtain⟨c,e,h1,h2,rfl⟩:=aL8 z ds i d hd
  obtain⟨v,hv,rv⟩:=r.get h2
  refine⟨⟨(List.getElem?_eq_some_iff.mp h1).1,vs,v,hq',hv⟩,fun x H3 y=>?_⟩
  obtain⟨T,c',v',rfl,hT,hc',rfl,h5⟩:=y
  have hx:=h5 vs hq'
  rw[hv]at hx
  cases hx
  rw[h1]at hc'
  cases hc'
  exact⟨cZ hT,aD5 own hT (.cons (bI.mpr rfl) (.cons (rv.mono (Le.app le)) .nil))⟩
 ·rw[aL7]at hl
  rw[r.length]
  omega
theorem bBr{x1}{tp p:Pos}(hm:X.mg "zip" = none)(ha:PE X a (tI X.K B f))(hb:PE X b (tI X.K B g))(hg:Gl X "zip" := by rfl)(hs:starEach [a,b] X.env=(false,eval a X.env)::starEach [b] X.env:=by rfl)(hs2:starEach [b] X.env=[(false,eval b X.env)]:=by rfl):L2.PI X (.Tuple elts x1 tp) (.Call (.Name "zip" p) [a,b] [] pos) (tIt X.K B (aYv f g)):=by
 intro pins s σ H Rq I ⟨A,st,ds,rs,hd,q⟩
 obtain⟨x,hx,h2⟩:=R.ok_of hd
 obtain⟨y,hy,h3⟩:=R.ok_of h2
 split at h3
 rotate_left
 ·cases h3
 rename_i zs ws
 cases h3
 refine Call_ (zR I hg hm boot_zip (PyProof.Rows.callWith_type1 (thn ((eQ ha (eQ hb jP hs2) hs) pos pins s σ H (fun vs H1=>∃ v w,vs=[v,w]/\bA H H1/\Rep X.K (hide (A++B) H1) (.str zs) v/\Rep X.K (hide (A++B) H1) (.lst ws) w) I ⟨A,st,_,rs,hx,fun v H1 s1 r1=>⟨A,st,_,rs.mono s1,hy,fun w H2 s2 r2=>⟨v,w,rfl,s1.trans s2,r1.mono (bA.hide s2),r2⟩⟩⟩) fun us s1 ⟨vs,H1,I1,r1,v,w,hv,sm,rv,rw'⟩=>?_) hs (by rw[hs2];rfl)))
 subst hv
 obtain⟨u1,u2,rfl,ra,rb⟩:∃ u1 u2,us=[u1,u2]/\L2.RelV v u1/\L2.RelV w u2:=by
  cases r1 with
  | cons ra rb =>
   cases rb with
   | cons rb rc =>
    cases rc
    exact⟨_,_,rfl,ra,rb⟩
 obtain⟨l,ts,rfl,hq,rr⟩:=bU.mp rw'
 have ev:=bI.mp rv
 subst ev
 obtain⟨t,rfl⟩:=(show ∃ t,u1=Value.str ⟨zs.toArray⟩ t from ra)
 have eu:u2=Value.ref l:=rb
 subst eu
 obtain⟨its,rvv,pl,hz⟩:=I1.list ((bH _ _).seq hq)
 have hlt:l<s1.heap.objs.size:=by
  obtain⟨o,e,_⟩:=pl.isList
  exact Heap.lt_size e
 refine aRc pl.isList fun h' hz' hTI hTO hit1 hit2 hsz hk=>?_
 refine wpAny_pyIter_zip hz' ⟨s1.heap.objs.size+4,[s1.heap.objs.size+4,s1.heap.objs.size+2,s1.heap.objs.size+3,s1.heap.objs.size,s1.heap.objs.size+1],_,Itz X.K zs l,H1,rfl,I1.kept (t':=s1.toks) hk,aV7 (t:=t) (aGj ⟨zs.toArray⟩) l (s1.heap.objs.size+4) (s1.heap.objs.size+2) (s1.heap.objs.size+3) s1.heap.objs.size (s1.heap.objs.size+1) (fun l' e=>?_),⟨hz',hTI,⟨_,_,hTO⟩,hit1,hit2⟩,fun b hb=>?_,q _ H1 sm (bBq hq rr)⟩
 ·subst e
  exact aN2 hlt
 ·simp only[mem_cons,not_mem_nil,or_false]at hb
  rcases hb with rfl | rfl | rfl | rfl | rfl<;>exact I1.fpOk (by simp) (I1.hok.fresh (by simp))
end
section
variable   {a b:Expr}  {q:Pos}
theorem bBs{ta:TA}(hm:X.mg "range" = none)(ha:PA X [a] ta)(hg:Gl X "range" := by rfl)(hs:starEach [a] X.env=[(false,eval a X.env)]:=by rfl) :
  PE X (.Call (.Name "range" p1) [a] [] q) (fun σ H Q=>ta σ H fun vs H1=>∃ j:Int,vs=[.int j]/\∀ r,H1 r=none->Q (.ref r) (upd H1 r (.rng 0 j))):=by
 intro pins s σ H Q I h
 refine Call_ (zR I hg hm boot_range (PyProof.Rows.callWith_type1 (thn (ha q pins s σ H _ I h) fun us s1 ⟨vs,H1,I1,r1,j,e,qq⟩=>?_) hs rfl))
 subst e
 cases r1 with
 | cons r rr =>
  cases rr
  obtain⟨t,rfl⟩:=r
  exact call_range_1 ⟨.ref s1.heap.objs.size,_,I1.laid (a:=s1.heap.objs.size) (o := .rng 0 j) (fun b o e=>Heap.get?_push_of_some _ e) (Nat.le_refl _) ⟨_,_,_,Heap.get?_push_size _ rfl⟩,rfl,qq _ (I1.hok.fresh (Nat.le_refl _))⟩
theorem aJ3(hc:X.calm=true):nZ X (.type "list") (fun vs H Q=>∃ r,∃ j:Int,vs=[.ref r]/\H r=some (.rng 0 j) /\ -10000000<=j/\j<=10000000/\∀ n,H n=none->Q (.ref n) (upd H n (.lst ((List.range j.toNat).map fun(k:Nat)=>V.int (k:Int))))):=by
 intro pins s σ H vs us Q I r h
 obtain⟨l,j,rfl,hl,h1,h2,q⟩:=h
 obtain⟨u,rfl,ru⟩:=r.one
 obtain rfl:u=Value.ref l:=ru
 obtain⟨t,u,v,ho⟩:=(show ∃ t u v,s.heap.get? l=some {cls := .type "range", data := .fields #[.int 0 t,.int j u,.int 1 v] } from I.hok l _ hl)
 have hn:Builtin.Range.rangeSize 0 j 1=(j.toNat:Nat):=by rw[rangeSize_one];split<;>omega
 refine call_list_range (I.ok.hd hc) ho (small_one (by omega) (by omega) (by omega) (by omega)) hn (by omega) fun h' tk acc c' hk hs hi=>?_
 refine⟨.ref s.heap.objs.size,_,I.laid (o := .lst ((List.range j.toNat).map fun(k:Nat)=>V.int (k:Int))) (t':=tk) hk (Nat.le_refl _) ⟨?_,acc.toList,c',?_,by simpa using hs⟩,rfl,q _ (I.hok.fresh (Nat.le_refl _))⟩
 ·rw[length_map,length_range,sizeLine_eq];omega
 ·obtain⟨h3,h4⟩:=hi
  have key:∀ (n:Nat) (xs:List Value),xs.length=n->(∀ (k:Nat) w,xs[k]?=some w->∃ t,w = .int (0+(k:Int)*1) t)->Vals ((List.range n).map fun(k:Nat)=>V.int (k:Int)) xs:=by
   intro n
   induction n with
   | zero=>intro xs hx _;rw[List.length_eq_zero_iff.mp hx];exact .nil
   | succ n ih =>
    intro xs hx hp
    obtain⟨ys,y,rfl⟩:∃ ys y,xs=ys++[y]:=by
     rcases List.eq_nil_or_concat xs with e | ⟨ys,y,e⟩
     ·rw[e]at hx;simp at hx
     ·exact⟨ys,y,by rw[e,List.concat_eq_append]⟩
    have hy:ys.length=n:=by simpa using hx
    rw[List.range_succ,List.map_append]
    refine(ih ys hy fun k w hk=>?_).append (.cons ?_ .nil)
    ·exact hp k w (by rw[List.getElem?_append_left (List.getElem?_eq_some_iff.mp hk).1];exact hk)
    ·obtain⟨t,e⟩:=hp n y (by rw[List.getElem?_append_right (by omega),hy];simp)
     exact⟨t,by rw[e];simp⟩
  exact key _ _ (by simpa using h3) fun k w hk=>by
   obtain⟨t,e⟩:=h4 k w (by simpa using hk)
   exact⟨t,e⟩
theorem aN4{K:Frag}  (n:Nat):bD K H (gB 0 n) ((List.range n).map fun(k:Nat)=>V.int (k:Int)):=by
 unfold gB
 generalize List.range n=l
 induction l with
 | nil=>exact .nil
 | cons x l ih=>exact .cons (aU.mpr (by rw[Int.zero_add])) ih
theorem aV8(hm:X.mg "list" = none)(hr:X.mg "range" = none)(hc:X.calm=true)(ha:PE X a (tP X.K B f))(hg:Gl X "list" := by rfl)(hg2:Gl X "range" := by rfl)(hs:starEach [a] X.env=(false,eval a X.env)::starEach [] X.env:=by rfl)(hs2:starEach [Expr.Call (.Name "range" p1) [a] [] q] X.env=(false,eval (.Call (.Name "range" p1) [a] [] q) X.env)::starEach [] X.env:=by rfl) :
  PE X (.Call (.Name "list" p0) [.Call (.Name "range" p1) [a] [] q] [] pos) (tI X.K B (e1 aI9 f)):=by
 refine cQ (aC2 (aJ3 hc) hg hm (by rfl) (eQ (bBs hr (eQ ha jP hs) hg2 hs) jP hs2) (he:=hs2)) ?_
 rintro σ H Q ⟨A,st,d,rs,hd,qq⟩
 obtain⟨x,hx,h2⟩:=R.ok_of hd
 refine⟨A,st,x,rs,hx,fun v H1 s1 r1=>?_⟩
 cases x<;>first | (cases h2;done) | skip
 rename_i j
 obtain⟨c,h3⟩:=aK h2
 cases h3
 rw[oK]at c
 refine⟨j,by rw[r1.int],fun r hr=>⟨r,j,rfl,cH,by omega,by omega,fun n hn=>?_⟩⟩
 have w1:=rs.own.mono (s1.trans (cZ (o := .rng 0 j) hr))
 exact qq _ _ (s1.trans ((cZ hr).trans (cZ hn))) (jC w1 hn (aN4 _))
theorem aY0(i:Nat)  {dp:Pos} (hk:PE X a (tI X.K B g)) (hv:PE X b (tI X.K B f)) (hN:X.N.Nodup) (hi:X.N[i]?=some x:=by rfl) (hx:Loc X.env.scope x:=by first | exact Or.inl rfl | exact Or.inr rfl) (hs:swapsWith (.Dict [some a] [b] dp) (some (.Name x pos')) pos.line X.env=pure false:=by rfl)
  (hf:X.fn x=true\/X.env.scope.names.lookup x=some .local:=by first | exact .inl rfl | exact .inr rfl | assumption):PS X (.Assign [.Name x pos'] (.Dict [some a] [b] dp) pos) (tS X.K B (aM4 i g f)):=gD (aE6 hN hi hx (aWb (aSj hk hv aWa) rfl rfl (by simp) (show 1<=15 by omega)) hs hf) (by
 rintro Dn σ H ⟨A,st,r,rs,hr,p⟩
 obtain⟨k,hk,h2⟩:=R.ok_of hr
 obtain⟨d,hd,h3⟩:=R.ok_of h2
 obtain⟨⟨c1,c2⟩,h4⟩:=aK h3
 cases h4
 intro a ha
 refine⟨A,st,k,rs.mono (cZ ha),hk,fun u H1 s1 r1=>⟨A,st,d,(rs.mono (cZ ha)).mono s1,hd,fun v H2 s2 r2=>?_⟩⟩
 have e2:H2 a=some (.dK []):=s2 _ _ (s1 _ _ cH)
 obtain⟨kk,ek,ev⟩:∃ kk:Key,mQ kk=k/\u=kV kk:=by
  cases k<;>first | (cases c1;done) | skip
  ·exact⟨.inl _,rfl,aU.mp r1⟩
  ·refine⟨.inr ⟨_⟩,?_,bI.mp r1⟩
   simp[mQ]
 refine⟨e2,[(kk,v)],by rw[ev];rfl,(show 1<=15 by omega),?_⟩
 let G:Hp:=fun b=>if b=a then none else H2 b
 have sG:bA H G:=fun b o z=>by
  have hb:b≠a:=bC z ha
  show (if b=a then none else H2 b)=_
  rw[if_neg hb]
  exact s2 _ _ (s1 _ _ (by rw[bQ hb];exact z))
 have gN:G a=none:=if_pos rfl
 have eG:upd H2 a (.dK (aC4 [] [(kk,v)]))=upd G a (.dK [(kk,v)]):=by
  funext b
  by_cases hb:b=a
  ·subst hb;rw[cH,cH];rfl
  ·rw[bQ hb,bQ hb]
   exact(if_neg hb).symm
 rw[eG]
 exact p (a::A) _ _ ((Le.of sG).trans (aFh gN)) ((rs.mono sG).setO (kk := .d false [k]) i gN (.inl ⟨rfl,[(kk,v)],rfl,by rw[<-ek];rfl,rfl⟩) (.cons ((aV5 c2 r2).mono aXx) .nil)))
end
theorem bitAnd_nn{i j:Int}(h1:0<=i)(h2:0<=j):Builtin.bitAnd i j=((i.toNat&&&j.toNat:Nat):Int):=by
 unfold Builtin.bitAnd
 rw[decide_eq_true h1,decide_eq_true h2]
theorem aL9{i j:Int}(h1:0<=i)(h2:0<=j):Builtin.bitOr i j=((i.toNat|||j.toNat:Nat):Int):=by
 unfold Builtin.bitOr Builtin.bitAnd
 have a1:¬ 0<=Builtin.bitNot i:=by unfold Builtin.bitNot;omega
 have a2:¬ 0<=Builtin.bitNot j:=by unfold Builtin.bitNot;omega
 rw[decide_eq_false a1,decide_eq_false a2]
 have e1:Builtin.bitNot (Builtin.bitNot i)=i:=by unfold Builtin.bitNot;omega
 have e2:Builtin.bitNot (Builtin.bitNot j)=j:=by unfold Builtin.bitNot;omega
 show Builtin.bitNot (Builtin.bitNot _)=_
 rw[e1,e2]
 unfold Builtin.bitNot
 omega
section
variable   {a b o:Expr}  
theorem aD7(ha:PE X a (tP X.K B f))(hb:PE X b (tP X.K B g)):PE X (.BinOp a .LShift b pos) (tI X.K B (e2 vY f g)) :=
 aFe aZs (aFf (g:=fun i j => .int (i*2^j.toNat)) (fun _ _ _=>aU.mpr rfl) fun x y d e=>by
  unfold vY at e
  split at e
  ·obtain⟨c,e⟩:=aK e;cases e;exact⟨_,_,rfl,rfl,c,rfl⟩
  ·cases e) ha hb
theorem aLa(ha:PE X a (tP X.K B f))(hb:PE X b (tP X.K B g)):PE X (.BinOp a .RShift b pos) (tI X.K B (e2 aC6 f g)) :=
 aFe aZt (aFf (g:=fun i j => .int (i/2^j.toNat)) (fun _ _ _=>aU.mpr rfl) fun x y d e=>by
  unfold aC6 at e
  split at e
  ·obtain⟨c,e⟩:=aK e;cases e;exact⟨_,_,rfl,rfl,c,rfl⟩
  ·cases e) ha hb
theorem aAb(ha:PE X a (tP X.K B f))(hb:PE X b (tP X.K B g)):PE X (.BinOp a .BitAnd b pos) (tI X.K B (e2 zT f g)) :=
 aFe aZu (qQ (g:=fun i j => .int (Builtin.bitAnd i j)) (fun _ _ _=>aU.mpr rfl) fun x y d e=>by
  unfold zT at e
  split at e
  ·obtain⟨c,e⟩:=aK e;cases e;exact⟨_,_,rfl,rfl,by rw[bitAnd_nn c.1 c.2]⟩
  ·cases e) ha hb
theorem aLb(ha:PE X a (tP X.K B f))(hb:PE X b (tP X.K B g)):PE X (.BinOp a .BitOr b pos) (tI X.K B (e2 dOr f g)) :=
 aFe bD1 (qQ (g:=fun i j => .int (Builtin.bitOr i j)) (fun _ _ _=>aU.mpr rfl) fun x y d e=>by
  unfold dOr at e
  split at e
  ·obtain⟨c,e⟩:=aK e;cases e;exact⟨_,_,rfl,rfl,by rw[aL9 c.1 c.2]⟩
  ·cases e) ha hb
theorem aFz{K:Frag}{H:Hp}:∀ {l:List Int} {vs:List V},bD K H (l.map D.int) vs->vs=l.map V.int
 | [],vs,h=>cY.mp h
 | i::l,vs,h=>by
  obtain⟨v,r,rfl,h1,h2⟩:=bT.mp h
  rw[aU.mp h1,aFz h2];rfl
theorem vals_ints:∀ {l:List Int} {us:List Value},Vals (l.map V.int) us->∀ (j:Nat) (h:j<us.length),∃ i t,l[j]?=some i/\us[j] = .int i t
 | [],us,r,j,h=>by cases r;simp at h
 | i::l,us,r,j,h=>by
  cases r with
  | cons ra rb =>
   obtain⟨t,rfl⟩:=ra
   cases j with
   | zero=>exact⟨i,t,rfl,rfl⟩
   | succ j =>
    obtain⟨i',t',h1,h2⟩:=vals_ints rb j (by simpa using h)
    exact⟨i',t',by simpa using h1,by simpa using h2⟩
theorem aRd:MtR X "list.index" (fun x vs H Q=>∃ (p:Addr) (l:List Int) (k:Int) (n:Nat),x=V.ref p/\vs=[.int k]/\SqL X.K H p (l.map V.int)/\l.findIdx? (fun i=>i==k)=some n/\l.length<=10000000/\Q (.int (n:Int)) H):=by
 intro pins s σ H x vs v us Q I rx rv h
 obtain⟨p,l,k,n,rfl,rfl,hq,hn,hl,q⟩:=h
 obtain⟨u,rfl,ru⟩:=rv.one
 obtain⟨t,rfl⟩:=(show ∃ t,u=Value.int k t from ru)
 have ep:v=Value.ref p:=rx
 subst ep
 obtain⟨its,rr,⟨⟨cls,dd,data,sl⟩,n0,ho,hc,_,hd⟩,hz⟩:=I.list hq
 have hlen:=rr.length
 rw[length_map]at hlen
 obtain⟨h1,h2,h3⟩:=List.findIdx?_eq_some_iff_getElem.mp hn
 dsimp only at hc hd
 subst hc hd
 have hnu:n<its.length:=by omega
 refine call_meets PySem.F.slot_list_index ⟨_,ho,rfl⟩ PySem.F.entry_list_index (PySem.F.args_list_index_2 _ _) (PySem.SeqAt.list_indexAt p its.toArray n0 dd sl (.int k t) (fun y=>match y with | .int i _=>i==k | _=>false) n (by simpa using hnu) (by omega) ?_ fun m hm hmn=>?_) ⟨ho,fun y hy=>?_,?_⟩
 ·obtain⟨i,t',e1,e2⟩:=vals_ints rr n hnu
  rw[List.getElem_toArray,e2]
  rw[List.getElem?_eq_getElem h1]at e1
  cases e1
  exact h2
 ·have hm':m<its.length:=by simpa using hm
  obtain⟨i,t',e1,e2⟩:=vals_ints rr m hm'
  rw[List.getElem_toArray,e2]
  rw[List.getElem?_eq_getElem (by omega)]at e1
  cases e1
  have:=h3 m hmn
  simpa using this
 ·obtain⟨m,hm,rfl⟩:=List.mem_iff_getElem.mp (show y∈its by simpa using hy)
  obtain⟨i,t',e1,e2⟩:=vals_ints rr m hm
  rw[e2]
  exact(PySem.MeetsSeq.EqGives.int i k t' t).at _ _
 ·exact⟨.int (n:Int),H,I.tok _,⟨_,rfl⟩,q⟩
theorem aV9{r:Exs}(ho:PE X o (tP X.K B f))(ha:PA X [e] (tA X.K B r))(hbase:attributeBase o "index" X.env (eval o X.env)=eval o X.env:=by rfl)
  (hfew:((backTo cpos (starEach [e] X.env)).all (fun x => !x.1)&&(backToKw cpos (keywordEach [] X.env)).all (fun x=>x.1.isSome)
   && decide (([e]:List Expr).length+([]:List Keyword).length+(if ([]:List Keyword).isEmpty then 0 else 1)<30))=true:=by rfl)
  (hline:(apos.endLine==cpos.line)=true:=by rfl) (hs:starEach [e] X.env=(false,eval e X.env)::starEach [] X.env:=by rfl) :
  PE X (.Call (.Attribute o "index" apos) [e] [] cpos) (tI X.K B (eMt aNz f r)):=by
 refine cQ (aNo PySem.F.plainAttrs_list PySem.F.slot_list_index PySem.F.type_list_index aRd ho ha hbase hfew hline hs rfl) ?_
 rintro σ H Q ⟨A,st,d,rs,hd,k⟩
 obtain⟨x,hx,h2⟩:=R.ok_of hd
 obtain⟨xs,hxs,h3⟩:=R.ok_of h2
 unfold aNz at h3
 split at h3
 ·rename_i ys j
  obtain⟨l,hl,h4⟩:=R.ok_of h3
  obtain⟨n,hn,h5⟩:=R.ok_of h4
  obtain⟨c,h6⟩:=aK h5
  cases h6
  have ey:=wK hl
  subst ey
  refine⟨A,st,_,rs,hx,fun v H1 s1 r1=>?_⟩
  obtain⟨p,vs,e1,hq,rr⟩:=r1.lst
  have ev:=aFz rr
  subst ev
  refine⟨by rw[e1];exact .inl ⟨rfl,_,hq⟩,A,st,_,rs.mono s1,hxs,fun ws H2 s2 r2=>?_⟩
  obtain⟨w,rfl,rw'⟩:=aP4 r2
  rw[oK,length_map]at c
  exact⟨p,l,j,n,e1,by rw[aU.mp rw'],s2.seq hq,xR hn,c,k _ H2 (s1.trans s2) (aU.mpr rfl)⟩
 ·cases h3
theorem aY1:MtR X "int.bit_length" (fun x vs H Q=>∃ i:Int,x = .int i/\vs=[]/\Q (.int ((Builtin.Int.intBits i:Nat):Int)) H):=by
 intro pins s σ H x vs v us Q I rx rv h
 obtain⟨i,rfl,rfl,q⟩:=h
 obtain⟨t,rfl⟩:=(show ∃ t,v=Value.int i t from rx)
 have hus:=rv.zero
 subst hus
 exact call_int_bit_length ⟨.int _,H,I.tok _,⟨_,rfl⟩,q⟩
theorem aY2(i:Int):Builtin.Int.intBits i=oW i:=by
 unfold Builtin.Int.intBits oW
 by_cases h:i=0
 ·rw[if_pos h,if_pos (by rw[h];rfl)]
 ·rw[if_neg h,if_neg (by simpa using h)]
theorem bBt(ho:PE X o (tP X.K B f))(hbase:attributeBase o "bit_length" X.env (eval o X.env)=eval o X.env:=by rfl)(hline:(apos.endLine==cpos.line)=true:=by rfl) :
  PE X (.Call (.Attribute o "bit_length" apos) [] [] cpos) (tI X.K B (e1 aDs f)):=by
 refine cQ (bA2 PySem.F.plainAttrs_int PySem.F.slot_int_bit_length PySem.F.type_int_bit_length aY1 ho hbase hline) ?_
 rintro σ H Q ⟨A,st,d,rs,hd,k⟩
 obtain⟨x,hx,h2⟩:=R.ok_of hd
 cases x<;>first | (cases h2;done) | skip
 cases h2
 refine⟨A,st,_,rs,hx,fun v H1 s1 r1=>⟨by rw[r1.int];rfl,_,r1.int,rfl,?_⟩⟩
 rw[aY2]
 exact k _ H1 s1 (aU.mpr rfl)
end
section
open PySem.SeqAt
open PySem.AutoSeq1 (wpAny_loadPart')
open PySem.MeetsSeq PySem.MeetsSeq2 PySem.MeetsSeq3
inductive LexW (A:Around) (s:Shared):List Value->List Value->Bool->Prop where
 | nn:LexW A s [] [] true
 | nc {w:Value} {ws:List Value}:LexW A s [] (w::ws) true
 | cn {v:Value} {vs:List Value}:LexW A s (v::vs) [] false
 | eq {v w:Value} {vs ws:List Value} {b:Bool}:EqAt A s v w true->LexW A s vs ws b->LexW A s (v::vs) (w::ws) b
 | lt {v w:Value} {vs ws:List Value} {b:Bool}:EqAt A s v w false->(∀ (prog:Program) (wd:World) (E Q:Value->Shared->Prop),Q (.bool b) s->wpAny (model prog wd) A (richCompare .LtE v w) Q E s)->LexW A s (v::vs) (w::ws) b
end
section
end
section
variable   {a:Expr}  
end
section
variable    {iter c:Expr}  {t:Tg}  
theorem aVa{K:Frag}   {st:PSt}  {p:Addr}   (rs:RS K B A H st σ) (i:Nat) (s1:bA H H1) (hp:H1 p=none) (s2:bA H1 H') (hv:H' p=some (.lst vs)) (r:bD K (hide (A++p::B) H') ys vs) :
  RS K B (p::A) H' (st.set i (some (.o .l ys))) (σ.set i (some (.ref p)))/\Le A H (p::A) H':=by
 let G:Hp:=fun b=>if b=p then none else H' b
 have hpH:H p=none:=by
  cases h:H p with
  | none=>rfl
  | some o=>rw[s1 _ _ h]at hp;cases hp
 have sG:bA H G:=fun b o z=>by
  have hb:b≠p:=bC z hpH
  show (if b=p then none else H' b)=_
  rw[if_neg hb]
  exact s2 _ _ (s1 _ _ z)
 have gN:G p=none:=if_pos rfl
 have eG:upd G p (.lst vs)=H':=by
  funext b
  by_cases hb:b=p
  ·subst hb;rw[cH,hv]
  ·rw[bQ hb];exact if_neg hb
 have eh:hide (A++p::B) H'=hide (A++B) G:=by
  funext b
  by_cases hb:b∈A++p::B
  ·rw[eN hb]
   rcases mem_mid.mp hb with e | e
   ·subst e
    by_cases hb2:b∈A++B
    ·rw[eN hb2]
    ·rw[bV hb2];exact gN.symm
   ·rw[eN e]
  ·have h2:b ∉ A++B:=fun z=>hb (mem_mid.mpr (.inr z))
   have h3:b≠p:=fun z=>hb (mem_mid.mpr (.inl z))
   rw[bV hb,bV h2]
   exact(if_neg h3).symm
 rw[eh]at r
 have z:=(rs.mono sG).setO (kk := .l) (o := .lst vs) i gN rfl r
 have l:=(Le.of (A:=A) sG).trans (aFh (o := .lst vs) gN)
 rw[eG]at z l
 exact⟨z,l⟩
theorem aPg(i:Nat){x:Str}{spos:Pos}(is:List Nat)(hsub:aFq is t)(S:CScope X scope is)(hi:L2.PI X tg iter (tIt X.K B it))(hg:∀ (B:List Addr) (C:Addr) (s₀:Shared) (H₀:Hp) (fp:List Addr),PG (cM X scope C s₀ H₀ fp) tg (tG X.K B t))
  (he:∀ (B:List Addr) (C:Addr) (s₀:Shared) (H₀:Hp) (fp:List Addr),PE (cM X scope C s₀ H₀ fp) elt (tI X.K B f)) (hc:X.calm=true) (hN:X.N.Nodup) (hi':X.N[i]?=some x:=by rfl) (hx:Loc X.env.scope x:=by first | exact Or.inl rfl | exact Or.inr rfl)
  (hsw:swapsWith (.ListComp elt [⟨tg,iter,[],0⟩] scope pos) (some (.Name x px)) spos.line X.env=pure true:=by rfl)
  (hf:X.fn x=true\/X.env.scope.names.lookup x=some .local:=by first | exact .inl rfl | exact .inr rfl | assumption) (hs:∀ x,foldedSetIterable iter X.env x=pure x:=by intro _;rfl) :
  PS X (.Assign [.Name x px] (.ListComp elt [⟨tg,iter,[],0⟩] scope pos) spos) (tS X.K B (pL i (cR is t it fD f))):=by
 intro pins s σ H Dn I h
 obtain⟨A,st,r,rs,hr,q⟩:=h
 obtain⟨d,hd,h3⟩:=R.ok_of hr
 obtain⟨xs,hx',h2⟩:=R.ok_of hd
 obtain⟨hl,h5⟩:=aK h2
 obtain⟨ys,hy,h4⟩:=R.ok_of h5
 cases h4
 cases h3
 rw[exec_Assign_Name_used _ _ _ _ hsw]
 refine wpAny_bind (wpAny_standAt (wpAny_bind ?_))
 show wpAny _ X.A (do let _ <- comprehension (.ListComp elt [⟨tg,iter,[],0⟩] scope pos) scope X.env _ (newList []) false (eval iter X.env) (some (assign (.Name x px) X.env))) _ _ s
 refine wpAny_bind (wpAny_mono (Q:=fun _ s'=>SP X pins Dn .next s') ?_ (fun _ s' hq=>wpAny_pure (wpAny_pure hq)) fun _ _ e=>e)
 refine tE (use:=some (assign (.Name x px) X.env)) (Qf:=fun _ s'=>SP X pins Dn .next s') (Q:=fun v H'=>Dn.nx (σ.set i (some v)) H') (tt:=aIx) (te:=tIx X.K f) (rest:=fun env it p=>eval elt env >>= fun x=>call (.builtin "list.append") [p,x] >>= fun _=>again (.compLoop (.ListComp elt [⟨tg,iter,[],0⟩] scope pos) 0 it p env)) S hc hi (fun C s₀ H₀ fp=>aUo fun B=>hg B C s₀ H₀ fp) (fun _ _ _=>pX)
  (fun C s₀ H₀ fp it p s Q h=>bEt (Y:=cM X scope C s₀ H₀ fp) h) (fun C s₀ H₀ fp it p τ H s pins vs N Q I h q=>aZ5 (Y:=cM X scope C s₀ H₀ fp) rfl (aUn fun B=>he B C s₀ H₀ fp) τ H s pins vs N Q I h (fun Q Q' m h=>xU Q Q' m h) q) hs I
  (aKv hsub (fun τ H Q ⟨B,A,st,k,rs,hk,q⟩=>?_) rs hx' hl hy fun p vs H1 H' s1 hp s2 hv r=>?_) fun C p H5 s5 m5 s3 H3 fp τ hC I3 hfp I5 hn5 q5=>aHj hN hi' hx hf hC I3 hfp I5 hn5 fun s' I'=>⟨_,_,I',q5⟩
 ·obtain⟨z,l⟩:=aVa rs i s1 hp s2 hv r
  exact q _ _ _ l z
 ·cases hk
  exact q H (bA.refl _)
end
theorem aHo(l:List Int):∀ n,n<=l.length->preSum (fun i=>l.getD i 0) n=(l.take n).sum
 | 0,_=>rfl
 | n+1,h=>by
  show preSum _ n+l.getD n 0=_
  rw[aHo l n (by omega),List.take_succ_eq_append_getElem (by omega),List.sum_append]
  rw[getD_eq_getElem?_getD,List.getElem?_eq_getElem (by omega)]
  simp
section
variable   {a:Expr}  
theorem aRe(hc:X.calm=true):nZ X (.builtin "sum") (fun vs H Q=>∃ (p:Addr) (l:List Int),vs=[.ref p]/\SqL X.K H p (l.map V.int)/\Q (.int l.sum) H):=by
 intro pins s σ H vs us Q I r h
 obtain⟨p,l,rfl,hl,q⟩:=h
 obtain⟨u,rfl,ru⟩:=r.one
 obtain rfl:u=Value.ref p:=ru
 obtain⟨its,rv,⟨ob,n,e,hcl,_,hd⟩,hz⟩:=I.list hl
 have hlen:=rv.length
 rw[length_map]at hlen
 have isl:s.heap.IsList p its.toArray:=⟨ob,e,hcl,n,hd⟩
 have hlt:p<s.heap.objs.size:=Heap.lt_size e
 refine call_sum_walkAnyS (wpAny_pyIter_list isl ?_)
 refine⟨s.heap.objs.size,[s.heap.objs.size,p],[s.heap.objs.size],_,its.toArray.size,_,_,fun i=>l.getD i 0,rfl,(Walks.list (prog:=X.prog) (w:=X.w) (A:=X.A.in1) (I.ok.hd hc) s.heap.objs.size p (Nat.ne_of_lt hlt) its.toArray).toS,⟨⟨_,Heap.get?_push_size _ rfl,rfl,rfl⟩,isl.push _⟩,fun b hb=>?_,fun i v hv=>?_,fun s' t' hm=>?_⟩
 ·rw[Heap.size_push]
  rcases List.mem_cons.mp hb with rfl | hb
  ·exact Nat.lt_succ_self _
  ·rw[List.mem_singleton.mp hb];exact Nat.lt_succ_of_lt hlt
 ·have hv':its[i]?=some v:=by simpa using hv
  have hi:i<its.length:=(List.getElem?_eq_some_iff.mp hv').1
  obtain⟨j,t,h1,h2⟩:=vals_ints rv i hi
  refine⟨t,?_⟩
  rw[List.getElem?_eq_getElem hi,h2]at hv'
  cases hv'
  show Value.int j t=Value.int (l.getD i 0) t
  rw[getD_eq_getElem?_getD,h1];rfl
 ·rw[Moved.eq_with hm]
  refine⟨.int l.sum,H,I.kept (t':=s'.toks) (fun b o hb=>hm.heap b o (fun z=>?_) (Heap.get?_push_of_some _ hb)),⟨t',?_⟩,q⟩
  ·exact absurd (Heap.lt_size hb) (by rw[List.mem_singleton.mp z];exact Nat.lt_irrefl _)
  ·have:its.toArray.size=l.length:=by simp[hlen]
   rw[this,aHo l l.length (Nat.le_refl _),take_length]
theorem bF2(hm:X.mg "sum" = none)(hc:X.calm=true)(ha:PE X a (tP X.K B f))(hg:Gl X "sum" := by rfl)(hs:starEach [a] X.env=(false,eval a X.env)::starEach [] X.env:=by rfl):PE X (.Call (.Name "sum" p0) [a] [] pos) (tI X.K B (e1 bAj f)):=by
 refine cQ (rZ (aRe hc) hg hm (by rfl) (eQ ha jP hs) (he:=hs)) ?_
 rintro σ H Q ⟨A,st,d,rs,hd,q⟩
 obtain⟨x,hx,h2⟩:=R.ok_of hd
 refine⟨A,st,x,rs,hx,fun v H1 s1 r1=>?_⟩
 cases x<;>first | (cases h2;done) | skip
 obtain⟨is,h3,h4⟩:=R.ok_of h2
 cases h4
 obtain⟨l,vs,e,h5,r5⟩:=r1.lst
 rw[wK h3]at r5
 rw[aFw r5]at h5
 exact⟨l,is,by rw[e],h5,q _ H1 s1 (aU.mpr rfl)⟩
end
section
variable   {a b:Expr}   
end
end Pu
namespace Pu
section
open PySem PySem.Spec PyProof.Rows L2
variable   {a b:Expr}  
theorem aE3{K:Frag}:aA6 K (rI0 fun i j => .bl (decide (i<j))) aM5:=qQ (g:=fun i j => .bl (decide (i<j))) (fun _ _ _=>bL.mpr rfl) fun x y d e=>by
 unfold aM5 at e
 split at e
 ·cases e;exact⟨_,_,rfl,rfl,rfl⟩
 ·cases e
theorem aVb{i j:Int}(c:(-18446744073709551616<i/\i<18446744073709551616)\/(-18446744073709551616<j/\j<18446744073709551616)):aS3 i j:=by
 unfold aS3
 omega
theorem uU(ha:PE X a (tP X.K B f))(hb:PE X b (tP X.K B g)):PE X (.BinOp a .Mult b pos) (tI X.K B (e2 oE f g)):=by
 refine aFe aZp ?_ ha hb
 intro A H x y d v u Q w rx ry e q
 unfold oE at e
 split at e
 ·obtain⟨c,e⟩:=aK e
  cases e
  exact⟨_,_,rx.int,ry.int,aVb c,q _ H (bA.refl _) (aU.mpr rfl)⟩
 ·cases e
end
end Pu
namespace Pu
open PySem PySem.Spec PyProof.Rows L2
theorem bH6{K:Frag}   {p:Addr}   (s1:bA H H1) (hp:H1 p=none) (s2:bA H1 H') (hv:H' p=some (.lst vs)) (r:bD K (hide (A++p::B) H') ds vs):∃ G,bA H G/\G p=none/\upd G p (.lst vs)=H'/\bD K (hide (A++B) G) ds vs:=by
 let G:Hp:=fun b=>if b=p then none else H' b
 have gN:G p=none:=if_pos rfl
 refine⟨G,fun b o z=>?_,gN,?_,r.mono fun b o z=>?_⟩
 ·have hb:b≠p:=bC (s1 _ _ z) hp
  show (if b=p then none else H' b)=_
  rw[if_neg hb]
  exact s2 _ _ (s1 _ _ z)
 ·funext b
  by_cases hb:b=p
  ·subst hb;rw[cH,hv]
  ·rw[bQ hb];exact if_neg hb
 ·have hb:b ∉ A++p::B:=fun w=>by rw[eN w]at z;cases z
  have z1:=bH _ _ _ _ z
  rw[bV fun w=>hb (mem_mid.mpr (.inr w))]
  show (if b=p then none else H' b)=_
  rw[if_neg fun w=>hb (mem_mid.mpr (.inl w))]
  exact z1
section
variable    {iter:Expr}  {t:Tg}  {h:Ex} {rest:List Stmt}  
end
section
variable   {σ:List (Option V)}   
end
section
variable{X:Cx}{B:List Addr}{a e:Expr}{es:List Expr}{f:Ex}{pos p0 apos cpos:Pos}{sm:Stmt}{rest:List Stmt}{bd bd':Bd}{r:Exs}
def tSR(K:Frag)(B:List Addr)(b:Bd)(f:Ex):TS:=fun Dn σ H=>∃ A st st' xs,RS K B A H st σ/\b st = .ok (.nx st')/\f st' = .ok (.lst xs)/\∀ A' a vs H',Le A H A' H'->a∈A'->H' a=some (.lst vs)->bD K (hide (A'++B) H') xs vs->Dn.rt (.ref a) H'
theorem aY3(h1:PS X sm (tS X.K B bd))(h2:PSs X rest (tSR X.K B bd' f)):PSs X (sm::rest) (tSR X.K B (bN bd bd') f):=qP (aAn h1 h2) (by
 rintro Dn σ H ⟨A,st,st',xs,rs,hb,hi,q⟩
 unfold bN aEf at hb
 obtain⟨fl,hfl,h3⟩:=R.ok_of hb
 refine⟨A,st,fl,rs,hfl,?_⟩
 cases fl with
 | nx s1=>exact fun A' σ' H' l rs'=>⟨A',s1,st',xs,rs',h3,hi,fun A2 a vs H2 l2=>q A2 a vs H2 (l.trans l2)⟩
 | rt d=>cases h3
 | bk s1=>cases h3
 | ct s1=>cases h3)
theorem bBu(he:PE X e (tF X.K B f)):PSs X [.Return (some e) pos] (tSR X.K B eE f):=qP (aDq (aLp he)) (by
 rintro Dn σ H ⟨A,st,st',xs,rs,hb,hf,q⟩
 cases hb
 exact⟨A,st,xs,rs,hf,fun p vs H' s hp r=>q (p::A) p vs (upd H' p (.lst vs)) ((Le.of s).trans (aFh hp)) mem_cons_self cH (r.mono (aBk hp))⟩)
end
section
variable   {K:Frag}    {st:Stmt}  {f:Addr}   {k:Nat}
theorem bH7(F:FunD K x qual st dV f fd)(S:FnScope N ps (aG st))(np n:Nat)(bd:Bd)(g:Ex)(hnp:ps.length=np)(hn:N.length=n)
  (hb:∀ (cdv:Value) (A:Around) (outer:List Env) (s:Shared) (H:Hp) (E:XK) (B:List Addr),Room k (A.deeper (envOfC qual (aG st) s.heap.objs.size f cdv)) ->
   PSs (aAp CX0 P w K mg base N qual (aG st) f cdv A outer s H E).nox (dB st) (tSR K B bd g)):FnOk P w K mg base CX0 (k+1) f fd ps (spF K np (cT np n (wN bd g))):=by
 refine F.okX S (fun vs H Q E h=>?_) (fun cdv A outer s H vs Q E hr h=>?_)
 ·obtain⟨A,ds,d,own,r,hl,_⟩:=h
  rw[r.length,hl,hnp]
 ·obtain⟨B,ds,xs,own,r,hl,hp,q⟩:=h
  refine⟨tSR K B bd g,hb cdv A outer s H E B hr,?_⟩
  obtain⟨_,h2⟩:=aK hp
  obtain⟨fl,hfl,h3⟩:=R.ok_of h2
  have rs:=aBn (N:=N) own r
  rw[hl,hn]at rs
  unfold wN at hfl
  split at hfl
  ·rename_i s1 hf1
   obtain⟨d,hd,h4⟩:=R.ok_of hfl
   split at h4
   ·cases h4
    cases h3
    refine⟨[],_,s1,_,rs,hf1,hd,fun A' a vs' H' l ha hv rv=>?_⟩
    have sm:bA H H':=by
     unfold Le at l
     rw[pW]at l
     exact l.trans (bH _ _)
    refine q a vs' H' sm ?_ hv (rv.mono (iM fun b hb=>?_))
    ·cases hH:H a with
     | none=>rfl
     | some o =>
      have z:=l a o (by rw[pW];exact hH)
      rw[eN ha]at z;cases z
    ·rcases List.mem_cons.mp hb with rfl | hb
     ·exact List.mem_append_left _ ha
     ·exact List.mem_append_right _ hb
   ·cases h4
  ·cases hfl
theorem aRf(ds:List D)(d:D)(h:cT np n (wN bd g) ds = .ok d):∃ xs,d = .lst xs:=by
 obtain⟨_,h2⟩:=aK h
 obtain⟨fl,hfl,h3⟩:=R.ok_of h2
 unfold wN at hfl
 split at hfl
 ·obtain⟨d,hd,h4⟩:=R.ok_of hfl
  split at h4
  ·cases h4;cases h3;exact⟨_,rfl⟩
  ·cases h4
 ·cases hfl
end
structure DefOkF(P:Program)(w:World)(K:Frag)(mg:Str->Option Value)(base:Heap)(x:Str)(k np:Nat)(p:List D->R D):Prop where
 ex:∃ (fa:Addr) (fd:FuncData) (ps:List Str),FnOk P w K mg base CX0 k fa fd ps (spF K np p)/\mg x=some (.ref fa)/\keepIn K (.ref fa)=true/\Binds K fd ps []
 len:∀ ds d,p ds = .ok d->ds.length=np
 lst:∀ ds d,p ds = .ok d->∃ xs,d = .lst xs
theorem DefOkF.of{K:Frag}    {k:Nat}      (h:FnOk P w K mg base CX0 k fa fd ps (spF K np (cT np n (wN bd g)))) (m:mg x=some (.ref fa))
  (kp:keepIn K (.ref fa)=true) (b:Binds K fd ps []):DefOkF P w K mg base x k np (cT np n (wN bd g)):=⟨⟨fa,fd,ps,h,m,kp,b⟩,aFl,aRf⟩
section
variable     {r:Exs} 
theorem aY4{k:Nat}  (h:DefOkF X.prog X.w X.K X.mg X.base x k np p) (hr:Room j X.A) (hk:k<=j) (ha:PA X (e::es) (tA X.K B r)) (hg:Gl X x:=by rfl) (hdb:(x==("__debug__" : Str))=false:=by decide)
  (he:starEach (e::es) X.env=(false,eval e X.env)::starEach es X.env:=by rfl) (hpl:(backTo pos (starEach es X.env)).any (·.1)=false:=by rfl):PE X (.Call (.Name x p0) (e::es) [] pos) (tF X.K B (aP p r)):=by
 obtain⟨fa,fd,ps,F,m,kp,bd⟩:=h.ex
 refine cQ (aNk F (hr.mono hk) hg m kp bd .nil aJn ha hdb he hpl) ?_
 rintro σ H Q ⟨A,st,d,rs,hd,q⟩
 obtain⟨xs,hx,h2⟩:=R.ok_of hd
 refine⟨A,st,xs,rs,hx,fun vs H1 s1 r1=>?_⟩
 show spF X.K np p (vs++[]) H1 Q E0
 rw[append_nil]
 refine⟨A++B,xs,d,rs.own.mono s1,r1,h.len _ _ h2,h2,fun a ws H' s' ha' hv rv=>?_⟩
 have e0:upd (hide [a] H') a (.lst ws)=H':=by
  funext b
  by_cases hb:b=a
  ·subst hb;rw[cH];exact hv.symm
  ·rw[bQ hb,bV (by simpa using hb)]
 have z:=q a ws (hide [a] H') (fun b u hz=>?_) (eN (by simp)) ?_
 ·rw[e0]at z;exact z
 ·have hz2:=s1 _ _ hz
  rw[bV (by simpa using bC hz2 ha')]
  exact s' _ _ hz2
 ·refine rv.mono fun b u hz=>?_
  have hb:b ∉ a::(A++B):=fun y=>by rw[eN y]at hz;cases hz
  rw[bV fun y=>hb (mem_cons_of_mem _ y),bV (by simpa using fun y=>hb (by rw[y];exact mem_cons_self))]
  exact bH _ _ _ _ hz
end
section
end
end Pu
namespace Pu
open PySem PySem.Spec PyProof.Rows L2 PySem.Calls Builtin Builtin.ObjectAttr
section
variable   {A:Around}  {R:Result->Shared->Prop}  {K:Frag} {x dx:Addr} {mA:Str->Option Value}  {v:Value} {ox:Obj}
end
section
variable   {A:Around}  {hp:Heap} {gs:Array GenState} {dn:Drawn} {tn:Nat} {os:OsState}
variable{n0 q:Str}{N:Addr}{l0 l1 l2:List Value}{z0:Bool}{l3:List Str}{l4:List Value}{z1:Bool}{z2:Option Bool}{z3:Option Addr}{k0 k1 k2 k3 k5:Option Value}{B initId:String}
end
section
variable   {σ:List (Option V)}    {x dx:Addr}
end
section
variable   {o value:Expr} {f:Str}  {ta tv:TE}
end
section
variable     {r:Exs} 
end
section
variable   {K:Frag}    {st:Stmt}  {f:Addr}   {k:Nat}
end
section
variable     {r:Exs} 
end
end Pu
namespace Pu
open PySem PySem.Spec PyProof.Rows L2
structure DA(K:Frag)(n:Str)(st:Stmt):Prop where
 ex:∃ (f:Addr) (fd:FuncData),nsIn K mainGlobals n=some (some (.ref f))/\FunD K n n st .none f fd
section
variable{P:Program}{w:World}{K:Frag}{h base:Heap}{mg:Str->Option Value}{n:Str}{st:Stmt}{f:Addr}{ps:List Str}{k np m:Nat}{p:List D->R D}{bd:Bd}{g:Ex}
theorem dX{od an:Option Addr}  {kV doc pm cdv ct:Value} (a:nsIn K mainGlobals n=some (some (.ref f))) (l:K.lookup f=some ⟨oc,od,.func (fnOf n n (fL st) (dB st) (aG st) .none kV doc pm an cdv ct),osl⟩)
  (c:codeIn K cdv n=true) (k:keepIn K (.ref f)=true):DA K n st:=⟨⟨f,_,a,yN l c k⟩⟩
structure Ct(P:Program)(w:World)(K:Frag)(mg:Str->Option Value)(base h:Heap):Prop where
 X:K.In h
 G:h.Ns mainGlobals mg
def Bn(n:Str)(st:Stmt)(ps:List Str):Prop:=∀ (kV doc pm:Value) (an:Option Addr) (cdv ct:Value) (us:List Value),us.length=ps.length->bindArgs (fnOf n n (fL st) (dB st) (aG st) .none kV doc pm an cdv ct) ⟨us,[]⟩=pure (ps.zip us)
theorem DA.use(D:DA K n st)(C:Ct P w K mg base h)(b:Bn n st ps):∃ (f:Addr) (fd:FuncData),FunD K n n st .none f fd/\mg n=some (.ref f)/\Binds K fd ps []:=by
 obtain⟨f,fd,a,F⟩:=D.ex
 exact⟨f,fd,F,mg_of C.X C.G a,F.binds0 b⟩
theorem DA.ok(D:DA K n st)(C:Ct P w K mg base h)(r:∀ {f:Addr} {fd:FuncData},FunD K n n st .none f fd->FnOk P w K mg base CX0 k f fd ps (spI K np (cT np m bd)))(b:Bn n st ps):DefOk P w K mg base n k np (cT np m bd):=by
 obtain⟨f,fd,F,a,z⟩:=D.use C b
 exact .of (r F) a F.kp z aFl
theorem DA.okX(D:DA K n st)(C:Ct P w K mg base h)(r:∀ {f:Addr} {fd:FuncData},FunD K n n st .none f fd->FnOk P w K mg base (CX1 P w) k f fd ps (spE K np (cT np m bd)))(b:Bn n st ps):DefOkX P w K mg base n k np (cT np m bd):=by
 obtain⟨f,fd,F,a,z⟩:=D.use C b
 exact .of (r F) a F.kp z
theorem DA.okF(D:DA K n st)(C:Ct P w K mg base h)(r:∀ {f:Addr} {fd:FuncData},FunD K n n st .none f fd->FnOk P w K mg base CX0 k f fd ps (spF K np (cT np m (wN bd g))))(b:Bn n st ps):DefOkF P w K mg base n k np (cT np m (wN bd g)):=by
 obtain⟨f,fd,F,a,z⟩:=D.use C b
 exact .of (r F) a F.kp z
end
structure XA(K:Frag)(c:String)(C:Addr)(bmB:List Value)(newId:String):Prop where
 a:nsIn K mainGlobals (Str.ofString c)=some (some (.ref C))
 q:excIn K C bmB newId=true
 g1:findIn K (.ref C) "__getattribute__" = some (some (.builtin "BaseException.__getattribute__"))
 g6:findIn K (.ref C) "__getattr__" = some none
 g7:mroIn K C (.type "BaseException")=some true
 g2:findIn K (.ref C) "__class__" = some (some (.builtin "object.__class__"))
 g5:mroIn K C (.type "object")=some true
theorem XA.at{K:Frag}{c:String}   {B initId:String} (Y:XA K c C bmB newId) (F:ExcBaseFacts B newId initId bmB) (g3:specialIn K (.builtin "object.__class__") "__get__" = some (some (.builtin "getset_descriptor.__get__"))) (g4:takesIn K (.builtin "object.__class__")=some true):∃ bm,ExcAt K c C bm:=aV4 F Y.a Y.q Y.g1 Y.g6 Y.g7 Y.g2 g3 g4 Y.g5
end Pu
namespace Pu
open PySem
structure TI(b:Bool)(t:SetTable):Prop where
 rise:t.place.toList.Pairwise (· < ·)
 dum:t.dummies = #[]
 led:t.led=b
theorem aG0(xs:Array Nat)(j:Nat)(hr:xs.toList.Pairwise (· < ·)):∀ (fuel lo hi:Nat),hi-lo<=fuel->lo<=hi->hi<=xs.size->(∀ (i:Nat) (a:Nat),i<lo->xs[i]?=some a->a<j)->(∀ (i:Nat) (a:Nat),hi<=i->xs[i]?=some a->j<=a) ->
  (∀ (i:Nat) (a:Nat),i<SetTable.below.go xs j fuel lo hi->xs[i]?=some a->a<j)/\(∀ (i:Nat) (a:Nat),SetTable.below.go xs j fuel lo hi<=i->xs[i]?=some a->j<=a)/\SetTable.below.go xs j fuel lo hi<=xs.size
 | 0,lo,hi,hf,hl,hs,h1,h2=>by
  have e:lo=hi:=by omega
  subst e
  exact⟨h1,h2,hs⟩
 | fuel+1,lo,hi,hf,hl,hs,h1,h2=>by
  unfold SetTable.below.go
  have up:∀ (i k:Nat) (a b:Nat),i<k->xs[i]?=some a->xs[k]?=some b->a<b:=fun i k a b hik ha hb=>by
   rw[<-getElem?_toList]at ha hb
   obtain⟨hi',ei⟩:=List.getElem?_eq_some_iff.mp ha
   obtain⟨hk',ek⟩:=List.getElem?_eq_some_iff.mp hb
   have:=List.pairwise_iff_getElem.mp hr i k hi' hk' hik
   rw[ei,ek]at this
   exact this
  by_cases hlt:lo<hi
  ·rw[if_pos hlt]
   have hm:(lo+hi)/2<xs.size:=by omega
   have hx:xs[(lo+hi)/2]?=some xs[(lo+hi)/2]:=Array.getElem?_eq_getElem hm
   have hg:xs.getD ((lo+hi)/2) j=xs[(lo+hi)/2]:=by rw[getD_eq_getD_getElem?,hx];rfl
   dsimp only
   rw[hg]
   by_cases hc:xs[(lo+hi)/2] < j
   ·rw[if_pos hc]
    refine aG0 xs j hr fuel _ _ (by omega) (by omega) hs (fun i a hi' ha=>?_) h2
    by_cases he:i=(lo+hi)/2
    ·subst he;rw[hx]at ha;cases ha;exact hc
    ·exact Nat.lt_trans (up i _ a _ (by omega) ha hx) hc
   ·rw[if_neg hc]
    refine aG0 xs j hr fuel _ _ (by omega) (by omega) (by omega) h1 fun i a hi' ha=>?_
    by_cases he:i=(lo+hi)/2
    ·subst he;rw[hx]at ha;cases ha;omega
    ·have:=up _ i _ a (by omega) hx ha;omega
  ·rw[if_neg hlt]
   have e:lo=hi:=by omega
   subst e
   exact⟨h1,h2,hs⟩
theorem aG1(xs:Array Nat)(j:Nat)(hr:xs.toList.Pairwise (· < ·)):(∀ (i:Nat) (a:Nat),i<SetTable.below xs j->xs[i]?=some a->a<j)/\(∀ (i:Nat) (a:Nat),SetTable.below xs j<=i->xs[i]?=some a->j<=a)/\SetTable.below xs j<=xs.size :=
 aG0 xs j hr xs.size 0 xs.size (by omega) (zero_le _) (Nat.le_refl _) (fun i a h=>absurd h (not_lt_zero _)) fun i a h ha=>by
  have:=(Array.getElem?_eq_some_iff.mp ha).1
  omega
theorem aLc(xs:Array Nat)(j:Nat)(hr:xs.toList.Pairwise (· < ·))(hn:xs[SetTable.below xs j]?≠some j):(SetTable.insertAt xs (SetTable.below xs j) j).toList.Pairwise (· < ·):=by
 obtain⟨h1,h2,h3⟩:=aG1 xs j hr
 have e:(SetTable.insertAt xs (SetTable.below xs j) j).toList=xs.toList.take (SetTable.below xs j)++j::xs.toList.drop (SetTable.below xs j):=by
  unfold SetTable.insertAt
  simp only[Array.toList_append,toList_push,Array.toList_extract]
  simp[List.extract_eq_drop_take,List.append_assoc]
  rw[List.take_of_length_le (by simp)]
 rw[e,List.pairwise_append]
 have ge:∀ a∈xs.toList.drop (SetTable.below xs j),j<a:=fun a ha=>by
  obtain⟨k,hk⟩:=List.mem_iff_getElem?.mp ha
  rw[List.getElem?_drop,getElem?_toList]at hk
  have:=h2 _ a (le_add_right _ _) hk
  rcases Nat.lt_or_eq_of_le this with h | h
  ·exact h
  ·subst h
   exfalso
   have hb:SetTable.below xs j<xs.size:=by have:=(Array.getElem?_eq_some_iff.mp hk).1;omega
   have hx:xs[SetTable.below xs j]?=some xs[SetTable.below xs j]:=Array.getElem?_eq_getElem hb
   have g1:=h2 _ _ (Nat.le_refl _) hx
   by_cases hz:k=0
   ·subst hz
    rw[Nat.add_zero]at hk
    exact hn hk
   ·have hk':=(Array.getElem?_eq_some_iff.mp hk)
    have:=List.pairwise_iff_getElem.mp hr (SetTable.below xs j) (SetTable.below xs j+k) (by simpa using hb) (by simpa using hk'.1) (by omega)
    rw[Array.getElem_toList,Array.getElem_toList,hk'.2]at this
    omega
 refine⟨hr.sublist (List.take_sublist _ _),List.pairwise_cons.mpr ⟨ge,hr.sublist (List.drop_sublist _ _)⟩,fun a ha b hb=>?_⟩
 have la:a<j:=by
  obtain⟨k,hk⟩:=List.mem_iff_getElem?.mp ha
  rw[List.getElem?_take]at hk
  split at hk
  ·rename_i hlt
   rw[getElem?_toList]at hk
   exact h1 k a hlt hk
  ·cases hk
 rcases List.mem_cons.mp hb with rfl | hb
 ·exact la
 ·exact Nat.lt_trans la (ge b hb)
theorem aPh(j:Nat):SetTable.has #[] j=false:=rfl
theorem aLd(t:SetTable)(hashAt:Nat->Int)(h:Int)(hd:t.dummies = #[]):∀ (fuel:Nat) (p:SetTable.Probe) (j:Nat) (d:Option Nat),SetTable.probe.go t hashAt h fuel p=some (.empty j d)->t.slot j = .empty/\d=p.dummy
 | 0,p,j,d,e=>by cases e
 | fuel+1,p,j,d,e=>by
  unfold SetTable.probe.go at e
  cases hs:t.slot p.j with
  | empty=>rw[hs]at e;cases e;exact⟨hs,rfl⟩
  | dummy =>
   exfalso
   unfold SetTable.slot at hs
   dsimp only at hs
   split at hs
   ·cases hs
   ·rw[hd,aPh]at hs
    cases hs
  | live i =>
   rw[hs]at e
   dsimp only at e
   have adv:(t.advance p).dummy=p.dummy:=by
    unfold SetTable.advance
    split<;>rfl
   split at e
   ·cases e
   ·obtain⟨a,b⟩:=aLd t hashAt h hd fuel _ j d e
    exact⟨a,b.trans adv⟩
theorem aRg{t:SetTable}{h:Int}  {w:Bool} (hd:t.dummies = #[]) (e:t.freeSlot h=some (j,w)):t.slot j = .empty:=by
 unfold SetTable.freeSlot at e
 split at e
 ·rename_i j' d hp
  obtain⟨a,b⟩:=aLd t _ h hd _ _ _ _ hp
  have:d=none:=b
  subst this
  cases e
  exact a
 ·cases e
theorem aRh{t:SetTable}  (h:t.slot j = .empty):t.place[SetTable.below t.place j]?≠some j:=fun e=>by
 unfold SetTable.slot at h
 dsimp only at h
 rw[if_pos (by rw[e];exact beq_self_eq_true _)]at h
 cases h
theorem TI.put{b:Bool}{t:SetTable}{j:Nat}(x:TI b t)(h:t.slot j = .empty):TI b (t.put j).1:=by
 refine⟨aLc t.place j x.rise (aRh h),?_,x.led⟩
 show (if SetTable.has t.dummies j then _ else t.dummies)=_
 rw[x.dum,aPh]
 rfl
theorem aN5(n:Nat):(Array.range n).toList.Pairwise (· < ·):=by
 rw[Array.toList_range]
 exact List.pairwise_lt_range
theorem TI.stand{t:SetTable}(x:TI b t)(n:Nat):TI b (t.standIn n):=⟨aN5 n,rfl,x.led⟩
theorem TI.orStand{t:SetTable}(x:TI b t)(n:Nat):TI b (t.orStandIn n):=by
 unfold SetTable.orStandIn
 split
 ·exact x
 ·exact x.stand n
theorem TI.lay{t:SetTable}(x:TI b t)(es:Array (Int × Value))(h:Int)(v:Value):TI b (layNew t es h v).2.1:=by
 unfold layNew
 split
 ·rename_i j w e
  exact(x.put (aRg x.dum e)).orStand _
 ·exact x.stand _
theorem TI.relay{t:SetTable}(x:TI b t)(es:Array (Int × Value))(n:Nat):TI b (relayAll t es n).2.1:=by
 unfold relayAll
 split
 ·rename_i t' order e
  have y:TI b t':=by
   unfold SetTable.relaid SetTable.laid at e
   obtain⟨owner,_,e2⟩:=Option.bind_eq_some_iff.mp e
   cases e2
   refine⟨?_,rfl,x.led⟩
   show ((List.map (fun x:Nat × Nat=>x.1) (List.filterMap (fun j=>Option.map (fun x=>(j,x)) (owner.getD j Option.none)) (List.range (SetTable.sizeAbove n-1+1)))).toArray).toList.Pairwise (· < ·)
   rw[List.toList_toArray,List.map_filterMap]
   refine(List.pairwise_lt_range (n:=_)).filterMap _ fun a a' haa c hc c' hc' => ?_
   have h1:c=a:=by
    cases ho:(owner.getD a none) with
    | none=>rw[ho]at hc;cases hc
    | some k=>rw[ho]at hc;cases hc;rfl
   have h2:c'=a':=by
    cases ho:(owner.getD a' none) with
    | none=>rw[ho]at hc';cases hc'
    | some k=>rw[ho]at hc';cases hc';rfl
   rw[h1,h2]
   exact haa
  dsimp only
  split
  ·exact y
  ·exact x.stand _
 ·exact x.stand _
theorem TI.fresh(b:Bool):TI b (.fresh 0 0 b):=⟨List.Pairwise.nil,rfl,rfl⟩
end Pu
namespace Pu
open PySem
theorem aLe(t:SetTable)(es:Array (Int × Value))(h:Int)(v:Value):(layNew t es h v).1.toList.Perm (es.toList++[(h,v)]):=by
 have p:=layNew_perm t es h v
 rw[toList_push]at p
 exact p
def numOf:Value->Int
 | .int n _=>n
 | _=>0
def aRi(e:Int × Value):Prop:=∃ (n:Int) (t:Tok),e=(hashInt n,.int n t)
structure SetIs(b:Bool)(a:Addr)(ns:List Int)(es:Array (Int × Value))(ep:Nat)(t:SetTable)(h:Heap):Prop where
 obj:h.get? a=some {cls := .type "set", dict:=none,data := .set es ep t,slots := #[] }
 fit:t.fits es.size=true
 ti:TI b t
 perm:(es.toList.map fun e=>numOf e.2).Perm ns
 nums:∀ e∈es.toList,aRi e
theorem SetIs.keep{es:Array (Int × Value)}  {t:SetTable}  (x:SetIs b a ns es ep t h) (k:∀ o,h.get? a=some o->h'.get? a=some o):SetIs b a ns es ep t h' :=
 ⟨k _ x.obj,x.fit,x.ti,x.perm,x.nums⟩
theorem SetIs.size{b:Bool}{a:Addr}{ns:List Int}{es:Array (Int × Value)}{ep:Nat}{t:SetTable}{h:Heap}(x:SetIs b a ns es ep t h):es.size=ns.length:=by
 have:=x.perm.length_eq
 simpa using this
theorem SetIs.put{ns':List Int}{es es':Array (Int × Value)}  {t t':SetTable}  (x:SetIs b a ns es ep t h) (fit:t'.fits es'.size=true) (ti:TI b t') (perm:(es'.toList.map fun e=>numOf e.2).Perm ns') (nums:∀ e∈es'.toList,aRi e) :
  SetIs b a ns' es' (ep+1) t' (h.update a (Obj.putSet es' t')):=by
 refine⟨?_,fit,ti,perm,nums⟩
 rw[Heap.get?_update_self (Obj.putSet es' t') x.obj rfl]
 rfl
def aJ4(ns:List Int)(k:Int):List Int:=if ns.any (· == k) then ns else ns++[k]
theorem aY5(ns:List Int)(k:Int):(aJ4 ns k).length<=ns.length+1:=by
 unfold aJ4
 split
 ·exact le_succ _
 ·simp
section
variable   {A:Around}  
theorem aY6{es:List (Int × Value)}(nums:∀ e∈es,aRi e):ElemsOf (intKind prog w) es:=fun e he=>by
 obtain⟨n,t,rfl⟩:=nums e he
 exact⟨⟨n,intKind_is prog w n t,rfl⟩,rfl⟩
theorem aY7{es:List (Int × Value)}  (nums:∀ e∈es,aRi e) (perm:(es.map fun e=>numOf e.2).Perm ns) (k:Int):(es.findIdx? (fun e=>(intKind prog w).is k e.2)).isSome=ns.any (· == k):=by
 rw[List.findIdx?_isSome,Bool.eq_iff_iff,List.any_eq_true,List.any_eq_true]
 constructor
 ·rintro⟨e,he,hp⟩
  obtain⟨n,t,rfl⟩:=nums e he
  have en:n=k:=(intKind prog w).inj _ n k (intKind_is prog w n t) hp
  exact⟨n,perm.mem_iff.mp (List.mem_map.mpr ⟨_,he,rfl⟩),beq_iff_eq.mpr en⟩
 ·rintro⟨n,hn,hp⟩
  obtain⟨e,he,hv⟩:=List.mem_map.mp (perm.mem_iff.mpr hn)
  obtain⟨n',t,rfl⟩:=nums e he
  have e1:n'=n:=hv
  have e2:n=k:=beq_iff_eq.mp hp
  refine⟨_,he,?_⟩
  rw[<-e2,<-e1]
  exact intKind_is prog w n' t
theorem aJ5{Q:Unit->Shared->Prop}(c:Bool)(q:Q () s):wpAny (model prog w) A (match c with | true=>rule "set.scan.the-table-gave-way" | false=>pure ()) Q E s:=by
 cases c with
 | true=>exact wpAny_rule q
 | false=>exact wpAny_pure q
theorem store_ok{ns':List Int}{es es':Array (Int × Value)}{ep:Nat}{t t':SetTable}{d:Bool}{R:Option Bool->Shared->Prop}{g:Bool->Sem Unit}
  (hg:∀ (c:Bool) (s₁:Shared) (Q:Unit->Shared->Prop),Q () s₁->wpAny (model prog w) A (g c) Q E s₁) (x:SetIs b a ns es ep t s.heap)
  (few:es'.size<scanBound) (fit:t'.fits es'.size=true) (ti:TI b t') (perm:(es'.toList.map fun e=>numOf e.2).Perm ns') (nums:∀ e∈es'.toList,aRi e)
  (r:∀ (h':Heap) (es:Array (Int × Value)) (ep:Nat) (t:SetTable),Heap.SameBut a s.heap h'->SetIs b a ns' es ep t h'->R (some true) {s with heap:=h'}) :
  wpAny (model prog w) A (storeSet a es' t' >>= fun _=>if (!d&&t'.tooFull)=true then g (relayAll t' es' (SetTable.grown es'.size)).2.2 >>= fun _=>storeSet a (relayAll t' es' (SetTable.grown es'.size)).1 (relayAll t' es' (SetTable.grown es'.size)).2.1 >>= fun _=>pure (some true) else pure (some true)) R E s:=by
 have y:=x.put fit ti perm nums
 have o1:=Heap.SameBut.update s.heap a (Obj.putSet es' t')
 refine wpAny_bind (wpAny_storeSet_of x.obj rfl ?_ (fits_of_scanBound few))
 by_cases hc:(!d&&t'.tooFull)=true
 ·rw[if_pos hc]
  have p:=relayAll_perm t' es' (SetTable.grown es'.size)
  have sz:(relayAll t' es' (SetTable.grown es'.size)).1.size=es'.size:=by simpa using p.length_eq
  have z:=y.put (relayAll_fits t' es' (SetTable.grown es'.size)) (ti.relay es' _) ((p.map _).trans perm) fun e he=>nums e (p.mem_iff.mp he)
  exact wpAny_bind (hg _ _ _ (wpAny_bind (wpAny_storeSet_of y.obj rfl (wpAny_pure (r _ _ _ _ (o1.trans (Heap.SameBut.update _ a _)) z)) (fits_of_scanBound (by rw[sz];exact few)))))
 ·rw[if_neg hc]
  exact wpAny_pure (r _ _ _ _ o1 y)
theorem bBv{es:Array (Int × Value)}{ep:Nat}{t:SetTable}{k:Int}{tk:Tok}{Q:Bool->Shared->Prop}(x:SetIs b a ns es ep t s.heap)(few:ns.length+1<scanBound)
  (q:∀ (c:Bool) (h':Heap) (es:Array (Int × Value)) (ep:Nat) (t:SetTable),Heap.SameBut a s.heap h'->SetIs b a (aJ4 ns k) es ep t h'->Q c {s with heap:=h'}) :
  wpAny (model prog w) A (setAddHashed a (.int k tk) (hashInt k)) Q E s:=by
 have el:ElemsOf (intKind prog w) es.toList:=aY6 x.nums
 have fz:es.size<scanBound:=by rw[x.size];omega
 have fk:=aY7 (prog:=prog) (w:=w) x.nums x.perm k
 have nadd:∀ e∈(layNew t es (hashInt k) (.int k tk)).1.toList,aRi e:=fun e he=>by
  rcases List.mem_append.mp ((aLe t es _ _).mem_iff.mp he) with he | he
  ·exact x.nums e he
  ·exact⟨k,tk,List.mem_singleton.mp he⟩
 have padd:((layNew t es (hashInt k) (.int k tk)).1.toList.map fun e=>numOf e.2).Perm (ns++[k]):=by
  have:=(aLe t es (hashInt k) (.int k tk)).map fun e=>numOf e.2
  rw[List.map_append]at this
  exact this.trans (x.perm.append_right _)
 have sadd:(layNew t es (hashInt k) (.int k tk)).1.size<scanBound:=by
  have:=padd.length_eq
  simp at this
  omega
 unfold setAddHashed setAddHashedIn
 refine wpAny_holding (wpAny_bind (wpAny_setState_of x.obj rfl x.fit ?_))
 dsimp only
 rw[if_pos (byScan_of rfl fz el)]
 unfold setAddByScan
 refine wpAny_bind (wpAny_bind (wpAny_rule (wpAny_bind (wpAny_setScan_of (knd:=intKind prog w) (intKind_is prog w k tk) x.obj rfl x.fit el ?_))))
 cases hr:es.toList.findIdx? (fun e=>(intKind prog w).is k e.2) with
 | some j =>
  rw[hr]at fk
  have:aJ4 ns k=ns:=if_pos fk.symm
  rw[this]at q
  exact wpAny_pure (wpAny_pure (q false s.heap es ep t (Heap.SameBut.refl a s.heap) x))
 | none =>
  rw[hr]at fk
  have:aJ4 ns k=ns++[k]:=by unfold aJ4;rw[<-fk];rfl
  rw[this]at q
  have tl:=x.ti.lay es (hashInt k) (.int k tk)
  have fl:=layNew_fits t es (hashInt k) (.int k tk)
  generalize layNew t es (hashInt k) (.int k tk)=L at padd nadd sadd tl fl ⊢
  obtain⟨es1,t1,d,gv⟩:=L
  dsimp only at padd nadd sadd tl fl ⊢
  refine wpAny_bind (aJ5 _ ?_)
  by_cases hp:t1.plain=true
  ·rw[if_pos hp]
   refine wpAny_bind ?_
   rw[hashByValue_scannable 8 rfl]
   exact wpAny_pure (store_ok (fun c s₁ Q' h'=>aJ5 c h') x sadd fl tl padd nadd fun h' es ep t sb y=>wpAny_pure (q true h' es ep t sb y))
  ·rw[if_neg hp]
   exact wpAny_bind (wpAny_pure (store_ok (fun c s₁ Q' h'=>aJ5 c h') x sadd fl tl padd nadd fun h' es ep t sb y=>wpAny_pure (q true h' es ep t sb y)))
end
end Pu
namespace Pu
open PySem PyProof.Rows
section
variable{prog:Program}{w:World}{A:Around}{E:Value->Shared->Prop}{s:Shared}
def aJ6(val:Nat->Int):Nat->List Int
 | 0=>[]
 | i+1=>aJ4 (aJ6 val i) (val i)
theorem aPi(val:Nat->Int):∀ i,(aJ6 val i).length<=i
 | 0=>Nat.le_refl _
 | i+1=>Nat.le_trans (aY5 _ _) (Nat.succ_le_succ (aPi val i))
def gO(b:Bool)(a:Addr)(ns:List Int)(h:Heap):Prop:=∃ es ep t,SetIs b a ns es ep t h
theorem gO.keep{b:Bool}{a:Addr}{ns:List Int}{h h':Heap}(x:gO b a ns h)(k:∀ o,h.get? a=some o->h'.get? a=some o):gO b a ns h' :=
 let ⟨es,ep,t,y⟩:=x
 ⟨es,ep,t,y.keep k⟩
theorem bBw{k:Int}{t:Tok}{Q:Bool->Shared->Prop}(x:gO b a ns s.heap)(few:ns.length+1<scanBound)
  (q:∀ (c:Bool) (h':Heap),Heap.SameBut a s.heap h'->gO b a (aJ4 ns k) h'->Q c {s with heap:=h',toks:=s.toks+1}) :
  wpAny (model prog w) A (setAdd a (.int k t)) Q E s:=by
 obtain⟨es,ep,tb,y⟩:=x
 unfold setAdd
 refine wpAny_holding (wpAny_bind ((intKind prog w).pyHash (k:=k) (intKind_is prog w k t) ?_))
 exact bBv (s:={s with toks:=s.toks+1}) y few fun c h' es' ep' t' sb z=>q c h' sb ⟨es',ep',t',z⟩
variable{I:Addr}{fp wr:List Addr}{G:Array GenState->Array GenState->Prop}{n:Nat}{P:Nat->Value->Prop}{St:Nat->Shared->Prop}
theorem aY8(W:WalksS prog w A.in1 I fp wr G n P St){R:Result->Shared->Prop}(a:Addr)(b:Bool)(out:a ∉ fp)(val:Nat->Int)(isN:∀ i v,P i v->∃ t,v = .int (val i) t)(few:n+1<scanBound) :
  ∀ (m i:Nat) (s:Shared),i+m=n->St i s->gO b a (aJ6 val i) s.heap ->
   (∀ s',Moved (a::wr) G s s'->gO b a (aJ6 val n) s'.heap->R (.ok (.ret .none)) s') ->
   codeAny (model prog w) A (.builtin "set.update.loop" ⟨[.ref a,.ref I],[]⟩) R s:=by
 have nw:a ∉ wr:=fun h=>out (W.sub _ h)
 have up:∀ c∈wr,c∈a::wr:=fun c hc=>mem_cons_of_mem _ hc
 intro m
 induction m with
 | zero =>
  intro i s e st x r
  rw[Nat.add_zero]at e
  subst e
  refine codeAny_builtin F.entry_set_update_loop ?_
  rw[Around.under_plainId F.plain_set_update_loop _]
  show wpAny _ A.in1 (pyNext (.ref I) >>= _) _ _ s
  exact wpAny_bind (W.done s _ _ st fun s' mv=>wpAny_pure (r s' (mv.mono up) (x.keep fun o ho=>mv.heap a o nw ho)))
 | succ m ih =>
  intro i s e st x r
  refine codeAny_builtin F.entry_set_update_loop ?_
  rw[Around.under_plainId F.plain_set_update_loop _]
  show wpAny _ A.in1 (pyNext (.ref I) >>= _) _ _ s
  refine wpAny_bind (W.item i s _ _ (by omega) st fun v s' pv st' mv=>?_)
  obtain⟨t,rfl⟩:=isN i v pv
  have fw:(aJ6 val i).length+1<scanBound:=by have:=aPi val i;omega
  refine wpAny_bind (wpAny_holding (bBw (x.keep fun o ho=>mv.heap a o nw ho) fw fun c h' sb y=>wpAny_pure ⟨plainId_quiet F.plain_set_update_loop _,?_⟩))
  have other:∀ c,c≠a->h'.get? c=s'.heap.get? c:=fun c hc=>sb.2 c hc
  refine ih (i+1) _ (by omega) (W.frame _ s' _ _ st' (le_succ _) fun c hc o ho=>?_) y fun s2 mv2 z=>?_
  ·rw[other c fun h=>out (h ▸ hc)]
   exact ho
  ·refine r s2 (Moved.trans W.gtrans ((mv.mono up).then_heap (le_succ _) fun c o hc ho=>?_) mv2) z
   rw[other c fun h=>hc (h ▸ mem_cons_self)]
   exact ho
end
section
variable{prog:Program}{w:World}{A:Around}{E:Value->Shared->Prop}{s:Shared}
def tM(w:World):Bool:=w.params.followText "set-order"
def pY(w:World):Obj:={cls := .type "set", dict:=none,data := .set #[] 0 (.fresh 0 0 (!tM w)),slots := #[] }
theorem aY9(a:Value)  (q:Q (.ref s.heap.objs.size) {s with heap:=s.heap.push (pY w)}) :
  codeAny (model prog w) A (.call (.builtin "set.__new__") ⟨[.type "set", a],[]⟩) (wants Q E) s:=by
 refine codeAny_of_tree (?_:wpAny _ A.in1 (checkBuiltinCall "set.__new__" ⟨[.type "set", a],[]⟩ >>= fun _=>again (.builtin "set.__new__" ⟨[.type "set", a],[]⟩)) _ _ s)
 refine wpAny_bind (wpAny_of_eq (F.newCall_set_1 a) (wpAny_pure ⟨plainId_quiet F.plain_set_new _,codeAny_builtin F.entry_set_new ?_⟩))
 rw[Around.under_plainId F.plain_set_new _]
 unfold Builtin.«set.__new__» Builtin.Frozenset.newClass
 have sub:=sub_set_self
 obtain⟨hp,g,d,tk,os⟩:=s
 dsimp only
 wp_walk
 refine wpAny_askSetting (wpAny_pure ?_)
 dsimp only
 simp only[newObj]
 exact wpAny_bind (wpAny_alloc (wpAny_pure (wpAny_pure q)))
theorem aRj(w:World)   (o:h.get? a=some (pY w)):gO (!tM w) a [] h :=
 ⟨#[],0,_,o,rfl,TI.fresh _,List.Perm.nil,fun e he=>nomatch he⟩
theorem aYa{l:Addr}   {R:Result->Shared->Prop} (hh:A.handled=none) (o:s.heap.get? a=some (pY w)) (ne:l≠a) (hl:s.heap.IsList l items) (isN:IntsAre items.toList ns) (few:items.size+1<scanBound)
  (r:∀ (h':Heap) (tk:Nat),gO (!tM w) a (aJ6 (fun i=>ns.getD i 0) items.size) h'->(∀ b o,b≠a->s.heap.get? b=some o->h'.get? b=some o)->R (.ok (.ret .none)) {s with heap:=h',toks:=tk}) :
  wpAny (model prog w) A.in1 (Builtin.«set.__init__» ⟨[.ref a,.ref l],[]⟩) (fun fin s'=>match fin with | .done f=>R (.ok f) s' | .again c'=>c'.quiet=true/\codeAny (model prog w) A c' R s') (fun e s'=>R (.error e) s') s:=by
 have hT:s.TypeIs (.ref a) "set" := ⟨_,o,rfl⟩
 obtain⟨ol,hol,hcl,nl,hdl⟩:=id hl
 obtain⟨cl,di,da,sl⟩:=ol
 dsimp only at hcl hdl
 subst hcl
 subst hdl
 have o':s.heap.get? a=some {cls := .type "set", dict:=none,data := .set #[] 0 (.fresh 0 0 (!tM w)),slots := #[] }:=o
 have h1:=F.sub_list_set
 have h2:=F.sub_list_frozenset
 have h3:(Value.type "list" == Value.type "dict")=false:=by decide
 unfold Builtin.«set.__init__» noKeywords Builtin.Frozenset.updateFrom
 generalize hp:pyIter=it
 wp_walk
 subst hp
 refine wpAny_pyIter_list hl (wpAny_bind (wpAny_runValue ?_))
 have ia:a≠s.heap.objs.size:=Nat.ne_of_lt (Heap.lt_size o)
 have il:l≠s.heap.objs.size:=Nat.ne_of_lt (Heap.lt_size hol)
 have out:a ∉ [s.heap.objs.size,l]:=by
  intro h
  rcases List.mem_cons.mp h with h | h
  ·exact ia h
  ·exact ne (List.mem_singleton.mp h).symm
 refine aY8 ((Walks.list (by simp[hh]) _ l il items).toS) a (!tM w) out (fun i=>ns.getD i 0) (fun i v hv=>IntsAre.int_at isN i v (by rw[getElem?_toList];exact hv)) few items.size 0 _ (Nat.zero_add _)
  ⟨⟨_,Heap.get?_push_size _ rfl,rfl,rfl⟩,hl.push _⟩ (aRj w (Heap.get?_push_of_some _ o)) fun s' mv x=>?_
 rw[Moved.eq_with mv]
 refine wpAny_pure (wpAny_pure (r s'.heap s'.toks x fun b o hb ho=>mv.heap b o (fun hm=>?_) (Heap.get?_push_of_some _ ho)))
 rcases List.mem_cons.mp hm with h | h
 ·exact hb h
 ·exact absurd (List.mem_singleton.mp h) (Nat.ne_of_lt (Heap.lt_size ho))
theorem aYb{l:Addr}    (hh:A.handled=none) (hl:s.heap.IsList l items) (isN:IntsAre items.toList ns) (few:items.size+1<scanBound)
  (q:∀ (h':Heap) (tk:Nat),gO (!tM w) s.heap.objs.size (aJ6 (fun i=>ns.getD i 0) items.size) h'->(∀ b o,s.heap.get? b=some o->h'.get? b=some o)->Q (.ref s.heap.objs.size) {s with heap:=h',toks:=tk}) :
  wpAny (model prog w) A (call (.type "set") [.ref l]) Q E s:=by
 obtain⟨c,tl,hmro⟩:=F.called_set.mro
 have g1:=F.called_set.made
 have g2:=F.called_set.sub
 have g3:=F.called_set.notType
 have g4:=F.called_set.canCreate
 have g5:=F.typeCall_set_1 (.ref l)
 refine wpAny_call (codeAny_of_tree (?_:wpAny _ _ (callAny (.type "set") _) _ _ _))
 refine wpAny_pure ⟨Code.quiet_builtin _ (by decide +kernel),codeAny_builtin F.entry_type_call ?_⟩
 rw[Around.under_plain (weight_type_call_type "set" [.ref l] []) rfl]
 repeat (any_goals (first | assumption | wp_step))
 refine codeAny_mono (aY9 (.ref l) (E:=E) (Q:=fun v s₁=>v = .ref s.heap.objs.size/\s₁={s with heap:=s.heap.push (pY w)}) ⟨rfl,rfl⟩) fun res s₁ hres=>?_
 match res,hres with
 | .error e,he=>exact he
 | .ok (.ret v),⟨hv,hs⟩ =>
  subst hv
  subst hs
  have ob:(s.heap.push (pY w)).get? s.heap.objs.size=some (pY w):=Heap.get?_push_size _ rfl
  have hT:Shared.TypeIs {s with heap:=s.heap.push (pY w)} (.ref s.heap.objs.size) "set" := ⟨_,ob,rfl⟩
  have g6:=F.called_set.init.lookup
  have g7:=F.called_set.init.bind (.ref s.heap.objs.size)
  repeat (any_goals (first | assumption | wp_step))
  have ne:l≠s.heap.objs.size:=let ⟨_,h,_⟩:=hl;Nat.ne_of_lt (Heap.lt_size h)
  refine codeAny_mono (codeAny_call_builtin (R:=wants (fun r s₂=>r = .none/\Q (.ref s.heap.objs.size) s₂) E) F.called_set.init.plain F.entry_set_init (check_set_init_1 hT
   (aYa (by simp[hh]) ob ne (hl.push _) isN few fun h' tk x k=>⟨rfl,q h' tk x fun b o ho=>k b o (Nat.ne_of_lt (Heap.lt_size ho)) (Heap.get?_push_of_some _ ho)⟩))) fun r₂ s₂ hr₂=>?_
  match r₂,hr₂ with
  | .error e,he=>exact he
  | .ok (.ret _),⟨h0,hq⟩ =>
   subst h0
   repeat (any_goals (first | assumption | wp_step))
end
end Pu
namespace Pu
open PySem PyProof.Rows
theorem aAc{α:Type}:∀ (xs:List α) (i:Nat) (x:α),xs[i]?=some x->(x::xs.eraseIdx i).Perm xs
 | [],_,_,h=>nomatch h
 | y::xs,0,x,h=>by cases h;exact List.Perm.refl _
 | y::xs,i+1,x,h=>by
  have:=aAc xs i x (by simpa using h)
  exact(List.Perm.swap y x _).trans (this.cons y)
theorem aHp{α:Type}(next:Nat->Nat):∀ (n k:Nat) (left:List α) (out:Array α),left.length=n->(pickOrder.go next n k left out).toList.Perm (out.toList++left)
 | 0,k,left,out,h=>by
  cases left with
  | nil=>rw[append_nil];exact List.Perm.refl _
  | cons _ _=>cases h
 | n+1,k,left,out,h=>by
  unfold pickOrder.go
  have hl:next k%left.length<left.length:=mod_lt _ (by omega)
  have e:left[next k%left.length]?=some left[next k%left.length]:=List.getElem?_eq_getElem hl
  rw[e]
  dsimp only
  refine(aHp next n (k+1) _ _ (by rw[List.length_eraseIdx_of_lt hl];omega)).trans ?_
  rw[toList_push,List.append_assoc]
  exact(aAc left _ _ e).append_left _
theorem aG2(next:Nat->Nat)(xs:Array α):(pickOrder next xs).toList.Perm xs.toList:=aHp next xs.size 0 xs.toList #[] (Array.length_toList)
section
variable   {A:Around} 
theorem aRk{s:Shared}{src:Source}  {Q:Nat->Shared->Prop} (hn:n≠0) (q:∀ i d,i<n->Q i {s with drawn:=d}):wpAny (model prog w) A (choose src n) Q E s :=
 fun _ _ _=>⟨hn,q _ _ (mod_lt _ (Nat.pos_of_ne_zero hn))⟩
theorem aYc{α:Type}(n:Nat):∀ (xs:List α) (s:Shared) (Q:List α->Shared->Prop),xs.length=n->(∀ ys d,ys.Perm xs->Q ys {s with drawn:=d})->wpAny (model prog w) A (drawOrder n xs) Q E s:=by
 induction n with
 | zero =>
  intro xs s Q h q
  have e:xs=[]:=List.length_eq_zero_iff.mp h
  subst e
  exact wpAny_pure (q [] s.drawn (List.Perm.refl _))
 | succ n ih =>
  intro xs s Q h q
  have ne:xs≠[]:=fun e=>by rw[e]at h;cases h
  obtain⟨x,l,rfl⟩:=List.exists_cons_of_ne_nil ne
  refine(?_:wpAny (model prog w) A (choose .order (x::l).length >>= fun i=>match (x::l)[i]? with | some y=>drawOrder n ((x::l).eraseIdx i) >>= fun r=>pure (y::r) | none=>unsupported "internal:drawOrder") Q E s)
  refine wpAny_bind (aRk (by simp) fun i d hi=>?_)
  have e:(x::l)[i]?=some (x::l)[i]:=List.getElem?_eq_getElem hi
  rw[e]
  refine wpAny_bind (ih _ _ _ (by rw[List.length_eraseIdx_of_lt hi];omega) fun ys d' hy=>wpAny_pure (q _ d' ?_))
  exact(hy.cons _).trans (aAc _ _ _ e)
end
theorem nW:Slot "set_iterator" "__next__" "set_iterator.__next__" :=
 .of (owner := "set_iterator") (n := "__next__") (by rw[typeLookup_type,builtinLookup_eq_fast];kernel_rfl) (by decide +kernel) (by decide +kernel) (by decide +kernel) (.inl (by decide +kernel)) (by rw[isSubtype_type];kernel_rfl)
theorem aBo:entryFor table "set_iterator.__next__" = some Builtin.«set_iterator.__next__» := entryFor_of_tree (by kernel_rfl)
theorem aLf:Manifest.owners.lookup (String.ofList ['r', 'o', 't', 'a', 'r', 'e', 't', 'i', '_', 't', 'e', 's'].reverse)=some Manifest.sig_set_iterator:=by kernel_rfl
theorem aE4(a:Value):argsOk "set_iterator.__next__" ⟨[a],[]⟩:=by
 unfold argsOk
 rw[signature?_of (id := "set_iterator.__next__") (n:=['_', '_', 't', 'x', 'e', 'n', '_', '_']) (o:=['r', 'o', 't', 'a', 'r', 'e', 't', 'i', '_', 't', 'e', 's']) (by kernel_rfl) aLf]
 kernel_rfl
theorem aLg:Slot "set_iterator" "__iter__" "set_iterator.__iter__" :=
 .of (owner := "set_iterator") (n := "__iter__") (by rw[typeLookup_type,builtinLookup_eq_fast];kernel_rfl) (by decide +kernel) (by decide +kernel) (by decide +kernel) (.inl (by decide +kernel)) (by rw[isSubtype_type];kernel_rfl)
theorem aRl:entryFor table "set_iterator.__iter__" = some Builtin.«dict_keyiterator.__iter__» := entryFor_alias (id' := "dict_keyiterator.__iter__") (by kernel_rfl) rfl (by decide +kernel) (by kernel_rfl)
theorem aVc(a:Value):argsOk "set_iterator.__iter__" ⟨[a],[]⟩:=by
 unfold argsOk
 rw[signature?_of (id := "set_iterator.__iter__") (n:=['_', '_', 'r', 'e', 't', 'i', '_', '_']) (o:=['r', 'o', 't', 'a', 'r', 'e', 't', 'i', '_', 't', 'e', 's']) (by kernel_rfl) aLf]
 kernel_rfl
theorem aN6:entryFor table "set.__iter__" = some Builtin.«frozenset.__iter__» := entryFor_alias (id' := "frozenset.__iter__") (by kernel_rfl) rfl (by decide +kernel) (by kernel_rfl)
theorem aYd:typeLookup (.type "set") "__len__" = pure (some (.builtin "set.__len__")):=by rw[typeLookup_type,builtinLookup_eq_fast];kernel_rfl
end Pu
namespace Pu
open PySem PyProof.Rows
def aG3(first:Value)(i:Nat)(a:Addr)(n ep:Nat):Obj:={cls := .type "set_iterator", dict:=none,data := .fields #[first,.int i 0,.ref a,.int n 0,.int ep 0],slots := #[] }
section
variable{prog:Program}{w:World}{A:Around}{E:Value->Shared->Prop}{s:Shared}
theorem aYe{es:Array (Int × Value)}  {t:SetTable} {c':Nat} {v:Value} {Q:Option Value->Shared->Prop}
  (hI:s.heap.get? I=some (aG3 (.int c 0) i a es.size ep)) (x:SetIs b a ns es ep t s.heap)
  (nx:∀ (A:Around) (E:Value->Shared->Prop) (Q:Option (Value × Nat)->Shared->Prop),Q (some (v,c')) s->wpAny (model prog w) A (setNext a c i ep) Q E s)
  (q:∀ h',h'.get? I=some (aG3 (.int c' 0) (i+1) a es.size ep)->Heap.SameBut I s.heap h'->Q (some v) {s with heap:=h'}) :
  wpAny (model prog w) A (pyNext (.ref I)) Q E s:=by
 have hT:s.TypeIs (.ref I) "set_iterator" := ⟨_,hI,rfl⟩
 unfold pyNext
 refine wpAny_bind (wpAny_attempt (wpAny_callSpecial?_slot (name:=Str.ofString "__next__") hT nW (wpAny_call_entry nW hT aBo ?_ (aE4 _))))
 unfold Builtin.«set_iterator.__next__»
 refine wpAny_bind (wpAny_pure ?_)
 refine wpAny_bind (wpAny_fieldsOf hI rfl ?_)
 dsimp only
 refine wpAny_bind (wpAny_setEntries_of x.obj rfl x.fit ?_)
 rw[if_neg (by simp)]
 refine wpAny_bind (nx _ _ _ ?_)
 dsimp only
 refine wpAny_bind (wpAny_setField hI rfl (by simp) ?_)
 have h1:(s.heap.update I (Obj.mapFields (·.setIfInBounds 0 (rawInt c')))).get? I=some (aG3 (.int c' 0) i a es.size ep):=by
  rw[Heap.get?_update_self _ hI (Obj.isFreed_of_fields (Obj.data_mapFields rfl _))]
  rfl
 refine wpAny_bind (wpAny_setField h1 rfl (by simp) ?_)
 refine wpAny_pure ⟨v,rfl,wpAny_pure (q _ ?_ ((Heap.SameBut.update ..).trans (Heap.SameBut.update ..)))⟩
 rw[Heap.get?_update_self _ h1 (Obj.isFreed_of_fields (Obj.data_mapFields rfl _))]
 rfl
theorem aPj{R:Value->Shared->Prop}{Q:Fin->Shared->Prop}(hh:A.handled=none)(r:∀ (h':Heap) (e:Addr),(∀ b o,s.heap.get? b=some o->h'.get? b=some o)->(∃ o,h'.get? e=some o/\o.cls = .type "StopIteration")->R (.ref e) {s with heap:=h'}) :
  wpAny (model prog w) A (newExc (.type "StopIteration") [] >>= fun e=>raiseNew e) Q R s:=by
 refine wpAny_bind ?_
 simp only[newExc,newTuple]
 refine wpAny_bind (wpAny_newObj_type ?_ (by size_fits))
 refine wpAny_bind (m:=firstArgMember _ _) (wpAny_of_eq (a:=Value.none) (by first | rfl | (simp only[firstArgMember];rfl)) (wpAny_newObj_type ?_ (by size_fits)))
 simp only[raiseNew]
 refine wpAny_bind (wpAny_handled ?_)
 rw[hh]
 exact wpAny_bind (wpAny_pure (wpAny_throw (r _ _ (fun b o ho=>Heap.get?_push_of_some _ (Heap.get?_push_of_some _ ho)) ⟨_,Heap.get?_push_size _ rfl,rfl⟩)))
theorem bBx{b:Bool}  {es:Array (Int × Value)}  {t:SetTable}  {Q:Option Value->Shared->Prop} (hh:A.handled=none)
  (hI:s.heap.get? I=some (aG3 (.int c 0) i a es.size ep)) (x:SetIs b a ns es ep t s.heap)
  (nx:∀ (A:Around) (E:Value->Shared->Prop) (Q:Option (Value × Nat)->Shared->Prop),Q none s->wpAny (model prog w) A (setNext a c i ep) Q E s)
  (q:∀ h',(∀ b o,b≠I->s.heap.get? b=some o->h'.get? b=some o)->Q none {s with heap:=h'}) :
  wpAny (model prog w) A (pyNext (.ref I)) Q E s:=by
 have hT:s.TypeIs (.ref I) "set_iterator" := ⟨_,hI,rfl⟩
 unfold pyNext
 refine wpAny_bind (wpAny_attempt (wpAny_callSpecial?_slot (name:=Str.ofString "__next__") hT nW (wpAny_call_entry nW hT aBo ?_ (aE4 _))))
 unfold Builtin.«set_iterator.__next__»
 refine wpAny_bind (wpAny_pure ?_)
 refine wpAny_bind (wpAny_fieldsOf hI rfl ?_)
 dsimp only
 refine wpAny_bind (wpAny_setEntries_of x.obj rfl x.fit ?_)
 rw[if_neg (by simp)]
 refine wpAny_bind (nx _ _ _ ?_)
 dsimp only
 refine wpAny_bind (wpAny_setField hI rfl (by simp) ?_)
 refine aPj hh fun h' e k o=>?_
 obtain⟨o,ho,hc⟩:=o
 refine wpAny_bind (wpAny_isInstance (T := "StopIteration") (b:=true) ⟨o,ho,hc⟩ isSubtype_stop (wpAny_pure (q _ fun b o' hb ho'=>k b o' ?_)))
 rw[Heap.get?_update_other _ _ (Ne.symm hb)]
 exact ho'
theorem aRm{es:Array (Int × Value)}  {t:SetTable} (x:SetIs b a ns es ep t s.heap) (hb:tM w=true) (c i:Nat) {Q:Option (Value × Nat)->Shared->Prop}
  (q:Q (((pickOrder (w.params.setOrder a ep) es)[i]?).map fun e=>(e.2,c)) s):wpAny (model prog w) A (setNext a c i ep) Q E s:=by
 have hb':w.params.followText "set-order" = true:=hb
 unfold setNext
 refine wpAny_bind (wpAny_setState_of x.obj rfl x.fit ?_)
 dsimp only
 unfold setsByText
 refine wpAny_bind (wpAny_bind (wpAny_askSetting (wpAny_pure ?_)))
 refine wpAny_ite_split (fun _=>?_) fun h=>absurd hb' h
 rw[if_neg (by simp)]
 refine wpAny_bind ?_
 unfold setWalk
 refine wpAny_bind (wpAny_setState_of x.obj rfl x.fit ?_)
 dsimp only
 unfold setsByText
 refine wpAny_bind (wpAny_bind (wpAny_askSetting (wpAny_pure ?_)))
 refine wpAny_ite_split (fun _=>?_) fun h=>absurd hb' h
 exact wpAny_bind (wpAny_askSetting (wpAny_pure (wpAny_pure q)))
def uV(t:SetTable):Nat->Nat
 | 0=>0
 | i+1=>t.place.getD i 0+1
theorem below_at{t:SetTable}(ti:TI b t)(i:Nat)(hi:i<=t.place.size):SetTable.below t.place (uV t i)=i:=by
 obtain⟨h1,h2,h3⟩:=aG1 t.place (uV t i) ti.rise
 generalize hm:SetTable.below t.place (uV t i)=m at h1 h2 h3
 rcases Nat.lt_trichotomy m i with h | h | h
 ·exfalso
  have lt:i-1<t.place.size:=by omega
  have e:t.place[i-1]?=some t.place[i-1]:=Array.getElem?_eq_getElem lt
  have:=h2 (i-1) _ (by omega) e
  have se:uV t i=t.place[i-1]+1:=by
   cases i with
   | zero=>omega
   | succ k =>
    show t.place.getD k 0+1=_
    rw[getD_eq_getD_getElem?,Array.getElem?_eq_getElem (by omega)]
    rfl
  omega
 ·exact h
 ·exfalso
  have lt:i<t.place.size:=by omega
  have e:t.place[i]?=some t.place[i]:=Array.getElem?_eq_getElem lt
  have g:=h1 i _ h e
  cases i with
  | zero=>exact absurd g (not_lt_zero _)
  | succ k =>
   have gk:t.place[k]?=some t.place[k]:=Array.getElem?_eq_getElem (by omega)
   have se:uV t (k+1)=t.place[k]+1:=by
    show t.place.getD k 0+1=_
    rw[getD_eq_getD_getElem?,gk]
    rfl
   have r:=List.pairwise_iff_getElem.mp ti.rise k (k+1) (by simp;omega) (by simp;omega) (by omega)
   simp at r
   omega
theorem aVd{es:Array (Int × Value)}  {t:SetTable} (x:SetIs true a ns es ep t s.heap) (hb:tM w=false) (hd:(!t.plain&&decide (es.size>1))=false) (i:Nat) (hi:i<=es.size) {Q:Option (Value × Nat)->Shared->Prop}
  (q:Q ((es[i]?).map fun e=>(e.2,uV t (i+1))) s):wpAny (model prog w) A (setNext a (uV t i) i ep) Q E s:=by
 have hb':w.params.followText "set-order" = false:=hb
 have sz:t.place.size=es.size:=by
  have:=x.fit
  simp only[SetTable.fits,and_eq_true,beq_iff_eq]at this
  exact this.1
 unfold setNext
 refine wpAny_bind (wpAny_setState_of x.obj rfl x.fit ?_)
 dsimp only
 unfold setsByText
 refine wpAny_bind (wpAny_bind (wpAny_askSetting (wpAny_pure ?_)))
 refine wpAny_ite_split (fun h=>absurd (hb'.symm.trans h) Bool.false_ne_true) fun _=>?_
 refine wpAny_ite_split (fun h=>absurd (hd.symm.trans h) Bool.false_ne_true) fun _=>?_
 refine wpAny_bind (m:=(if (!t.led && !es.isEmpty)=true then unsupported "set:maker-not-led" else pure ())) ?_
 rw[if_neg (by rw[x.ti.led];exact Bool.false_ne_true)]
 refine wpAny_pure ?_
 rw[below_at x.ti i (by rw[sz];exact hi)]
 by_cases hlt:i<es.size
 ·rw[Array.getElem?_eq_getElem hlt]at q
  rw[Array.getElem?_eq_getElem hlt,Array.getElem?_eq_getElem (by rw[sz];exact hlt)]
  refine wpAny_pure ?_
  have:uV t (i+1)=t.place[i]+1:=by
   show t.place.getD i 0+1=_
   rw[getD_eq_getD_getElem?,Array.getElem?_eq_getElem (by rw[sz];exact hlt)]
   rfl
  rw[this]at q
  exact q
 ·have hn:es[i]?=none:=Array.getElem?_eq_none (by omega)
  rw[hn]at q ⊢
  exact wpAny_pure q
theorem aYf{es:Array (Int × Value)}  {t:SetTable}  {ys:List Nat} {e:Int × Value} {y:Nat} {Q:Option Value->Shared->Prop}
  (hI:s.heap.get? I=some (aG3 (.ref T) i a es.size ep)) (x:SetIs b a ns es ep t s.heap) (hy:s.heap.get? T=some {cls := .type "tuple", data := .seq (ys.map fun(n:Nat)=>rawInt n).toArray})
  (hi:ys[i]?=some y) (he:es[y]?=some e)
  (q:∀ h',h'.get? I=some (aG3 (.ref T) (i+1) a es.size ep)->Heap.SameBut I s.heap h'->Q (some e.2) {s with heap:=h'}) :
  wpAny (model prog w) A (pyNext (.ref I)) Q E s:=by
 have hT:s.TypeIs (.ref I) "set_iterator" := ⟨_,hI,rfl⟩
 unfold pyNext
 refine wpAny_bind (wpAny_attempt (wpAny_callSpecial?_slot (name:=Str.ofString "__next__") hT nW (wpAny_call_entry nW hT aBo ?_ (aE4 _))))
 unfold Builtin.«set_iterator.__next__»
 refine wpAny_bind (wpAny_pure ?_)
 refine wpAny_bind (wpAny_fieldsOf hI rfl ?_)
 dsimp only
 refine wpAny_bind (wpAny_setEntries_of x.obj rfl x.fit ?_)
 rw[if_neg (by simp)]
 refine wpAny_bind (wpAny_seqItems hy rfl ?_)
 dsimp only
 have ei:((ys.map fun(n:Nat)=>rawInt n).toArray)[(i:Int).toNat]?=some (.int y 0):=by
  rw[toNat_natCast,List.getElem?_toArray,List.getElem?_map,hi]
  rfl
 rw[ei]
 dsimp only
 unfold setNextDrawn
 refine wpAny_bind (wpAny_bind (wpAny_setState_of x.obj rfl x.fit ?_))
 dsimp only
 rw[if_neg (by simp),toNat_natCast,he]
 refine wpAny_pure ?_
 refine wpAny_bind (wpAny_setField hI rfl (by simp) ?_)
 refine wpAny_pure ⟨e.2,rfl,wpAny_pure (q _ ?_ (Heap.SameBut.update ..))⟩
 rw[Heap.get?_update_self _ hI (Obj.isFreed_of_fields (Obj.data_mapFields rfl _))]
 rfl
theorem bBy{b:Bool}  {es:Array (Int × Value)}  {t:SetTable}  {ys:List Nat} {Q:Option Value->Shared->Prop} (hh:A.handled=none)
  (hI:s.heap.get? I=some (aG3 (.ref T) i a es.size ep)) (x:SetIs b a ns es ep t s.heap) (hy:s.heap.get? T=some {cls := .type "tuple", data := .seq (ys.map fun(n:Nat)=>rawInt n).toArray})
  (hi:ys[i]?=none)
  (q:∀ h',(∀ b o,b≠I->s.heap.get? b=some o->h'.get? b=some o)->Q none {s with heap:=h'}) :
  wpAny (model prog w) A (pyNext (.ref I)) Q E s:=by
 have hT:s.TypeIs (.ref I) "set_iterator" := ⟨_,hI,rfl⟩
 unfold pyNext
 refine wpAny_bind (wpAny_attempt (wpAny_callSpecial?_slot (name:=Str.ofString "__next__") hT nW (wpAny_call_entry nW hT aBo ?_ (aE4 _))))
 unfold Builtin.«set_iterator.__next__»
 refine wpAny_bind (wpAny_pure ?_)
 refine wpAny_bind (wpAny_fieldsOf hI rfl ?_)
 dsimp only
 refine wpAny_bind (wpAny_setEntries_of x.obj rfl x.fit ?_)
 rw[if_neg (by simp)]
 refine wpAny_bind (wpAny_seqItems hy rfl ?_)
 dsimp only
 have ei:((ys.map fun(n:Nat)=>rawInt n).toArray)[(i:Int).toNat]?=none:=by
  rw[toNat_natCast,List.getElem?_toArray,List.getElem?_map,hi]
  rfl
 rw[ei]
 dsimp only
 refine wpAny_bind (wpAny_setField hI rfl (by simp) ?_)
 have h1:(s.heap.update I (Obj.mapFields (·.setIfInBounds 0 (rawInt 0)))).get? I=some (aG3 (.int 0 0) i a es.size ep):=by
  rw[Heap.get?_update_self _ hI (Obj.isFreed_of_fields (Obj.data_mapFields rfl _))]
  rfl
 refine wpAny_bind (wpAny_setField h1 rfl (by simp) ?_)
 refine aPj hh fun h' e k o=>?_
 obtain⟨o,ho,hc⟩:=o
 refine wpAny_bind (wpAny_isInstance (T := "StopIteration") (b:=true) ⟨o,ho,hc⟩ isSubtype_stop (wpAny_pure (q _ fun b o' hb ho'=>k b o' ?_)))
 rw[Heap.get?_update_other _ _ (Ne.symm hb),Heap.get?_update_other _ _ (Ne.symm hb)]
 exact ho'
end
end Pu
namespace Pu
open PySem PyProof.Rows
section
variable{prog:Program}{w:World}{A:Around}{E:Value->Shared->Prop}{s:Shared}
theorem aPk{o:Obj}  (hI:s.heap.get? I=some o) (hc:o.cls = .type "set_iterator") (q:Q (.ref I) s):wpAny (model prog w) A (pyIter (.ref I)) Q E s:=by
 have hT:s.TypeIs (.ref I) "set_iterator" := ⟨o,hI,hc⟩
 refine wpAny_pyIter_slot hT aLg (wpAny_call_entry aLg hT aRl (?_:wpAny _ _ (ret (.ref I)) _ _ s) (aVc _))
 exact wpAny_pure ⟨_,rfl, "set_iterator", _,hT,nW.lookup,q⟩
theorem aLh(hh:A.handled=none)  (ne:a≠I)   {es:Array (Int × Value)}  {t:SetTable} (c:Nat->Nat) (vs:List Value)
  (nx:∀ (s:Shared) (i:Nat),i<=vs.length->SetIs b a ns es ep t s.heap->∀ (A:Around) (E:Value->Shared->Prop) (Q:Option (Value × Nat)->Shared->Prop),Q ((vs[i]?).map fun v=>(v,c (i+1))) s->wpAny (model prog w) A (setNext a (c i) i ep) Q E s) :
  Walks prog w A I [I,a] [I] vs.length (fun i v=>vs[i]?=some v) (fun i h=>h.get? I=some (aG3 (.int (c i) 0) i a es.size ep)/\SetIs b a ns es ep t h) where
 sub:=fun b hb=>by rw[List.mem_singleton.mp hb];exact mem_cons_self
 frame:=fun _ _ _ st k=>⟨k I mem_cons_self _ st.1,st.2.keep fun o ho=>k a (mem_cons_of_mem _ mem_cons_self) o ho⟩
 item:=fun i s Q E hi st q=>by
  have e:vs[i]?=some vs[i]:=List.getElem?_eq_getElem hi
  refine aYe (v:=vs[i]) (c':=c (i+1)) st.1 st.2 (fun A E Q' h=>nx s i (Nat.le_of_lt hi) st.2 A E Q' (by rw[e];exact h)) fun h' hI sb=>?_
  have k:∀ b o,b≠I->s.heap.get? b=some o->h'.get? b=some o:=fun b o hb ho=>by rw[sb.2 b hb];exact ho
  exact q _ h' s.toks e ⟨hI,st.2.keep fun o ho=>k a o ne ho⟩ fun b o hb ho=>k b o (fun h=>hb (List.mem_singleton.mpr h)) ho
 done:=fun s Q E st q =>
  bBx hh st.1 st.2 (fun A E Q' h=>nx s _ (Nat.le_refl _) st.2 A E Q' (by rw[List.getElem?_eq_none (Nat.le_refl _)];exact h)) fun h' k=>q h' s.toks fun b o hb ho=>k b o (fun h=>hb (List.mem_singleton.mpr h)) ho
 self:=fun _ _ _ _ st q=>aPk st.1 rfl q
theorem aYg(hh:A.handled=none)  (ne:a≠I) (nT:T≠I)   {es:Array (Int × Value)}  {t:SetTable} (ys:List Nat) (lt:∀ y∈ys,y<es.size) :
  Walks prog w A I [I,a,T] [I] (ys.map fun y=>(es.getD y (0,.none)).2).length (fun i v=>(ys.map fun y=>(es.getD y (0,.none)).2)[i]?=some v)
   (fun i h=>h.get? I=some (aG3 (.ref T) i a es.size ep)/\SetIs b a ns es ep t h/\h.get? T=some {cls := .type "tuple", data := .seq (ys.map fun(n:Nat)=>rawInt n).toArray}) where
 sub:=fun b hb=>by rw[List.mem_singleton.mp hb];exact mem_cons_self
 frame:=fun _ _ _ st k=>⟨k I mem_cons_self _ st.1,st.2.1.keep fun o ho=>k a (mem_cons_of_mem _ mem_cons_self) o ho,k T (mem_cons_of_mem _ (mem_cons_of_mem _ mem_cons_self)) _ st.2.2⟩
 item:=fun i s Q E hi st q=>by
  rw[length_map]at hi
  have e:ys[i]?=some ys[i]:=List.getElem?_eq_getElem hi
  have l:=lt _ (List.getElem_mem hi)
  have eg:es[ys[i]]?=some es[ys[i]]:=Array.getElem?_eq_getElem l
  refine aYf (e:=es[ys[i]]) st.1 st.2.1 st.2.2 e eg fun h' hI sb=>?_
  have k:∀ b o,b≠I->s.heap.get? b=some o->h'.get? b=some o:=fun b o hb ho=>by rw[sb.2 b hb];exact ho
  refine q _ h' s.toks ?_ ⟨hI,st.2.1.keep fun o ho=>k a o ne ho,k T _ nT st.2.2⟩ fun b o hb ho=>k b o (fun h=>hb (List.mem_singleton.mpr h)) ho
  rw[List.getElem?_map,e]
  simp[getD_eq_getD_getElem?,eg]
 done:=fun s Q E st q=>by
  rw[length_map]at st
  exact bBy hh st.1 st.2.1 st.2.2 (List.getElem?_eq_none (Nat.le_refl _)) fun h' k=>q h' s.toks fun b o hb ho=>k b o (fun h=>hb (List.mem_singleton.mpr h)) ho
 self:=fun _ _ _ _ st q=>aPk st.1 rfl q
def Nums(vs:List Value)(ns:List Int):Prop:=(vs.map numOf).Perm ns/\∀ v∈vs,∃ n t,v = .int n t
theorem SetIs.nums_of{es:Array (Int × Value)}  {t:SetTable}  (x:SetIs b a ns es ep t h) {l:List (Int × Value)} (p:l.Perm es.toList):Nums (l.map (·.2)) ns:=by
 refine⟨?_,fun v hv=>?_⟩
 ·rw[List.map_map]
  exact(p.map fun e=>numOf e.2).trans x.perm
 ·obtain⟨e,he,rfl⟩:=List.mem_map.mp hv
  obtain⟨n,tk,rfl⟩:=x.nums e (p.mem_iff.mp he)
  exact⟨n,tk,rfl⟩
theorem aYh(hh:A.handled=none)    (x:gO (!tM w) a ns s.heap) (few:ns.length<scanBound)
  (q:∀ (I:Addr) (h':Heap) (d:_) (vs:List Value) (fp:List Addr) (St:Nat->Heap->Prop),Nums vs ns->(∀ b o,s.heap.get? b=some o->h'.get? b=some o)->s.heap.objs.size<=I->(∀ f∈fp,f=a\/s.heap.objs.size<=f) ->
   Walks prog w A I fp [I] vs.length (fun i v=>vs[i]?=some v) St->St 0 h'->Q (.ref I) {s with heap:=h',drawn:=d}) :
  wpAny (model prog w) A (pyIter (.ref a)) Q E s:=by
 obtain⟨es,ep,t,x⟩:=x
 have hT:s.TypeIs (.ref a) "set" := ⟨_,x.obj,rfl⟩
 have la:a<s.heap.objs.size:=Heap.lt_size x.obj
 refine wpAny_pyIter_slot hT F.slot_set_iter (wpAny_call_entry F.slot_set_iter hT aN6 ?_ (F.args_set_iter_1 _))
 unfold Builtin.«frozenset.__iter__» Builtin.Frozenset.slot0
 refine wpAny_bind (wpAny_bind (wpAny_pure (?_:wpAny _ _ (pure a) _ _ s)))
 refine wpAny_pure ?_
 unfold Builtin.Frozenset.sizeOf
 refine wpAny_bind (wpAny_bind (wpAny_setEntries_of x.obj rfl x.fit (wpAny_pure ?_)))
 unfold setDrawn
 refine wpAny_bind (wpAny_bind (wpAny_setState_of x.obj rfl x.fit ?_))
 dsimp only
 unfold setsByText
 refine wpAny_bind (wpAny_bind (wpAny_askSetting (wpAny_pure (wpAny_pure ?_))))
 have fin:∀ (s':Shared) (first:Value),SetIs (!tM w) a ns es ep t s'.heap->Q (.ref s'.heap.objs.size) {s' with heap:=s'.heap.push (aG3 first 0 a es.size ep)}->wpAny (model prog w) A.in1 (setEpoch a >>= fun e=>newFields "set_iterator" [first,rawInt 0,.ref a,rawInt es.size,rawInt e] >>= fun r=>ret r)
   (fun fin s'=>∃ r,fin = .done (.ret r)/\∃ T' r',s'.TypeIs r T'/\typeLookup (.type T') "__next__" = pure (some r')/\Q r s') E s':=fun s' first y q'=>by
  refine wpAny_bind (wpAny_setEpoch_of y.obj rfl y.fit ?_)
  unfold newFields
  refine wpAny_bind (wpAny_newObj_type (wpAny_pure ⟨_,rfl, "set_iterator", _,⟨_,Heap.get?_push_size _ rfl,rfl⟩,nW.lookup,?_⟩))
  exact q'
 by_cases hd:(!tM w&&(!t.plain&&decide (es.size>1)))=true
 ·refine wpAny_ite_split (fun _=>?_) fun h=>absurd hd h
  refine wpAny_bind (aYc es.size (List.range es.size) s _ length_range fun ys d py=>?_)
  have lt:∀ y∈ys,y<es.size:=fun y hy=>List.mem_range.mp (py.mem_iff.mp hy)
  have sz:ys.length<=sizeLine:=fits_of_scanBound (by rw[py.length_eq,length_range,x.size];exact few)
  simp only[newTuple]
  refine wpAny_bind (wpAny_newObj_type ?_ (by show (List.map _ ys).toArray.size<=sizeLine;rw[List.size_toArray,length_map];exact sz))
  refine fin _ _ (x.keep fun o ho=>Heap.get?_push_of_some _ ho) ?_
  refine q _ _ d (ys.map fun y=>(es.getD y (0,.none)).2) _ _ ?_ (fun b o ho=>Heap.get?_push_of_some _ (Heap.get?_push_of_some _ ho)) ?_ (fun f hf=>?_)
   (aYg hh (T:=s.heap.objs.size) ?_ ?_ ys lt) ⟨Heap.get?_push_size _ rfl,x.keep fun o ho=>Heap.get?_push_of_some _ (Heap.get?_push_of_some _ ho),Heap.get?_push_of_some _ (Heap.get?_push_size _ rfl)⟩
  ·have e:(ys.map fun y=>(es.getD y (0,.none)).2)=(ys.map fun y=>es.getD y (0,.none)).map (·.2):=by rw[List.map_map];rfl
   rw[e]
   refine x.nums_of ((py.map _).trans (List.Perm.of_eq ?_))
   refine List.ext_getElem? fun i=>?_
   by_cases hi:i<es.size
   ·simp[List.getElem?_map,List.getElem?_range hi,getD_eq_getD_getElem?,hi]
   ·simp[hi]
  ·rw[Heap.size_push];exact le_succ _
  ·rcases List.mem_cons.mp hf with h | h
   ·exact .inr (by rw[h,Heap.size_push];exact le_succ _)
   ·rcases List.mem_cons.mp h with h | h
    ·exact .inl h
    ·exact .inr (Nat.le_of_eq (List.mem_singleton.mp h).symm)
  ·rw[Heap.size_push];exact Nat.ne_of_lt (Nat.lt_succ_of_lt la)
  ·rw[Heap.size_push];exact Nat.ne_of_lt (Nat.lt_succ_self _)
 ·refine wpAny_ite_split (fun h=>absurd h hd) fun _=>wpAny_bind (wpAny_pure ?_)
  refine fin s (.int 0 0) x ?_
  by_cases hb:tM w=true
  ·refine q s.heap.objs.size _ s.drawn ((pickOrder (w.params.setOrder a ep) es).toList.map (·.2)) _ _ (x.nums_of (aG2 _ es)) (fun b o ho=>Heap.get?_push_of_some _ ho) (Nat.le_refl _) (fun f hf=>?_)
    (aLh hh (Nat.ne_of_lt la) (fun _=>0) _ fun s i hi y A E Q' h=>aRm y hb 0 i ?_) ⟨Heap.get?_push_size _ rfl,x.keep fun o ho=>Heap.get?_push_of_some _ ho⟩
   ·rcases List.mem_cons.mp hf with h | h
    ·exact .inr (Nat.le_of_eq h.symm)
    ·exact .inl (List.mem_singleton.mp h)
   ·rw[List.getElem?_map,Option.map_map,getElem?_toList]at h
    exact h
  ·have hb0:tM w=false:=by revert hb;cases tM w<;>intro h<;>first | rfl | exact absurd rfl h
   have hd0:(!t.plain&&decide (es.size>1))=false:=by
    rw[hb0]at hd
    revert hd
    cases (!t.plain&&decide (es.size>1)) <;> intro h<;>first | rfl | exact absurd rfl h
   have x':SetIs true a ns es ep t s.heap:=by rw[hb0]at x;exact x
   refine q s.heap.objs.size _ s.drawn (es.toList.map (·.2)) _ _ (x.nums_of (List.Perm.refl _)) (fun b o ho=>Heap.get?_push_of_some _ ho) (Nat.le_refl _) (fun f hf=>?_)
    (aLh hh (b:=true) (t:=t) (ns:=ns) (Nat.ne_of_lt la) (uV t) _ fun s i hi y A E Q' h=>aVd y hb0 hd0 i (by simpa using hi) ?_) ⟨Heap.get?_push_size _ rfl,x'.keep fun o ho=>Heap.get?_push_of_some _ ho⟩
   ·rcases List.mem_cons.mp hf with h | h
    ·exact .inr (Nat.le_of_eq h.symm)
    ·exact .inl (List.mem_singleton.mp h)
   ·rw[List.getElem?_map,Option.map_map,getElem?_toList]at h
    exact h
end
end Pu
namespace Pu
open PySem PyProof.Rows
section
variable   {A:Around}  
theorem aVe{r:Addr}{Q:Bool->Shared->Prop}(hT:s.TypeIs (.ref r) "set")(q:Q false s):wpAny (model prog w) A (Builtin.List.listLengthHint (.ref r)) Q E s:=by
 unfold Builtin.List.listLengthHint
 refine wpAny_bind (wpAny_specialOf hT aYd ?_)
 generalize hid:("set.__len__" : String)=id0
 wp_delta
 rw[show splitId id0=some ("set", "__len__") from by subst hid;decide +kernel]
 subst hid
 refine wpAny_bind (wpAny_isInstance (T := "set") (b:=true) hT sub_set_self ?_)
 refine wpAny_ite_split (fun h=>absurd h (by decide)) fun _=>wpAny_ite_split (fun _=>?_) fun h=>absurd (by decide +kernel) h
 exact wpAny_bind (wpAny_typeOf hT (wpAny_pure q))
theorem gO.typeIs(x:gO b a ns s.heap):s.TypeIs (.ref a) "set" := let ⟨_,_,_,y⟩:=x;⟨_,y.obj,rfl⟩
theorem Nums.len{vs:List Value}  (h:Nums vs ns):vs.length=ns.length:=by
 have:=h.1.length_eq
 simpa using this
theorem bBz{S:Addr}  {res:Value} {R:Result->Shared->Prop} (hh:A.handled=none) (x:gO (!tM w) a ns s.heap) (few:ns.length<scanBound) (hS:s.heap.get? S=some {cls := .type "list", data := .seq #[] 0}) (ne:S≠a)
  (r:∀ (h':Heap) (d:_) (tk:Nat) (vs:List Value) (c:Nat),Nums vs ns->(∀ b o,b≠S->s.heap.get? b=some o->h'.get? b=some o)->h'.get? S=some {cls := .type "list", dict:=none,data := .seq vs.toArray c,slots := #[] }->R (.ok (.ret res)) {s with heap:=h',drawn:=d,toks:=tk}) :
  wpAny (model prog w) A.in1 (Builtin.List.listExtendWith (.ref S) (.ref a) res) (fun fin s'=>match fin with | .done f=>R (.ok f) s' | .again c'=>c'.quiet=true/\codeAny (model prog w) A c' R s') (fun e s'=>R (.error e) s') s:=by
 unfold Builtin.List.listExtendWith
 refine wpAny_bind (wpAny_typeOf (T := "set") x.typeIs ?_)
 rw[if_neg (by simp[Builtin.List.listSameRef,ne])]
 refine wpAny_bind (aYh (A:=A.in1) hh x few fun I h' d vs fp St nv k lI lf W st=>?_)
 refine wpAny_bind (wpAny_holding (aVe (gO.typeIs (s:={s with heap:=h',drawn:=d}) (x.keep fun o ho=>k a o ho)) ?_))
 have lS:S<s.heap.objs.size:=Heap.lt_size hS
 have nS:S ∉ fp:=fun h=>by
  rcases lf S h with e | e
  ·exact ne e
  ·exact absurd lS (Nat.not_lt.mpr e)
 have go:∀ (h1:Heap) (c₁:Nat),St 0 h1->(∀ b o,b≠S->s.heap.get? b=some o->h1.get? b=some o)->h1.get? S=some {cls := .type "list", data := .seq #[] c₁} ->
   codeAny (model prog w) A (.builtin "list.extend.loop" ⟨[.ref S,.ref I,res],[]⟩) R {s with heap:=h1,drawn:=d}:=fun h1 c₁ st1 k1 hS1=>by
  refine codeAny_extend_loopS W.toS (fits_of_scanBound (by rw[nv.len];exact few)) S nS res vs.length 0 _ #[] c₁ rfl (zero_le _) st1 hS1 (ItemsOf.nil _) fun s' acc c' mv hS' it=>?_
  have ev:acc=vs.toArray:=by
   apply ext'
   refine List.ext_getElem? fun i=>?_
   rw[getElem?_toList,List.toList_toArray]
   cases ha:acc[i]? with
   | some v=>exact(it.2 i v ha).symm
   | none=>exact(List.getElem?_eq_none (by rw[<-it.1];exact Array.getElem?_eq_none_iff.mp ha)).symm
  subst ev
  rw[Moved.eq_with mv]
  refine r s'.heap d s'.toks vs c' nv (fun b o hb ho=>mv.heap b o (fun hm=>?_) (k1 b o hb ho)) hS'
  rcases List.mem_cons.mp hm with h | h
  ·exact hb h
  ·exact absurd (Heap.lt_size ho) (by rw[List.mem_singleton.mp h];exact Nat.not_lt.mpr lI)
 refine wpAny_ite_split (fun _=>?_) fun _=>wpAny_pure ⟨plainId_quiet PySem.F.plain_extend_loop _,go h' 0 st (fun b o _ ho=>k b o ho) (k S _ hS)⟩
 refine wpAny_bind (wpAny_rule (wpAny_bind (?_:wpAny _ _ (updateSeq S (·.push .none) >>= fun _=>updateSeq S (·.pop)) _ _ _)))
 have o1:=k S _ hS
 have o2:=Heap.get?_update_self (Obj.mapSeq (·.push Value.none)) o1 rfl
 have o3:=Heap.get?_update_self (Obj.mapSeq (·.pop)) o2 rfl
 have oth:∀ b o,b≠S->h'.get? b=some o->((h'.update S (Obj.mapSeq (·.push Value.none))).update S (Obj.mapSeq (·.pop))).get? b=some o:=fun b o hb ho=>by
  rw[Heap.get?_update_other _ _ (Ne.symm hb),Heap.get?_update_other _ _ (Ne.symm hb)]
  exact ho
 refine wpAny_bind (wpAny_updateSeq o1 rfl (wpAny_updateSeq (hz:=by seq_fits) o2 rfl ?_))
 exact wpAny_pure ⟨plainId_quiet PySem.F.plain_extend_loop _,go _ _ (W.frame 0 _ _ st fun b hb o ho=>oth b o (fun e=>nS (e ▸ hb)) ho) (fun b o hb ho=>oth b o hb (k b o ho)) o3⟩
theorem aYi{R:List Value->Shared->Prop}(hh:A.handled=none)(x:gO (!tM w) a ns s.heap)(few:ns.length<scanBound)
  (r:∀ (h':Heap) (d:_) (tk:Nat) (vs:List Value),Nums vs ns->(∀ b o,s.heap.get? b=some o->h'.get? b=some o)->R vs {s with heap:=h',drawn:=d,toks:=tk}) :
  wpAny (model prog w) A (collect (.ref a)) R E s:=by
 unfold collect
 refine wpAny_bind (wpAny_runValue (codeAny_builtin entry_proto_collect' ?_))
 rw[Around.under_plainId PySem.F.plain_proto_collect _]
 refine(?_:wpAny _ A.in1 (newList [] >>= fun l=>again (.builtin "list.__iadd__" ⟨[l,.ref a],[]⟩)) _ _ s)
 refine wpAny_bind (wpAny_newObj_type (wpAny_pure ⟨plainId_quiet PySem.F.plain_list_iadd _,codeAny_builtin entry_list_iadd' ?_⟩))
 rw[Around.under_plainId PySem.F.plain_list_iadd _]
 have la:a<s.heap.objs.size:=let ⟨_,_,_,y⟩:=x;Heap.lt_size y.obj
 have hS:(s.heap.push {cls := .type "list", data := .seq ([]:List Value).toArray}).get? s.heap.objs.size=some {cls := .type "list", data := .seq #[] 0}:=Heap.get?_push_size _ rfl
 have key:=bBz (A:=A) (s:={s with heap:=s.heap.push {cls := .type "list", data := .seq ([]:List Value).toArray} }) (res := .ref s.heap.objs.size) (prog:=prog)
  (R:=fun(q:Result) (s':Shared)=>q = .ok (.ret (.ref s.heap.objs.size))/\∃ (h':Heap) (d:_) (tk:Nat) (vs:List Value) (c:Nat),s'={s with heap:=h',drawn:=d,toks:=tk}/\Nums vs ns/\(∀ b o,s.heap.get? b=some o->h'.get? b=some o)/\h'.get? s.heap.objs.size=some {cls := .type "list", dict:=none,data := .seq vs.toArray c,slots := #[] })
  hh (x.keep fun o ho=>Heap.get?_push_of_some _ ho) few hS (Nat.ne_of_gt la)
  fun h' d tk vs c nv k o=>⟨rfl,h',d,tk,vs,c,rfl,nv,fun b o' ho=>k b o' (Nat.ne_of_lt (Heap.lt_size ho)) (Heap.get?_push_of_some _ ho),o⟩
 have last:∀ (h':Heap) (d:_) (tk:Nat) (vs:List Value) (c:Nat),Nums vs ns->(∀ b o,s.heap.get? b=some o->h'.get? b=some o)->h'.get? s.heap.objs.size=some {cls := .type "list", dict:=none,data := .seq vs.toArray c,slots := #[] } ->
   wpAny (model prog w) A (load s.heap.objs.size >>= fun o=>match o.data with | .seq xs _=>pure xs.toList | _=>unsupported "internal:collect") R E {s with heap:=h',drawn:=d,toks:=tk}:=fun h' d tk vs c nv k o=>by
  refine wpAny_bind (wpAny_load o ?_)
  exact wpAny_pure (r h' d tk vs nv k)
 refine wpAny_mono key (fun fin s' y=>?_) fun e s' y=>nomatch y.1
 cases fin with
 | done f =>
  obtain⟨e,h',d,tk,vs,c,rfl,nv,k,o⟩:=y
  cases e
  exact last h' d tk vs c nv k o
 | again c₁ =>
  refine⟨y.1,codeAny_mono y.2 fun q s₂ z=>?_⟩
  obtain⟨rfl,h',d,tk,vs,c,rfl,nv,k,o⟩:=z
  exact last h' d tk vs c nv k o
theorem ints_of:∀ {vs:List Value},(∀ v∈vs,∃ n t,v=Value.int n t)->IntsAre vs (vs.map Pu.numOf)
 | [],_=>IntsAre.nil
 | v::vs,h=>by
  obtain⟨n,t,rfl⟩:=h v mem_cons_self
  exact IntsAre.cons _ _ (ints_of fun v hv=>h v (mem_cons_of_mem _ hv))
theorem aRn(hh:A.handled=none)(x:gO (!tM w) a ns s.heap)(few:ns.length<64)
  (q:∀ (D:Addr) (h':Heap) (d:_) (tk:Nat) (out:Array Value) (ns':List Int) (c:Nat),IntsAre out.toList ns'->ns'.Perm ns->ns'.Pairwise (· <= ·)->(∀ b o,s.heap.get? b=some o->h'.get? b=some o)->(∀ b o,s.heap.get? b=some o->b<D)->h'.get? D=some (seqObj "list" out c)->Q (.ref D) {s with heap:=h',drawn:=d,toks:=tk}) :
  wpAny (model prog w) A (call (.builtin "sorted") [.ref a]) Q E s:=by
 refine Calls.call_function_entry kind_sorted plain_sorted entry_sorted (args_sorted1 _) ?_
 unfold Builtin.«sorted»
 have fb:ns.length<scanBound:=by unfold scanBound;omega
 refine wpAny_bind (m:=checkCount "sorted" 1 1 _) (wpAny_pure (wpAny_bind (aYi (A:=A.in1) hh x fb fun h' d tk vs nv k=>?_)))
 have l64:vs.length<64:=by rw[nv.len];exact few
 refine wpAny_bind (wpAny_newList ?_ (by rw[sizeLine_eq];omega))
 have o:(h'.push (seqObj "list" vs.toArray 0)).get? h'.objs.size=some (seqObj "list" vs.toArray 0):=Heap.get?_push_size _ rfl
 refine wpAny_bind (wpAny_holding (wpAny_call_entry slot_list_sort ⟨_,o,rfl⟩ entry_list_sort (list_sort_tree o (ints_of nv.2) l64 fun out ns' e1 e2 e3=>⟨_,rfl,?_⟩) (args_list_sort _)))
 obtain⟨c,oc⟩:=sortedHeap_at (out:=out) o
 refine wpAny_pure ⟨_,rfl,q _ _ d tk out ns' c e1 (e2.trans nv.1) e3 (fun b ob hb=>?_) (fun b ob hb=>Heap.lt_size (k b ob hb)) oc⟩
 have l:=Heap.lt_size (k b ob hb)
 rw[sortedHeap_old (Nat.ne_of_lt l) (by rw[Heap.size_push];exact Nat.lt_succ_of_lt l)]
 exact Heap.get?_push_of_some _ (k b ob hb)
end
end Pu
namespace Pu
open PySem PySem.Spec PyProof.Rows L2
theorem aHq(ns:List Int):∀ k,k<=ns.length->aJ6 (fun i=>ns.getD i 0) k=wM (ns.take k)
 | 0,_=>rfl
 | k+1,h=>by
  have e:ns.take (k+1)=ns.take k++[ns.getD k 0]:=by
   rw[List.take_add_one,getD_eq_getElem?_getD,List.getElem?_eq_getElem (show k<ns.length by omega)]
   rfl
  rw[e]
  show aJ4 (aJ6 _ k) _=_
  rw[aHq ns k (by omega)]
  unfold wM
  rw[List.foldl_append]
  rfl
theorem bC0{l m:List Int}(h:m.Perm l)(hw:m.Pairwise (· <= ·)):m=aDl l:=List.Perm.eq_of_pairwise (le:=(· <= ·)) (fun a b _ _ h1 h2=>Int.le_antisymm h1 h2) hw (aSz l) (h.trans (wO l).symm)
theorem aLi:∀ {us:List Value} {ns:List Int},IntsAre us ns->Vals (ns.map V.int) us
 | _,_,.nil => .nil
 | _,_,.cons n t h => .cons ⟨t,rfl⟩ (aLi h)
theorem aVf(x:jN P w H h a o):∃ u,h.get? a=some u:=by
 cases o with
 | lst xs=>obtain⟨_,_,_,_,e⟩:=x;exact⟨_,e⟩
 | tup xs=>obtain⟨_,_,_,o,e,_⟩:=x;exact⟨_,e⟩
 | dK kvs=>obtain⟨_,_,_,_,o,_,_,e,_⟩:=x;exact⟨_,e⟩
 | dT kvs=>obtain⟨_,_,_,_,o,_,_,e,_⟩:=x;exact⟨_,e⟩
 | set S n=>obtain⟨o,_,_,_,e,_⟩:=x;exact⟨_,e⟩
 | ins C dx fs=>obtain⟨_,_,_,e,_⟩:=x;exact⟨_,e⟩
 | own y=>obtain⟨_,e⟩:=x;exact⟨_,e⟩
 | xd fs=>obtain⟨_,⟨_,_,_,e,_⟩,_⟩:=x;exact⟨_,e⟩
 | rng lo hi=>obtain⟨_,_,_,e⟩:=x;exact⟨_,e⟩
 | frz ob u=>obtain⟨e,_⟩:=x;exact⟨_,e⟩
 | tbl ps=>exact⟨_,(show h.get? a=some _ from x)⟩
 | met f y=>exact⟨_,(show h.get? a=some _ from x)⟩
 | ext φ=>obtain⟨_,⟨_,e⟩,_⟩:=x;exact⟨_,e⟩
section
variable   {a:Expr}  
theorem aRo(hc:X.calm=true):nZ X (.type "set") (fun xs H Q=>∃ p ns,xs=[.ref p]/\SqL X.K H p (ns.map V.int)/\ns.length<=4000/\∀ l,H l=none->Q (.ref l) (upd H l (.ext (gO (!tM X.w) l (wM ns))))):=by
 intro pins s σ H xs us Q I r h
 obtain⟨p,ns,rfl,hq,hl,q⟩:=h
 obtain⟨u,rfl,rx⟩:=vals1 r
 cases rx
 obtain⟨its,r',pl,hz⟩:=I.list hq
 have hlen:=r'.length
 rw[length_map]at hlen
 refine aYb (ns:=ns) (I.ok.hd hc) pl.isList (by simpa using aL6 r') (by rw[List.size_toArray,<-hlen];show ns.length+1<4096;omega) fun h' tk hS hk=>?_
 rw[show its.toArray.size=ns.length by rw[List.size_toArray,hlen],aHq ns _ (Nat.le_refl _),take_length]at hS
 obtain⟨es,ep,t,hIs⟩:=id hS
 exact⟨.ref s.heap.objs.size,_,I.laid (t':=tk) (o := .ext (gO (!tM X.w) s.heap.objs.size (wM ns))) hk (Nat.le_refl _) ⟨hS,⟨_,hIs.obj⟩,fun h1 h2 x k=>x.keep k⟩,rfl,q _ (I.hok.fresh (Nat.le_refl _))⟩
theorem aRp(hc:X.calm=true):nZ X (.builtin "sorted") (fun xs H Q=>∃ p ns,xs=[.ref p]/\H p=some (.ext (gO (!tM X.w) p ns))/\ns.length<64/\∀ l,H l=none->Q (.ref l) (upd H l (.lst ((aDl ns).map V.int)))):=by
 intro pins s σ H xs us Q I r h
 obtain⟨p,ns,rfl,hq,hn,q⟩:=h
 obtain⟨u,rfl,rx⟩:=vals1 r
 cases rx
 obtain⟨hS,_,_⟩:=I.hok _ _ hq
 refine aRn (I.ok.hd hc) hS hn fun D h' d tk out ns' c ho hp hw hk hD hd=>?_
 obtain rfl:=bC0 hp hw
 have hDn:H D=none:=by
  cases hH:H D with
  | none=>rfl
  | some o =>
   obtain⟨u,e⟩:=aVf (I.hok D o hH)
   exact absurd (hD D u e) (Nat.lt_irrefl _)
 have sm:bA H (upd H D (.lst ((aDl ns).map V.int))):=cZ hDn
 have hl:(aDl ns).length=ns.length:=(wO ns).length_eq
 refine⟨.ref D,upd H D (.lst ((aDl ns).map V.int)),I.step (g':=s.gens) (d':=d) (t':=tk) (ch:=[]) (fun _ z=>nomatch z) (fun b o _ _ _ e _=>hk b o e) (fun b o _ _ _ e _=>⟨o.slots,hk b o e⟩) (fun b o _ e n=>by rw[bQ (Nat.ne_of_lt (hD b o e))];exact n) (fun b o _ e=>⟨o,hk b o e⟩) (fun b xs e=>sm _ _ e) (fun b o u e=>sm _ _ e) (fun b ps e=>⟨#[],by rw[sm _ _ e];simp⟩) (fun m ⟨o,es,ep,ho,r⟩=>⟨o,es,ep,hk _ o ho,r⟩) (fun b o e=>?_) I.bare,rfl,q _ hDn⟩
 by_cases hb:b=D
 ·subst hb
  rw[cH]at e
  cases e
  exact⟨by rw[length_map,hl,sizeLine_eq];omega,out.toList,c,aLi ho,by simpa using hd⟩
 ·rw[bQ hb]at e
  exact(I.hok b _ e).stay (fun b v _ q=>hk b v q) (fun b q=>sm _ _ q) fun b xs q=>sm _ _ q
theorem aLj{K:Frag}{H:Hp}:∀ (l:List Int),bD K H (l.map D.int) (l.map V.int)
 | [] => .nil
 | _::l => .cons (aU.mpr rfl) (aLj l)
theorem aVg(hm:X.mg "sorted" = none)(hm2:X.mg "set" = none)(hc:X.calm=true)(ha:PE X a (tP X.K B f))(hg:Gl X "sorted" := by rfl)(hg2:Gl X "set" := by rfl)(hs:starEach [.Call (.Name "set" p1) [a] [] p2] X.env=(false,eval (.Call (.Name "set" p1) [a] [] p2) X.env)::starEach [] X.env:=by rfl)
  (hs2:starEach [a] X.env=(false,eval a X.env)::starEach [] X.env:=by rfl):PE X (.Call (.Name "sorted" p0) [.Call (.Name "set" p1) [a] [] p2] [] pos) (tI X.K B (e1 aIa f)):=by
 refine cQ (rZ (aRp hc) hg hm PyProof.Rows.boot_sorted (eQ (aC2 (aRo hc) hg2 hm2 PyProof.Rows.boot_set (eQ ha jP hs2) (he:=hs2)) jP hs) (he:=hs)) ?_
 rintro σ H Q ⟨A,st,d,rs,hd,q⟩
 obtain⟨x,hx,h2⟩:=R.ok_of hd
 cases x<;>first | (cases h2;done) | skip
 rename_i xs
 obtain⟨l,hl,h3⟩:=R.ok_of h2
 obtain⟨c,h4⟩:=aK h3
 cases h4
 refine⟨A,st,_,rs,hx,fun v H1 s1 r1=>?_⟩
 obtain⟨p,vs,e,h6,r6⟩:=r1.lst
 rw[wK hl]at r6
 rw[aHm r6]at h6
 exact⟨p,l,by rw[e],h6,c.1,fun n hn=>⟨n,_,rfl,cH,c.2,fun m hm'=>q _ _ (s1.trans ((cZ hn).trans (cZ hm'))) (jC (rs.own.mono (s1.trans (cZ hn))) hm' (aLj _))⟩⟩
end
section
variable    {iter c:Expr}  {t:Tg}  
theorem aVh(is:List Nat)(hsub:aFq is t)(S:CScope X scope is)(hi:L2.PI X tg iter (tIt X.K B it))(hg:∀ (B:List Addr) (C:Addr) (s₀:Shared) (H₀:Hp) (fp:List Addr),PG (cM X scope C s₀ H₀ fp) tg (tG X.K B t))
  (ht:∀ (B:List Addr) (C:Addr) (s₀:Shared) (H₀:Hp) (fp:List Addr),PT (cM X scope C s₀ H₀ fp) c (tT X.K B u))
  (he:∀ (B:List Addr) (C:Addr) (s₀:Shared) (H₀:Hp) (fp:List Addr),PE (cM X scope C s₀ H₀ fp) elt (tI X.K B f)) (hc:X.calm=true) (hs:∀ x,foldedSetIterable iter X.env x=pure x:=by intro _;rfl) :
  PE X (.ListComp elt [⟨tg,iter,[c],0⟩] scope pos) (tF X.K B (cR is t it u f)):=by
 intro pins s σ H Q I h
 obtain⟨A,st,d,rs,hd,q⟩:=h
 obtain⟨xs,hx,h2⟩:=R.ok_of hd
 obtain⟨hl,h3⟩:=aK h2
 obtain⟨ys,hy,h4⟩:=R.ok_of h3
 cases h4
 rw[eval_ListComp]
 refine tE (use:=none) (Qf:=EP X pins σ Q) (Q:=Q) (tt:=tTx X.K u) (te:=tIx X.K f) (rest:=fun env it p=>isTrue c env (eval c env) >>= fun ok=>if ok=true then (eval elt env >>= fun x=>call (.builtin "list.append") [p,x] >>= fun _=>again (.compLoop (.ListComp elt [⟨tg,iter,[c],0⟩] scope pos) 0 it p env)) else again (.compLoop (.ListComp elt [⟨tg,iter,[c],0⟩] scope pos) 0 it p env)) S hc hi (fun C s₀ H₀ fp=>aUo fun B=>hg B C s₀ H₀ fp) (fun _ _ _=>pX)
  (fun C s₀ H₀ fp it p s Q h=>bBj (Y:=cM X scope C s₀ H₀ fp) h) (fun C s₀ H₀ fp it p τ H s pins vs N Q I h q=>aUp (Y:=cM X scope C s₀ H₀ fp) rfl (aUn fun B=>he B C s₀ H₀ fp) (bBk fun B=>ht B C s₀ H₀ fp) τ H s pins vs N Q I h (fun _ Q Q' m h=>xU Q Q' m h) q) hs I
  (aKv hsub (fun τ H Q h=>h) rs hx hl hy fun p vs H1 H' s1 hp s2 hv r=>?_) fun C p H5 s5 m5 s3 H3 fp τ hC I3 hfp I5 hn5 q5=>⟨m5,hn5,fun h' hs'=>⟨.ref p,H5,aDz I3 hfp hC I5 hs',rfl,q5⟩⟩
 obtain⟨G,g1,g2,g3,g4⟩:=bH6 s1 hp s2 hv r
 have:=q p vs G g1 g2 g4
 rw[g3]at this
 exact this
end
section
variable   {o x:Expr} {h:Ex} 
theorem bC1{K:Frag}   {t:Bool} {ks:List D}  (rx:mR K A H (.dct t ks ds) v):∃ a,v = .ref a/\IsD H a:=by
 rcases rx with h | ⟨a,kk,o,ds',vs,e,e2,h,ko,r⟩
 ·obtain⟨a,vs,e,q,r⟩:=aBg.mp h
  rcases q with ⟨_,kvs,q1,_,_⟩ | ⟨_,kvs,q1,_,_⟩
  ·exact⟨a,e,.inl ⟨kvs,.inl (bH _ _ _ _ q1)⟩⟩
  ·exact⟨a,e,.inr ⟨kvs,.inl (bH _ _ _ _ q1)⟩⟩
 ·cases kk<;>cases e
  rcases ko with ⟨_,kvs,q1,_⟩ | ⟨_,kvs,q1,_⟩
  ·subst q1;exact⟨a,e2,.inl ⟨kvs,.inl h⟩⟩
  ·subst q1;exact⟨a,e2,.inr ⟨kvs,.inl h⟩⟩
theorem aYj{K:Frag}   {k z r:D} {u y:V}  (hv:v = .ref a) (rx:mR K A H d v) (ry:Rep K (hide A H) k u) (rz:Rep K (hide A H) z y) (hd:aEj d k z = .ok r):∃ ov,yS H a u ov/\Rep K (hide A H) r (ov.getD y):=by
 unfold aEj at hd
 split at hd
 ·obtain⟨hk,h2⟩:=aK hd
  obtain⟨a',ov,e3,g,hs,g2⟩:=aDx rx (ry.mono (bH _ _)) hk
  rw[hv]at e3
  cases e3
  refine⟨ov,g,?_⟩
  split at h2
  ·obtain⟨w,rfl,rw'⟩:=g2 r (xR h2)
   exact rw'
  ·rename_i hn
   cases h2
   have:ov=none:=by
    cases ov with
    | none=>rfl
    | some w=>exact absurd (hs.symm.trans rfl) hn
   rw[this]
   exact rz
 ·cases hd
theorem aVi{k z r:D}(hd:aEj d k z = .ok r):∃ t ks vs,d = .dct t ks vs:=by
 unfold aEj at hd
 split at hd
 ·exact⟨_,_,_,rfl⟩
 ·cases hd
theorem bC2(hu:X.A.units+64<cLine)(ho:PE X o (tP X.K B f))(he:PE X e (tI X.K B g))(m1:attributeBase o "get" X.env (eval o X.env)=eval o X.env:=by rfl)
  (m2:((backTo cpos (starEach [e] X.env)).all (fun x => !x.1)&&(backToKw cpos (keywordEach [] X.env)).all (fun x=>x.1.isSome)
   && decide (([e]:List Expr).length+([]:List Keyword).length+(if ([]:List Keyword).isEmpty then 0 else 1)<30))=true:=by rfl)
  (m3:(apos.endLine==cpos.line)=true:=by rfl) (m4:backTo cpos (starEach [e] X.env)=[(false,eval e X.env)]:=by rfl):PE X (.Call (.Attribute o "get" apos) [e] [] cpos) (tI X.K B (aT0 f g (eC .non))):=by
 refine cQ (aSk (by omega) ho he ⟨m1,m2,m3,m4⟩) ?_
 rintro σ H Q ⟨A,st,r,rs,hr,q⟩
 obtain⟨d,hd,h2⟩:=R.ok_of hr
 obtain⟨k,hk,h3⟩:=R.ok_of h2
 have h4:aEj d k .non = .ok r:=h3
 refine⟨A,st,d,rs,hd,fun v H1 s1 rx=>?_⟩
 obtain⟨t,ks,vs,rfl⟩:=aVi h4
 obtain⟨a,rfl,hD⟩:=bC1 rx
 refine⟨a,rfl,hD,A,st,k,rs.mono s1,hk,fun u H2 s2 ry=>?_⟩
 obtain⟨ov,g1,g2⟩:=aYj rfl (rx.mono s2) ry (cC.mpr rfl) h4
 exact⟨ov,g1,q _ H2 (s1.trans s2) g2⟩
end
section
variable   {a b:Expr}  
theorem bC3(ha:PE X a (tP X.K B f))(hb:PE X b (tP X.K B g)):PE X (.BinOp a .BitXor b pos) (tI X.K B (e2 aT1 f g)) :=
 aFe aZv (qQ (g:=fun i j => .int (Builtin.bitXor i j)) (fun _ _ _=>aU.mpr rfl) fun x y d e=>by
  unfold aT1 at e
  split at e
  ·obtain⟨c,e⟩:=aK e;cases e;exact⟨_,_,rfl,rfl,by unfold Builtin.bitXor;rw[aL9 c.1 c.2,bitAnd_nn c.1 c.2]⟩
  ·cases e) ha hb
end
end Pu
set_option maxHeartbeats 4000000
namespace Pu
open PySem PySem.Spec PyProof.Rows L2
def top(i:Nat):Stmt:=PySem.Challenge.pw_looprank_k25_dead_and_sure.main.body.getD i (.Pass ⟨0,0,0,0⟩)
def inCls(s:Stmt)(j:Nat):Stmt:=match s with
 | .ClassDef _ _ _ b _ _ _ _ _ _ _=>b.getD j (.Pass ⟨0,0,0,0⟩)
 | _ => .Pass ⟨0,0,0,0⟩
abbrev xV:Stmt:=top 45
abbrev aAd:Stmt:=top 46
abbrev pZ:Stmt:=top 47
abbrev uW:Stmt:=top 49
abbrev qC:Stmt:=top 50
abbrev uX:Stmt:=top 51
abbrev aAe:Stmt:=top 52
abbrev aAf:Stmt:=top 25
abbrev xW:Stmt:=top 22
abbrev aAg:Stmt:=top 26
abbrev aG4:Stmt:=top 36
abbrev aCn:Stmt:=top 24
abbrev uY:Stmt:=top 29
abbrev uZ:Stmt:=top 31
abbrev rW:Stmt:=top 32
abbrev vA:Stmt:=top 33
abbrev aCo:Stmt:=top 34
abbrev cX:Stmt:=inCls (top 20) 3
abbrev aAh:Stmt:=top 37
abbrev vB:Stmt:=top 48
abbrev xX:Stmt:=top 27
abbrev aG5:Stmt:=top 28
abbrev oR:Stmt:=top 38
abbrev aAi:Stmt:=top 35
abbrev qD:Stmt:=top 39
abbrev oU:Stmt:=top 40
abbrev aAj:Stmt:=top 30
abbrev mC:Stmt:=top 41
abbrev vC:Stmt:=top 42
abbrev vD:Stmt:=top 43
abbrev aCp:Stmt:=top 9
abbrev vG:Stmt:=top 10
abbrev aAk:Stmt:=top 14
abbrev aAl:Stmt:=top 15
abbrev dI:Stmt:=inCls (top 20) 1
abbrev gP:Stmt:=inCls (top 20) 6
abbrev gQ:Stmt:=inCls (top 20) 7
abbrev nM:Stmt:=top 16
abbrev aG6:Stmt:=top 17
abbrev xY:Stmt:=top 18
abbrev xZ:Stmt:=top 19
abbrev dZ:Stmt:=inCls (top 20) 0
abbrev aBp:Stmt:=top 53
theorem aBq:FnScope ["_law_script", "_law_k"] ["_law_script", "_law_k"] (aG xV):=⟨rfl,rfl,rfl,by decide +kernel,rfl,by decide +kernel,by decide +kernel⟩
theorem aD8:FnScope ["_law_cell_here", "_law_k", "_law_many", "_law_number"] ["_law_cell_here", "_law_k", "_law_many"] (aG aAd):=⟨rfl,rfl,rfl,by decide +kernel,rfl,by decide +kernel,by decide +kernel⟩
theorem vQ:FnScope ["_law_script", "_law_at", "_law_most", "_law_cell_here", "_law_rooms", "_law_letters", "_law_factor", "_law_steps", "_law_ranks", "_law_room", "_law_one", "_law_row", "_law_rank", "_law_k"] ["_law_script", "_law_at", "_law_most"] (aG pZ):=⟨rfl,rfl,rfl,by decide +kernel,rfl,by decide +kernel,by decide +kernel⟩
theorem zG:FnScope ["_law_steps", "_law_bits", "_law_room", "_law_found", "_law_at", "_law_goal"] ["_law_steps", "_law_bits", "_law_room"] (aG uW):=⟨rfl,rfl,rfl,by decide +kernel,rfl,by decide +kernel,by decide +kernel⟩
theorem vR:FnScope ["_law_steps", "_law_bits", "_law_rooms", "_law_room"] ["_law_steps", "_law_bits"] (aG qC):=⟨rfl,rfl,rfl,by decide +kernel,rfl,by decide +kernel,by decide +kernel⟩
theorem zH:FnScope ["_law_steps", "_law_bits"] ["_law_steps"] (aG uX):=⟨rfl,rfl,rfl,by decide +kernel,rfl,by decide +kernel,by decide +kernel⟩
theorem aD9:FnScope ["_law_ranks", "_law_bits", "_law_room"] ["_law_ranks", "_law_bits"] (aG aAe):=⟨rfl,rfl,rfl,by decide +kernel,rfl,by decide +kernel,by decide +kernel⟩
theorem aDa:FnScope ["bits", "room"] ["bits", "room"] (aG aAf):=⟨rfl,rfl,rfl,by decide +kernel,rfl,by decide +kernel,by decide +kernel⟩
theorem aBr:FnScope ["steps", "start", "allowed", "ways", "met", "place", "here", "letter", "room"] ["steps", "start", "allowed"] (aG xW):=⟨rfl,rfl,rfl,by decide +kernel,rfl,by decide +kernel,by decide +kernel⟩
theorem aDb:FnScope ["bits", "room"] ["bits"] (aG aAg):=⟨rfl,rfl,rfl,by decide +kernel,rfl,by decide +kernel,by decide +kernel⟩
theorem aHr:FnScope ["machine", "allowed", "room", "goal"] ["machine", "allowed", "room", "goal"] (aG aG4):=⟨rfl,rfl,rfl,by decide +kernel,rfl,by decide +kernel,by decide +kernel⟩
theorem aG7:FnScope ["rooms", "bits", "room"] ["rooms"] (aG aCn):=⟨rfl,rfl,rfl,by decide +kernel,rfl,by decide +kernel,by decide +kernel⟩
theorem zJ:FnScope ["steps", "allowed", "rooms", "seen", "room", "middle"] ["steps", "allowed"] (aG uY):=⟨rfl,rfl,rfl,by decide +kernel,rfl,by decide +kernel,by decide +kernel⟩
theorem zK:FnScope ["steps", "part", "rooms"] ["steps", "part"] (aG uZ):=⟨rfl,rfl,rfl,by decide +kernel,rfl,by decide +kernel,by decide +kernel⟩
theorem yC:FnScope ["steps", "allowed", "seen", "parts", "room", "part", "other"] ["steps", "allowed"] (aG rW):=⟨rfl,rfl,rfl,by decide +kernel,rfl,by decide +kernel,by decide +kernel⟩
theorem zL:FnScope ["machine", "allowed"] ["machine", "allowed"] (aG vA):=⟨rfl,rfl,rfl,by decide +kernel,rfl,by decide +kernel,by decide +kernel⟩
theorem aG8:FnScope ["machine", "bits"] ["machine", "bits"] (aG aCo):=⟨rfl,rfl,rfl,by decide +kernel,rfl,by decide +kernel,by decide +kernel⟩
theorem mF:FnScope ["self", "room", "text", "rooms", "letter"] ["self", "room", "text"] (aG cX):=⟨rfl,rfl,rfl,by decide +kernel,rfl,by decide +kernel,by decide +kernel⟩
theorem aDc:FnScope ["machine", "bits", "room", "text", "here", "goal"] ["machine", "bits", "room"] (aG aAh):=⟨rfl,rfl,rfl,by decide +kernel,rfl,by decide +kernel,by decide +kernel⟩
theorem zM:FnScope ["_law_found"] ["_law_found"] (aG vB):=⟨rfl,rfl,rfl,by decide +kernel,rfl,by decide +kernel,by decide +kernel⟩
theorem aBs:FnScope ["machine"] ["machine"] (aG xX):=⟨rfl,rfl,rfl,by decide +kernel,rfl,by decide +kernel,by decide +kernel⟩
theorem aHs:FnScope ["sets", "bits", "rooms"] ["sets"] (aG aG5):=⟨rfl,rfl,rfl,by decide +kernel,rfl,by decide +kernel,by decide +kernel⟩
theorem tQ:FnScope ["machine", "allowed", "wanted", "ranks", "rank", "room"] ["machine", "allowed", "wanted"] (aG oR):=⟨rfl,rfl,rfl,by decide +kernel,rfl,by decide +kernel,by decide +kernel⟩
theorem aDd:FnScope ["machine", "bits", "room"] ["machine", "bits"] (aG aAi):=⟨rfl,rfl,rfl,by decide +kernel,rfl,by decide +kernel,by decide +kernel⟩
theorem vU:FnScope ["machine", "allowed", "rank", "low", "part", "room"] ["machine", "allowed", "rank"] (aG qD):=⟨rfl,rfl,rfl,by decide +kernel,rfl,by decide +kernel,by decide +kernel⟩
theorem tR:FnScope ["machine", "allowed", "wanted", "found", "rank"] ["machine", "allowed", "wanted"] (aG oU):=⟨rfl,rfl,rfl,by decide +kernel,rfl,by decide +kernel,by decide +kernel⟩
theorem aDe:FnScope ["machine", "goals", "seen", "room"] ["machine", "goals"] (aG aAj):=⟨rfl,rfl,rfl,by decide +kernel,rfl,by decide +kernel,by decide +kernel⟩
theorem qF:FnScope ["machine", "wanted", "everywhere", "goals"] ["machine", "wanted"] (aG mC):=⟨rfl,rfl,rfl,by decide +kernel,rfl,by decide +kernel,by decide +kernel⟩
theorem zN:FnScope ["machine"] ["machine"] (aG vC):=⟨rfl,rfl,rfl,by decide +kernel,rfl,by decide +kernel,by decide +kernel⟩
theorem zO:FnScope ["machine"] ["machine"] (aG vD):=⟨rfl,rfl,rfl,by decide +kernel,rfl,by decide +kernel,by decide +kernel⟩
theorem aG9:FnScope ["thing", "many"] ["thing", "many"] (aG aCp):=⟨rfl,rfl,rfl,by decide +kernel,rfl,by decide +kernel,by decide +kernel⟩
theorem zP:FnScope ["thing", "many"] ["thing", "many"] (aG vG):=⟨rfl,rfl,rfl,by decide +kernel,rfl,by decide +kernel,by decide +kernel⟩
theorem aDf:FnScope ["thing"] ["thing"] (aG aAk):=⟨rfl,rfl,rfl,by decide +kernel,rfl,by decide +kernel,by decide +kernel⟩
theorem aDg:FnScope ["thing", "limit"] ["thing", "limit"] (aG aAl):=⟨rfl,rfl,rfl,by decide +kernel,rfl,by decide +kernel,by decide +kernel⟩
theorem mU:FnScope ["self", "thing"] ["self", "thing"] (aG dI):=⟨rfl,rfl,rfl,by decide +kernel,rfl,by decide +kernel,by decide +kernel⟩
theorem vV:FnScope ["self", "word", "room", "rooms", "begun", "ahead"] ["self", "word", "room"] (aG gP):=⟨rfl,rfl,rfl,by decide +kernel,rfl,by decide +kernel,by decide +kernel⟩
theorem vW:FnScope ["self", "word", "room", "ring", "place"] ["self", "word", "room"] (aG gQ):=⟨rfl,rfl,rfl,by decide +kernel,rfl,by decide +kernel,by decide +kernel⟩
theorem qW:FnScope ["thing", "most"] ["thing", "most"] (aG nM):=⟨rfl,rfl,rfl,by decide +kernel,rfl,by decide +kernel,by decide +kernel⟩
theorem aHt:FnScope ["thing", "letters", "rooms", "room"] ["thing", "letters", "rooms"] (aG aG6):=⟨rfl,rfl,rfl,by decide +kernel,rfl,by decide +kernel,by decide +kernel⟩
theorem aBt:FnScope ["thing", "row"] ["thing"] (aG xY):=⟨rfl,rfl,rfl,by decide +kernel,rfl,by decide +kernel,by decide +kernel⟩
theorem aBu:FnScope ["thing", "rooms", "rank"] ["thing", "rooms"] (aG xZ):=⟨rfl,rfl,rfl,by decide +kernel,rfl,by decide +kernel,by decide +kernel⟩
theorem oY:FnScope ["self", "steps", "ranks", "row"] ["self", "steps", "ranks"] (aG dZ):=⟨rfl,rfl,rfl,by decide +kernel,rfl,by decide +kernel,by decide +kernel⟩
theorem aVj:FnScope ["_law_script", "_law_many", "_law_machine_here", "_law_loops_here", "_law_dead", "_law_sure", "_law_room", "_law_steps", "_law_ranks", "_law_seen", "_law_some", "_law_goods", "_law_bits", "_law_goal", "_law_front", "_law_found", "_law_row", "_law_one"] ["_law_script"] (aG aBp):=⟨rfl,rfl,rfl,by decide +kernel,rfl,by decide +kernel,by decide +kernel⟩
section
variable{P:Program}{w:World}{K:Frag}{mg:Str->Option Value}{base:Heap}{fa:Addr}{fd:FuncData}{dV:Value}
variable(cD:mg "len" = none)
include cD in
theorem aLk(F:FunD K "_law_cell" "_law_cell" xV dV fa fd):FnOk P w K mg base CX0 1 fa fd ["_law_script", "_law_k"] (spI K 2 fQ):=by
 refine eF (k:=0) F aBq 2 2 aCw rfl rfl fun cdv A outer s H E B hr=>?_
 have nd:=aBq.nd
 refine aY ?_ ?_
 ·exact qH (dD aNj aE3 (toP (aA 1)) (toP (gM cD (toP (aA 0)))) (cF _)) (bM (cN (fM hr.units (toP (aA 0)) (toP (aA 1))))) (jV)
 refine aY ?_ ?_
 ·exact qH (dD (eX hr.units) eY (toP (aA 0)) (toP (aFg (aQ))) (cF _)) (bM (cN (uU (toP (aO)) (toP (aA 1))))) (jV)
 exact bM (cN (lV (toP (aMs (toP (fM hr.units (toP (aA 0)) (toP (qR (toP (aA 1)) (toP (gM cD (toP (aA 0)))))))) (toP (lV (toP (aA 1)) (toP (aO)))))) (toP (uU (toP (aO)) (toP (aA 1))))))
theorem aN7(F:FunD K "_law_mix" "_law_mix" aAd dV fa fd):FnOk P w K mg base CX0 1 fa fd ["_law_cell_here", "_law_k", "_law_many"] (spI K 3 cA):=by
 refine eF (k:=0) F aD8 3 4 zU rfl rfl fun cdv A outer s H E B hr=>?_
 have nd:=aD8.nd
 refine aY ?_ ?_
 ·exact cU 3 (qR (toP (uU (toP (lV (toP (qR (toP (aA 0)) (toP (aO)))) (toP (uU (toP (aO)) (toP (aA 1)))))) (toP (aO)))) (toP (aO))) nd
 refine aY ?_ ?_
 ·exact cU 3 (qR (toP (uU (toP (qR (toP (uU (toP (aA 3)) (toP (aA 3)))) (toP (aO)))) (toP (aO)))) (toP (aO))) nd
 exact bM (cN (qR (toP (qR (toP (uU (toP (aA 3)) (toP (aA 3)))) (toP (aO)))) (toP (aA 2))))
variable(fZ:DefOk P w K mg base "_law_cell" 1 2 fQ)
variable(cV:DefOk P w K mg base "_law_mix" 1 3 cA)
variable(cP:mg "range" = none)
include fZ cV cP in
theorem aGa(F:FunD K "_law_machine" "_law_machine" pZ dV fa fd):FnOk P w K mg base CX0 2 fa fd ["_law_script", "_law_at", "_law_most"] (spI K 3 iW):=by
 refine eF (k:=1) F vQ 3 14 wQ rfl rfl fun cdv A outer s H E B hr=>?_
 have nd:=vQ.nd
 refine aY ?_ ?_
 ·exact cU 3 (aL fZ hr (by decide) (aD (aA 0) (aD (aA 1) (aQ)))) nd
 refine aY ?_ ?_
 ·exact cU 4 (lV (toP (aO)) (toP (aL cV hr (by decide) (aD (aA 3) (aD (aO) (aD (fM hr.units (toP (aFg (aD (aO) (aD (aO) (aD (aO) (aD (aA 2) (aQ))))))) (toP (aL cV hr (by decide) (aD (aA 3) (aD (aO) (aD (aO) (aQ))))))) (aQ))))))) nd
 refine aY ?_ ?_
 ·exact cU 5 (lV (toP (aO)) (toP (aL cV hr (by decide) (aD (aA 3) (aD (aO) (aD (aO) (aQ))))))) nd
 refine aY ?_ ?_
 ·exact cU 6 (fM hr.units (toP (aFg (aD (aO) (aD (aO) (aD (aO) (aD (lV (toP (aO)) (toP (uU (toP (aO)) (toP (qR (toP (aL fZ hr (by decide) (aD (aA 0) (aD (lV (toP (aA 1)) (toP (aO))) (aQ))))) (toP (bEn (toP (aO)) (toP (aO))))))))) (aQ))))))) (toP (aL cV hr (by decide) (aD (aA 3) (aD (aO) (aD (aO) (aQ))))))) nd
 refine aY ?_ ?_
 ·exact xT 7 (aFi (aQ)) nd
 refine aY ?_ ?_
 ·exact xT 8 (aFi (aQ)) nd
 refine aY ?_ ?_
 ·exact qU (aBm cP (toP (aA 4))) (cL 9 nd) (aY (by exact cU 10 (aL fZ hr (by decide) (aD (aA 0) (aD (lV (toP (lV (toP (aA 1)) (toP (aO)))) (toP (aA 9))) (aQ)))) nd) (by exact aY (by exact aPg 11 [13] iU (.of rfl) (aBm cP (toP (aA 5))) (fun _ _ _ _ _=>cL 13 nd) (fun _ _ _ _ _=>aL cV hr (by decide) (aD (aA 10) (aD (lV (toP (aO)) (toP (aA 13))) (aD (aA 4) (aQ))))) rfl nd) (by exact aY (by exact cU 12 (aL cV hr (by decide) (aD (aA 10) (aD (aO) (aD (aO) (aQ))))) nd) (by exact aY (by exact qH (dD (eX hr.units) eY (toP (aL cV hr (by decide) (aD (aA 3) (aD (aO) (aD (aO) (aQ)))))) (toP (aO)) (cF _)) (aY (by exact aPg 11 [13] iU (.of rfl) (aBm cP (toP (aA 5))) (fun _ _ _ _ _=>cL 13 nd) (fun _ _ _ _ _=>qR (toP (aMs (toP (aA 10)) (toP (fM hr.units (toP (aFg (aD (aO) (aD (aO) (aD (aO) (aQ)))))) (toP (aA 13)))))) (toP (aA 4))) rfl nd) (by exact bM (cU 12 (qR (toP (aMs (toP (aA 10)) (toP (aO)))) (toP (aO))) nd))) (bM (qH (PW.pt (aOx (dD (eX hr.units) eY (toP (aL cV hr (by decide) (aD (aA 3) (aD (aO) (aD (aO) (aQ)))))) (toP (aO)) (cF _)) (aIr (dD aS5 aMt (toP (aL cV hr (by decide) (aD (aA 10) (aD (aO) (aD (aO) (aQ)))))) (toP (aO)) (cF _))))) (bM (bEx 11 (toP (aL cV hr (by decide) (aD (aA 10) (aD (aO) (aD (aA 5) (aQ)))))) (qR (toP (lV (toP (aA 9)) (toP (aO)))) (toP (aA 4))))) (jV)))) (by exact aY (by exact aMv [11] (aHi 7 (aA 11))) (by exact bM (aHi 8 (uU (toP (aA 12)) (toP (aA 6)))))))))) PassesOwn.never rfl
 exact bM (aMv [7,8] (cN (aUg (aD (aA 7) (aD (aA 8) (aQ))))))
include cD in
theorem aJ7(F:FunD K "_law_ahead" "_law_ahead" uW dV fa fd):FnOk P w K mg base CX0 1 fa fd ["_law_steps", "_law_bits", "_law_room"] (spI K 3 fU):=by
 refine eF (k:=0) F zG 3 6 uC rfl rfl fun cdv A outer s H E B hr=>?_
 have nd:=zG.nd
 refine aY ?_ ?_
 ·exact xT 3 (aFi (aD (aA 2) (aQ))) nd
 refine aY ?_ ?_
 ·exact cU 4 (aO) nd
 refine aY ?_ ?_
 ·exact aIu 100000 (dD aNj aE3 (toP (aA 4)) (toP (gM cD (gH 3))) (cF _)) (aY (by exact qU (nG (fM hr.units (toP (aA 0)) (toP (fM hr.units (gH 3) (toP (aA 4)))))) (cL 5 nd) (bM (qH (PW.pt (aOx (dD (eX hr.units) eY (toP (aAb (toP (aLa (toP (aA 1)) (toP (aA 5)))) (toP (aO)))) (toP (aO)) (cF _)) (aIr (dD (tH hr.units) tK (toP (aA 5)) (gH 3) rfl)))) (bM (aHi 3 (aA 5))) (jV))) PassesOwn.never rfl) (by exact bM (cU 4 (lV (toP (aA 4)) (toP (aO))) nd))) PassesOwn.never
 exact bM (aMv [3] (cN (aA 3)))
variable(iD:DefOk P w K mg base "_law_ahead" 1 3 fU)
include cD cP iD in
theorem aGb(F:FunD K "_law_is_loop" "_law_is_loop" qC dV fa fd):FnOk P w K mg base CX0 2 fa fd ["_law_steps", "_law_bits"] (spI K 2 lJ):=by
 refine eF (k:=1) F vR 2 4 wU rfl rfl fun cdv A outer s H E B hr=>?_
 have nd:=vR.nd
 refine aY ?_ ?_
 ·exact aFv 2  [3] iU (.of rfl) (aBm cP (toP (gM cD (toP (aA 0))))) (fun _ _ _ _ _=>cL 3 nd) (fun _ _ _ _ _=>dD (eX hr.units) eY (toP (aAb (toP (aLa (toP (aA 1)) (toP (aA 3)))) (toP (aO)))) (toP (aO)) (cF _)) (fun _ _ _ _ _=>aA 3) rfl nd
 refine aY ?_ ?_
 ·exact qU (nG (aA 2)) (cL 3 nd) (bM (qH (dD (aCj hr.units) aCk (toP (gM cD (toP (aL iD hr (by decide) (aD (aA 0) (aD (aA 1) (aD (aA 3) (aQ)))))))) (toP (gM cD (toP (aA 2)))) (cF _)) (bM (cN (aIo))) (jV))) PassesOwn.never rfl
 exact bM (cN (bEp (gK aS5 aMt (toP (gM cD (toP (aA 2)))) (toP (aO)) (cF _)) (aZ2 (tD (gK (eX hr.units) eY (toP (gM cD (toP (aA 2)))) (toP (aO)) (cF _)) (rQ (gK (aIy hr.units) aIz (toP (fM hr.units (toP (aA 2)) (toP (aO)))) (toP (fM hr.units (toP (aA 0)) (toP (fM hr.units (toP (aA 2)) (toP (aO)))))) rfl))))))
variable(mG:DefOk P w K mg base "_law_is_loop" 2 2 lJ)
include cD cP mG in
theorem aJ8(F:FunD K "_law_loops" "_law_loops" uX dV fa fd):FnOk P w K mg base CX0 3 fa fd ["_law_steps"] (spI K 1 pA):=by
 refine eF (k:=2) F zH 1 2 uD rfl rfl fun cdv A outer s H E B hr=>?_
 have nd:=zH.nd
 exact bM (cN (oG [1] iU (.of rfl) (bEs cP (toP (aO)) (toP (aD7 (toP (aO)) (toP (gM cD (toP (aA 0))))))) (fun _ _ _ _ _=>cL 1 nd) (fun _ _ _ _ _=>iC (aL mG hr (by decide) (aD (aA 0) (aD (aA 1) (aQ))))) (fun _ _ _ _ _=>aA 1) rfl))
variable(zQ:mg "max" = none)
include cD cP zQ in
theorem aN8(F:FunD K "_law_top" "_law_top" aAe dV fa fd):FnOk P w K mg base CX0 1 fa fd ["_law_ranks", "_law_bits"] (spI K 2 uG):=by
 refine eF (k:=0) F aD9 2 3 zV rfl rfl fun cdv A outer s H E B hr=>?_
 have nd:=aD9.nd
 exact bM (cN (aUx zQ rfl (toP (oG [2] iU (.of rfl) (aBm cP (toP (gM cD (toP (aA 0))))) (fun _ _ _ _ _=>cL 2 nd) (fun _ _ _ _ _=>dD (eX hr.units) eY (toP (aAb (toP (aLa (toP (aA 1)) (toP (aA 2)))) (toP (aO)))) (toP (aO)) (cF _)) (fun _ _ _ _ _=>fM hr.units (toP (aA 0)) (toP (aA 2))) rfl))))
theorem aN9(F:FunD K "has_room" "has_room" aAf dV fa fd):FnOk P w K mg base CX0 1 fa fd ["bits", "room"] (spI K 2 gY):=by
 refine eF (k:=0) F aDa 2 2 zW rfl rfl fun cdv A outer s H E B hr=>?_
 have nd:=aDa.nd
 exact bM (cN (gK (eX hr.units) eY (toP (aAb (toP (aLa (toP (aA 0)) (toP (aA 1)))) (toP (aO)))) (toP (aO)) (cF _)))
variable(aPl:mg "zip" = none)
variable{t_LETTERS:Tok}(g_LETTERS:mg "LETTERS" = some (.str "abc" t_LETTERS))
include cD aPl g_LETTERS in
theorem aLl(F:FunD K "ways_from" "ways_from" xW dV fa fd):FnOk P w K mg base CX0 1 fa fd ["steps", "start", "allowed"] (spI K 3 lA):=by
 refine eF (k:=0) F aBr 3 9 wV rfl rfl fun cdv A outer s H E B hr=>?_
 have nd:=aBr.nd
 refine aY ?_ ?_
 ·exact aY0 3 (aA 1) (aBi []) nd
 refine aY ?_ ?_
 ·exact xT 4 (aFi (aD (aA 1) (aQ))) nd
 refine aY ?_ ?_
 ·exact cU 5 (aO) nd
 refine aY ?_ ?_
 ·exact aIu 100000 (dD aNj aE3 (toP (aA 5)) (toP (gM cD (gH 4))) (cF _)) (aY (by exact cU 6 (fM hr.units (gH 4) (toP (aA 5))) nd) (by exact aY (by exact qU (bBr aPl (aIp [97,98,99] g_LETTERS) (fM hr.units (toP (aA 0)) (toP (aA 6)))) (aZ4 rfl (aDy 7 (aDy 8 (aUi) nd) nd)) (bM (qH (PW.pt (aOx (dD (aIy hr.units) aIz (toP (aA 8)) (toP (aA 2)) rfl) (aIr (dD (tH hr.units) tK (toP (aA 8)) (gH 3) rfl)))) (aY (by exact aJ0 hr.units 3 (aA 8) (lV (toP (fM hr.units (gH 3) (toP (aA 6)))) (toP (aA 7)))) (by exact bM (aHi 4 (aA 8)))) (jV))) PassesOwn.never rfl) (by exact bM (cU 5 (lV (toP (aA 5)) (toP (aO))) nd)))) PassesOwn.never
 exact bM (aMv [3] (cN (aA 3)))
variable(cW:DefOk P w K mg base "has_room" 1 2 gY)
include cP cW in
theorem aNa(F:FunD K "rooms_of" "rooms_of" aAg dV fa fd):FnOk P w K mg base CX0 2 fa fd ["bits"] (spI K 1 cI):=by
 refine eF (k:=1) F aDb 1 2 zX rfl rfl fun cdv A outer s H E B hr=>?_
 have nd:=aDb.nd
 exact bM (cN (oG [1] iU (.of rfl) (aBm cP (toP (bBt (toP (aA 0))))) (fun _ _ _ _ _=>cL 1 nd) (fun _ _ _ _ _=>iC (aL cW hr (by decide) (aD (aA 0) (aD (aA 1) (aQ))))) (fun _ _ _ _ _=>aA 1) rfl))
variable(qX:DefOk P w K mg base "ways_from" 1 3 lA)
variable(bO:DefOk P w K mg base "rooms_of" 2 1 cI)
variable{A_Machine:Addr}(c_Machine:ClsAt K "Machine" A_Machine)
variable(bB:jO K A_Machine (Str.ofString "steps"))
include cW qX bO c_Machine bB in
theorem aVk(F:FunD K "way_in" "way_in" aG4 dV fa fd):FnOk P w K mg base CX0 3 fa fd ["machine", "allowed", "room", "goal"] (spI K 4 jT):=by
 refine eF (k:=2) F aHr 4 4 aJr rfl rfl fun cdv A outer s H E B hr=>?_
 have nd:=aHr.nd
 refine aY ?_ ?_
 ·exact qH (qT (iC (aL cW hr (by decide) (aD (aA 1) (aD (aA 2) (aQ)))))) (bM (cN (bEl))) (jV)
 exact bM (cN (bC2 hr.units (toP (aL qX hr (by decide) (aD (tL c_Machine bB (toP (aA 0))) (aD (aA 2) (aD (aL bO hr (by decide) (aD (aA 1) (aQ))) (aQ)))))) (aA 3)))
theorem aRq(F:FunD K "bits_of" "bits_of" aCn dV fa fd):FnOk P w K mg base CX0 1 fa fd ["rooms"] (spI K 1 iI):=by
 refine eF (k:=0) F aG7 1 3 aC7 rfl rfl fun cdv A outer s H E B hr=>?_
 have nd:=aG7.nd
 refine aY ?_ ?_
 ·exact cU 1 (aO) nd
 refine aY ?_ ?_
 ·exact qU (nG (aA 0)) (cL 2 nd) (bM (cU 1 (aLb (toP (aA 1)) (toP (aD7 (toP (aO)) (toP (aA 2))))) nd)) PassesOwn.never rfl
 exact bM (cN (aA 1))
variable(dN:DefOk P w K mg base "bits_of" 1 1 iI)
include cW bO dN in
theorem aJ9(F:FunD K "seen_among" "seen_among" uY dV fa fd):FnOk P w K mg base CX0 3 fa fd ["steps", "allowed"] (spI K 2 jG):=by
 refine eF (k:=2) F zJ 2 6 aAu rfl rfl fun cdv A outer s H E B hr=>?_
 have nd:=zJ.nd
 refine aY ?_ ?_
 ·exact cU 2 (aL bO hr (by decide) (aD (aA 1) (aQ))) nd
 refine aY ?_ ?_
 ·exact aP6 3 nd
 refine aY ?_ ?_
 ·exact qU (nG (aA 2)) (cL 4 nd) (bM (aJ0 hr.units 3 (aA 4) (aAb (toP (aLb (toP (aL dN hr (by decide) (aD (fM hr.units (toP (aA 0)) (toP (aA 4))) (aQ)))) (toP (aD7 (toP (aO)) (toP (aA 4)))))) (toP (aA 1))))) PassesOwn.never rfl
 refine aY ?_ ?_
 ·exact qU (nG (aA 2)) (cL 5 nd) (bM (qU (nG (aA 2)) (cL 4 nd) (bM (qH (iC (aL cW hr (by decide) (aD (fM hr.units (gH 3) (toP (aA 4))) (aD (aA 5) (aQ))))) (bM (aJ0 hr.units 3 (aA 4) (aLb (toP (fM hr.units (gH 3) (toP (aA 4)))) (toP (fM hr.units (gH 3) (toP (aA 5))))))) (jV))) PassesOwn.never rfl)) PassesOwn.never rfl
 exact bM (aMv [3] (cN (aA 3)))
include cD bO in
theorem aJa(F:FunD K "goes_round" "goes_round" uZ dV fa fd):FnOk P w K mg base CX0 3 fa fd ["steps", "part"] (spI K 2 pB):=by
 refine eF (k:=2) F zK 2 3 aAv rfl rfl fun cdv A outer s H E B hr=>?_
 have nd:=zK.nd
 refine aY ?_ ?_
 ·exact cU 2 (aL bO hr (by decide) (aD (aA 1) (aQ))) nd
 exact bM (cN (bEp (gK aS5 aMt (toP (gM cD (toP (aA 2)))) (toP (aO)) (cF _)) (aZ2 (gK (aIy hr.units) aIz (toP (fM hr.units (toP (aA 2)) (toP (aO)))) (toP (fM hr.units (toP (aA 0)) (toP (fM hr.units (toP (aA 2)) (toP (aO)))))) rfl))))
variable(iG:DefOk P w K mg base "seen_among" 3 2 jG)
variable(pF:DefOk P w K mg base "goes_round" 3 2 pB)
include cW bO dN iG pF in
theorem aGk(F:FunD K "parts_among" "parts_among" rW dV fa fd):FnOk P w K mg base CX0 4 fa fd ["steps", "allowed"] (spI K 2 nP):=by
 refine eF (k:=3) F yC 2 7 zA rfl rfl fun cdv A outer s H E B hr=>?_
 have nd:=yC.nd
 refine aY ?_ ?_
 ·exact cU 2 (aL iG hr (by decide) (aD (aA 0) (aD (aA 1) (aQ)))) nd
 refine aY ?_ ?_
 ·exact xT 3 (aFi (aQ)) nd
 refine aY ?_ ?_
 ·exact qU (nG (aL bO hr (by decide) (aD (aA 1) (aQ)))) (cL 4 nd) (aY (by exact cU 5 (aL dN hr (by decide) (aD (oG [6] iU (.of rfl) (nG (aL bO hr (by decide) (aD (fM hr.units (toP (aA 2)) (toP (aA 4))) (aQ)))) (fun _ _ _ _ _=>cL 6 nd) (fun _ _ _ _ _=>iC (aL cW hr (by decide) (aD (fM hr.units (toP (aA 2)) (toP (aA 6))) (aD (aA 4) (aQ))))) (fun _ _ _ _ _=>aA 6) rfl) (aQ))) nd) (by exact bM (qH (PW.pt (aOx (dD (tH hr.units) tK (toP (aA 5)) (gH 3) rfl) (aIr (iC (aL pF hr (by decide) (aD (aA 0) (aD (aA 5) (aQ)))))))) (bM (aHi 3 (aA 5))) (jV)))) PassesOwn.never rfl
 exact bM (aMv [3] (cN (aA 3)))
variable(nY:DefOk P w K mg base "parts_among" 4 2 nP)
include c_Machine bB nY in
theorem aJb(F:FunD K "loop_parts" "loop_parts" vA dV fa fd):FnOk P w K mg base CX0 5 fa fd ["machine", "allowed"] (spI K 2 fV):=by
 refine eF (k:=4) F zL 2 2 aAw rfl rfl fun cdv A outer s H E B hr=>?_
 have nd:=zL.nd
 exact bM (cN (aL nY hr (by decide) (aD (tL c_Machine bB (toP (aA 0))) (aD (aA 1) (aQ)))))
variable(iH:DefOk P w K mg base "loop_parts" 5 2 fV)
include iH in
theorem aRr(F:FunD K "is_loop" "is_loop" aCo dV fa fd):FnOk P w K mg base CX0 6 fa fd ["machine", "bits"] (spI K 2 sV):=by
 refine eF (k:=5) F aG8 2 2 aC8 rfl rfl fun cdv A outer s H E B hr=>?_
 have nd:=aG8.nd
 exact bM (cN (gK (eX hr.units) eY (toP (aL iH hr (by decide) (aD (aA 0) (aD (aA 1) (aQ))))) (toP (aFg (aD (aA 1) (aQ)))) (cF _)))
include g_LETTERS c_Machine bB in
theorem wB(F:FunD K "rooms_along" "Machine.rooms_along" cX dV fa fd):FnOk P w K mg base CX0 1 fa fd ["self", "room", "text"] (spF K 3 bG):=by
 refine bH5 (k:=0) F mF 3 5 3 dJ rfl rfl fun cdv A outer s H E B hr=>?_
 have nd:=mF.nd
 exact aPf (by exact xT 3 (aFi (aD (aA 1) (aQ))) nd) (by exact aPf (by exact qU (nG (aA 2)) (cL 4 nd) (aY (by exact cU 1 (fM hr.units (toP (fM hr.units (toP (tL c_Machine bB (toP (aA 0)))) (toP (aA 1)))) (toP (bBl (toP (aIp [97,98,99] g_LETTERS)) (aD (aA 4) (aQ))))) nd) (by exact bM (aHi 3 (aA 1)))) PassesOwn.never rfl) (by exact bBo))
variable(yO:DefOk P w K mg base "is_loop" 6 2 sV)
variable(oJ:DefOk P w K mg base "way_in" 3 4 jT)
variable(bW:MethOkF P w K mg base "Machine" "rooms_along" 1 3 [] bG)
variable{X_NoLoop:Addr}{bm_NoLoop:List Value}(e_NoLoop:ExcAt K "NoLoop" X_NoLoop bm_NoLoop)
variable(lG:mg (Str.ofString "NoLoop")=some (.ref X_NoLoop))
include g_LETTERS cW bO c_Machine bB yO oJ bW e_NoLoop lG in
theorem aNb(F:FunD K "round_in" "round_in" aAh dV fa fd):FnOk P w K mg base (CX1 P w) 7 fa fd ["machine", "bits", "room"] (spE K 3 uJ):=by
 refine aV3 (k:=6) (sm:=false) F aDc 3 6 aEk rfl rfl fun cdv A outer s H E B W hr hL=>?_
 have nd:=aDc.nd
 refine lZ (s1:=false) (s2:=false) ?_ ?_
 ·exact vP (aV2 (s1:=false) (qT (iC (aL yO hr (by decide) (aD (aA 0) (aD (aA 1) (aQ)))))) (zF (vP (x_raise hL e_NoLoop lG rfl (aD (aBi [116,104,105,115,32,115,101,116,32,111,102,32,114,111,111,109,115,32,105,115,32,110,111,32,108,111,111,112]) (aQ))))) (aL5))
 refine lZ (s1:=false) (s2:=false) ?_ ?_
 ·exact vP (aV2 (s1:=false) (qT (iC (aL cW hr (by decide) (aD (aA 1) (aD (aA 2) (aQ)))))) (zF (vP (x_raise hL e_NoLoop lG rfl (aD (aBi [116,104,101,32,114,111,111,109,32,105,115,32,110,111,116,32,105,110,32,116,104,101,32,108,111,111,112]) (aQ))))) (aL5))
 refine lZ (s1:=false) (s2:=false) ?_ ?_
 ·exact oO (s1:=false) (qH (dD (eX hr.units) eY (toP (aL bO hr (by decide) (aD (aA 1) (aQ)))) (toP (aFg (aD (aA 2) (aQ)))) (cF _)) (bM (cN (fM hr.units (toP (aIp [97,98,99] g_LETTERS)) (toP (aV9 (toP (fM hr.units (toP (tL c_Machine bB (toP (aA 0)))) (toP (aA 2)))) (aD (aA 2) (aQ))))))) (jV))
 refine lZ (s1:=false) (s2:=false) ?_ ?_
 ·exact oO (s1:=false) (cU 3 (aBi []) nd)
 refine lZ (s1:=false) (s2:=false) ?_ ?_
 ·exact oO (s1:=false) (cU 4 (aA 2) nd)
 refine lZ (s1:=false) (s2:=false) ?_ ?_
 ·exact oO (s1:=false) (qU (nG (aL bO hr (by decide) (aD (aA 1) (aQ)))) (cL 5 nd) (bM (qH (dD (tH hr.units) tK (toP (aA 5)) (toP (aN0 (pl:=_) (MethOkF.plain bW) hr (by decide) (aA 0) (aD (aA 2) (aD (aA 3) (aQ))))) rfl) (aY (by exact cU 3 (lV (toP (aA 3)) (toP (aL oJ hr (by decide) (aD (aA 0) (aD (aA 1) (aD (aA 4) (aD (aA 5) (aQ)))))))) nd) (by exact bM (cU 4 (aA 5) nd))) (jV))) PassesOwn.leaving rfl)
 exact zF (oO (s1:=false) (cN (lV (toP (aA 3)) (toP (aL oJ hr (by decide) (aD (aA 0) (aD (aA 1) (aD (aA 4) (aD (aA 2) (aQ))))))))))
variable(bF:mg "isinstance" = none)
variable(aGc:mg "int" = none)
variable(rY:mg "bool" = none)
include bF aGc rY in
theorem aJc(F:FunD K "_law_whole" "_law_whole" vB dV fa fd):FnOk P w K mg base CX0 1 fa fd ["_law_found"] (spI K 1 lL):=by
 refine eF (k:=0) F zM 1 1 aAy rfl rfl fun cdv A outer s H E B hr=>?_
 have nd:=zM.nd
 exact bM (cN (tD (lX ty_int bF aGc (toP (aA 0))) (rQ (aZ3 (lX ty_bool bF rY (toP (aA 0)))))))
variable(cB:jO K A_Machine (Str.ofString "many"))
variable(iR:mg "list" = none)
include cP c_Machine dN cB iR in
theorem aLm(F:FunD K "all_rooms" "all_rooms" xX dV fa fd):FnOk P w K mg base CX0 2 fa fd ["machine"] (spI K 1 lC):=by
 refine eF (k:=1) F aBs 1 1 aCx rfl rfl fun cdv A outer s H E B hr=>?_
 have nd:=aBs.nd
 exact bM (cN (aL dN hr (by decide) (aD (aV8 iR cP rfl (toP (tL c_Machine cB (toP (aA 0))))) (aQ))))
theorem aVl(F:FunD K "joined" "joined" aG5 dV fa fd):FnOk P w K mg base CX0 1 fa fd ["sets"] (spI K 1 aAz):=by
 refine eF (k:=0) F aHs 1 3 aJs rfl rfl fun cdv A outer s H E B hr=>?_
 have nd:=aHs.nd
 refine aY ?_ ?_
 ·exact cU 1 (aO) nd
 refine aY ?_ ?_
 ·exact qU (nG (aA 0)) (cL 2 nd) (bM (cU 1 (aLb (toP (aA 1)) (toP (aA 2))) nd)) PassesOwn.never rfl
 exact bM (cN (aA 1))
variable(bK:jO K A_Machine (Str.ofString "ranks"))
variable(aBv:mg "sorted" = none)
variable(aPm:mg "set" = none)
include bO c_Machine bK aBv aPm in
theorem aDn(F:FunD K "ranks_of_sort" "ranks_of_sort" oR dV fa fd):FnOk P w K mg base CX0 3 fa fd ["machine", "allowed", "wanted"] (spI K 3 jW):=by
 refine eF (k:=2) F tQ 3 6 vN rfl rfl fun cdv A outer s H E B hr=>?_
 have nd:=tQ.nd
 refine aY ?_ ?_
 ·exact cU 3 (aVg aBv aPm rfl (toP (rT [5] iU (.of rfl) (nG (aL bO hr (by decide) (aD (aA 1) (aQ)))) (fun _ _ _ _ _=>cL 5 nd) (fun _ _ _ _ _=>fM hr.units (toP (tL c_Machine bK (toP (aA 0)))) (toP (aA 5))) rfl))) nd
 exact bM (cN (oG [4] iU (.of rfl) (nG (aA 3)) (fun _ _ _ _ _=>cL 4 nd) (fun _ _ _ _ _=>dD (eX hr.units) eY (toP (gK (eX hr.units) eY (toP (qR (toP (aA 4)) (toP (aO)))) (toP (aO)) (cF _))) (toP (aA 2)) (cF _)) (fun _ _ _ _ _=>aA 4) rfl))
include zQ bO c_Machine e_NoLoop lG bK in
theorem aNc(F:FunD K "top_rank" "top_rank" aAi dV fa fd):FnOk P w K mg base (CX1 P w) 3 fa fd ["machine", "bits"] (spE K 2 uK):=by
 refine aV3 (k:=2) (sm:=false) F aDd 2 3 zY rfl rfl fun cdv A outer s H E B W hr hL=>?_
 have nd:=aDd.nd
 refine lZ (s1:=false) (s2:=false) ?_ ?_
 ·exact vP (aV2 (s1:=false) (dD (eX hr.units) eY (toP (aA 1)) (toP (aO)) (cF _)) (zF (vP (x_raise hL e_NoLoop lG rfl (aD (aBi [97,32,115,101,116,32,119,105,116,104,111,117,116,32,114,111,111,109,115,32,104,97,115,32,110,111,32,103,114,101,97,116,101,115,116,32,114,97,110,107]) (aQ))))) (aL5))
 exact zF (oO (s1:=false) (cN (aUx zQ rfl (toP (rT [2] iU (.of rfl) (nG (aL bO hr (by decide) (aD (aA 1) (aQ)))) (fun _ _ _ _ _=>cL 2 nd) (fun _ _ _ _ _=>fM hr.units (toP (tL c_Machine bK (toP (aA 0)))) (toP (aA 2))) rfl)))))
variable(vH:DefOkX P w K mg base "top_rank" 3 2 uK)
include bO c_Machine dN iH bK vH in
theorem aGd(F:FunD K "parts_topped" "parts_topped" qD dV fa fd):FnOk P w K mg base CX0 6 fa fd ["machine", "allowed", "rank"] (spF K 3 iY):=by
 refine bH7 (k:=5) F vU 3 6 jX (cR [4] (tgN 4) (itE (aP fV (aC (aB 0) (aC (aB 3) (aX))))) (jJ) (jH)) rfl rfl fun cdv A outer s H E B hr=>?_
 have nd:=vU.nd
 exact aY3 (by exact cU 3 (aL dN hr (by decide) (aD (oG [5] iU (.of rfl) (nG (aL bO hr (by decide) (aD (aA 1) (aQ)))) (fun _ _ _ _ _=>cL 5 nd) (fun _ _ _ _ _=>dD aYn aUf (toP (fM hr.units (toP (tL c_Machine bK (toP (aA 0)))) (toP (aA 5)))) (toP (aA 2)) (cF _)) (fun _ _ _ _ _=>aA 5) rfl) (aQ))) nd) (by exact bBu (aVh [4] iU (.of rfl) (nG (aL iH hr (by decide) (aD (aA 0) (aD (aA 3) (aQ))))) (fun _ _ _ _ _=>cL 4 nd) (fun _ _ _ _ _=>dD (eX hr.units) eY (toP (aL (DefOkX.calm vH) hr (by decide) (aD (aA 0) (aD (aA 4) (aQ))))) (toP (aA 2)) (cF _)) (fun _ _ _ _ _=>aA 4) rfl))
variable(kI:DefOk P w K mg base "ranks_of_sort" 3 3 jW)
variable(mH:DefOkF P w K mg base "parts_topped" 6 3 iY)
include kI mH in
theorem aDo(F:FunD K "loops_of_sort" "loops_of_sort" oU dV fa fd):FnOk P w K mg base CX0 7 fa fd ["machine", "allowed", "wanted"] (spI K 3 jY):=by
 refine eF (k:=6) F tR 3 5 vO rfl rfl fun cdv A outer s H E B hr=>?_
 have nd:=tR.nd
 refine aY ?_ ?_
 ·exact xT 3 (aFi (aQ)) nd
 refine aY ?_ ?_
 ·exact qU (nG (aL kI hr (by decide) (aD (aA 0) (aD (aA 1) (aD (aA 2) (aQ)))))) (cL 4 nd) (bM (aZ7 3 (aY4 mH hr (by decide) (aD (aA 0) (aD (aA 1) (aD (aA 4) (aQ))))))) PassesOwn.never rfl
 exact bM (aMv [3] (cN (aA 3)))
variable(jD:DefOk P w K mg base "all_rooms" 2 1 lC)
include cP c_Machine bB dN iG cB jD in
theorem aNd(F:FunD K "reaching" "reaching" aAj dV fa fd):FnOk P w K mg base CX0 4 fa fd ["machine", "goals"] (spI K 2 uL):=by
 refine eF (k:=3) F aDe 2 4 aEo rfl rfl fun cdv A outer s H E B hr=>?_
 have nd:=aDe.nd
 refine aY ?_ ?_
 ·exact cU 2 (aL iG hr (by decide) (aD (tL c_Machine bB (toP (aA 0))) (aD (aL jD hr (by decide) (aD (aA 0) (aQ))) (aQ)))) nd
 exact bM (cN (aL dN hr (by decide) (aD (oG [3] iU (.of rfl) (aBm cP (toP (tL c_Machine cB (toP (aA 0))))) (fun _ _ _ _ _=>cL 3 nd) (fun _ _ _ _ _=>dD (aCj hr.units) aCk (toP (aAb (toP (fM hr.units (toP (aA 2)) (toP (aA 3)))) (toP (aA 1)))) (toP (aO)) (cF _)) (fun _ _ _ _ _=>aA 3) rfl) (aQ))))
variable(aBw:DefOk P w K mg base "joined" 1 1 aAz)
variable(kJ:DefOk P w K mg base "loops_of_sort" 7 3 jY)
variable(vI:DefOk P w K mg base "reaching" 4 2 uL)
include jD aBw kJ vI in
theorem aBx(F:FunD K "never_coming_to" "never_coming_to" mC dV fa fd):FnOk P w K mg base CX0 8 fa fd ["machine", "wanted"] (spI K 2 fW):=by
 refine eF (k:=7) F qF 2 4 qK rfl rfl fun cdv A outer s H E B hr=>?_
 have nd:=qF.nd
 refine aY ?_ ?_
 ·exact cU 2 (aL jD hr (by decide) (aD (aA 0) (aQ))) nd
 refine aY ?_ ?_
 ·exact cU 3 (aL aBw hr (by decide) (aD (aL kJ hr (by decide) (aD (aA 0) (aD (aA 2) (aD (aA 1) (aQ))))) (aQ))) nd
 exact bM (cN (bC3 (toP (aA 2)) (toP (aL vI hr (by decide) (aD (aA 0) (aD (aA 3) (aQ)))))))
variable(dM:DefOk P w K mg base "never_coming_to" 8 2 fW)
include dM in
theorem aJd(F:FunD K "dead_rooms" "dead_rooms" vC dV fa fd):FnOk P w K mg base CX0 9 fa fd ["machine"] (spI K 1 lN):=by
 refine eF (k:=8) F zN 1 1 aB2 rfl rfl fun cdv A outer s H E B hr=>?_
 have nd:=zN.nd
 exact bM (cN (aL dM hr (by decide) (aD (aA 0) (aD (aIo) (aQ)))))
include dM in
theorem aJe(F:FunD K "sure_rooms" "sure_rooms" vD dV fa fd):FnOk P w K mg base CX0 9 fa fd ["machine"] (spI K 1 lO):=by
 refine eF (k:=8) F zO 1 1 aB3 rfl rfl fun cdv A outer s H E B hr=>?_
 have nd:=zO.nd
 exact bM (cN (aL dM hr (by decide) (aD (aA 0) (aD (aIo) (aQ)))))
variable(aPn:mg "str" = none)
include g_LETTERS bF aPn in
theorem aRs(F:FunD K "is_word" "is_word" aCp dV fa fd):FnOk P w K mg base CX0 1 fa fd ["thing", "many"] (spI K 2 lD):=by
 refine eF (k:=0) F aG9 2 2 aCb rfl rfl fun cdv A outer s H E B hr=>?_
 have nd:=aG9.nd
 exact bM (cN (tD (lX ty_str bF aPn (toP (aA 0))) (rQ (gK (eX hr.units) eY (toP (aXr (toP (aA 0)) (aD (bBi (toP (aIp [97,98,99] g_LETTERS)) (aMw) (aFm (toP (aA 1)))) (aQ)))) (toP (aBi [])) (cF _)))))
variable(tU:DefOk P w K mg base "is_word" 1 2 lD)
variable(aE5:mg "tuple" = none)
include cD bF tU aE5 in
theorem aJf(F:FunD K "is_endless" "is_endless" vG dV fa fd):FnOk P w K mg base CX0 2 fa fd ["thing", "many"] (spI K 2 gZ):=by
 refine eF (k:=1) F zP 2 2 uM rfl rfl fun cdv A outer s H E B hr=>?_
 have nd:=zP.nd
 refine aY ?_ ?_
 ·exact qH (PW.pt (aXi (qT (iC (lX ty_tuple bF aE5 (toP (aA 0))))) (aOw (dD (aCj hr.units) aCk (toP (gM cD (toP (aA 0)))) (toP (aO)) (cF _))))) (bM (cN (aIo))) (jV)
 exact bM (cN (tD (aL tU hr (by decide) (aD (fM hr.units (toP (aA 0)) (toP (aO))) (aD (aA 1) (aQ)))) (tD (aL tU hr (by decide) (aD (fM hr.units (toP (aA 0)) (toP (aO))) (aD (aA 1) (aQ)))) (rQ (gK (aCj hr.units) aCk (toP (fM hr.units (toP (aA 0)) (toP (aO)))) (toP (aBi [])) (cF _))))))
include bF aGc rY in
theorem aNe(F:FunD K "is_whole" "is_whole" aAk dV fa fd):FnOk P w K mg base CX0 1 fa fd ["thing"] (spI K 1 mZ):=by
 refine eF (k:=0) F aDf 1 1 zZ rfl rfl fun cdv A outer s H E B hr=>?_
 have nd:=aDf.nd
 exact bM (cN (tD (lX ty_int bF aGc (toP (aA 0))) (rQ (aZ3 (lX ty_bool bF rY (toP (aA 0)))))))
variable(kY:DefOk P w K mg base "is_whole" 1 1 mZ)
include kY in
theorem aNf(F:FunD K "is_below" "is_below" aAl dV fa fd):FnOk P w K mg base CX0 2 fa fd ["thing", "limit"] (spI K 2 kO):=by
 refine eF (k:=1) F aDg 2 2 aA0 rfl rfl fun cdv A outer s H E B hr=>?_
 have nd:=aDg.nd
 exact bM (cN (tD (aL kY hr (by decide) (aD (aA 0) (aQ))) (tD (gK aS6 aMu (toP (aA 0)) (toP (aO)) (cF _)) (rQ (gK aNj aE3 (toP (aA 0)) (toP (aA 1)) (cF _))))))
variable(kZ:DefOk P w K mg base "is_below" 2 2 kO)
variable{X_NoRoom:Addr}{bm_NoRoom:List Value}(e_NoRoom:ExcAt K "NoRoom" X_NoRoom bm_NoRoom)
variable(yP:mg (Str.ofString "NoRoom")=some (.ref X_NoRoom))
include c_Machine cB kZ e_NoRoom yP in
theorem yD(F:FunD K "check_room" "Machine.check_room" dI dV fa fd):FnOk P w K mg base (CX1 P w) 3 fa fd ["self", "thing"] (spE K 2 dG):=by
 refine aV3 (k:=2) (sm:=false) F mU 2 2 oF rfl rfl fun cdv A outer s H E B W hr hL=>?_
 have nd:=mU.nd
 exact zF (vP (aV2 (s1:=false) (qT (iC (aL kZ hr (by decide) (aD (aA 1) (aD (tL c_Machine cB (toP (aA 0))) (aQ)))))) (zF (vP (x_raise hL e_NoRoom yP rfl (aD (aBi [116,104,105,115,32,105,115,32,110,111,32,114,111,111,109,32,111,102,32,116,104,101,32,109,97,99,104,105,110,101]) (aQ))))) (aL5)))
variable(pG:DefOk P w K mg base "is_endless" 2 2 gZ)
variable(fB:MethOkX P w K mg base "Machine" "check_room" 3 2 [] dG)
variable(dF:jO K A_Machine (Str.ofString "letters"))
variable{X_NoWord:Addr}{bm_NoWord:List Value}(e_NoWord:ExcAt K "NoWord" X_NoWord bm_NoWord)
variable(yQ:mg (Str.ofString "NoWord")=some (.ref X_NoWord))
include cD c_Machine bW pG fB dF e_NoWord yQ in
theorem aGe(F:FunD K "walk" "Machine.walk" gP dV fa fd):FnOk P w K mg base (CX1 P w) 4 fa fd ["self", "word", "room"] (spE K 3 iZ):=by
 refine aV3 (k:=3) (sm:=false) F vV 3 6 wY rfl rfl fun cdv A outer s H E B W hr hL=>?_
 have nd:=vV.nd
 refine lZ (s1:=false) (s2:=false) ?_ ?_
 ·exact vP (bEz (aPe (pl:=_) fB hL hr (by decide) (aA 0) (aD (aA 2) (aQ))))
 refine lZ (s1:=false) (s2:=false) ?_ ?_
 ·exact vP (aV2 (s1:=false) (qT (iC (aL pG hr (by decide) (aD (aA 1) (aD (tL c_Machine dF (toP (aA 0))) (aQ)))))) (zF (vP (x_raise hL e_NoWord yQ rfl (aD (aBi [116,104,105,115,32,105,115,32,110,111,32,101,110,100,108,101,115,115,32,119,111,114,100,32,111,102,32,116,104,101,32,109,97,99,104,105,110,101,39,115,32,108,101,116,116,101,114,115]) (aQ))))) (aL5))
 refine lZ (s1:=false) (s2:=false) ?_ ?_
 ·exact oO (s1:=false) (xT 3 (bBp (pl:=_) bW hr (by decide) (aA 0) (aD (aA 2) (aD (fM hr.units (toP (aA 1)) (toP (aO))) (aQ)))) nd)
 refine lZ (s1:=false) (s2:=false) ?_ ?_
 ·exact oO (s1:=false) (aP6 4 nd)
 refine lZ (s1:=false) (s2:=false) ?_ ?_
 ·exact oO (s1:=false) (aIu 100000 (dD (tH hr.units) tK (toP (fM hr.units (gH 3) (toP (aKz (toP (aO)))))) (gH 4) rfl) (aY (by exact aJ0 hr.units 4 (fM hr.units (gH 3) (toP (aKz (toP (aO))))) (aUe (toP (gM cD (gH 3))) (toP (aO)))) (by exact bM (aZ7 3 (bH3 (toP (aN0 (pl:=_) (MethOkF.plain bW) hr (by decide) (aA 0) (aD (fM hr.units (gH 3) (toP (aKz (toP (aO))))) (aD (fM hr.units (toP (aA 1)) (toP (aO))) (aQ))))) (aFm (toP (aO))) (aMw))))) PassesOwn.leaving)
 refine lZ (s1:=false) (s2:=false) ?_ ?_
 ·exact oO (s1:=false) (cU 5 (fM hr.units (gH 4) (toP (fM hr.units (gH 3) (toP (aKz (toP (aO))))))) nd)
 exact zF (oO (s1:=false) (cN (aUg (aD (bBi (gH 3) (aMw) (aFm (toP (aA 5)))) (aD (bBi (gH 3) (aFm (toP (aA 5))) (aFm (toP (aKz (toP (aO)))))) (aQ))))))
variable(jL:MethOkX P w K mg base "Machine" "walk" 4 3 [] iZ)
include zQ c_Machine bK jL in
theorem aGf(F:FunD K "lets" "Machine.lets" gQ dV fa fd):FnOk P w K mg base (CX1 P w) 5 fa fd ["self", "word", "room"] (spE K 3 jA):=by
 refine aV3 (k:=4) (sm:=false) F vW 3 5 wZ rfl rfl fun cdv A outer s H E B W hr hL=>?_
 have nd:=vW.nd
 refine lZ (s1:=false) (s2:=false) ?_ ?_
 ·exact vP (bF0 3 (bF1 hr.units (aPe (pl:=_) jL hL hr (by decide) (aA 0) (aD (aA 1) (aD (aA 2) (aQ)))) (toP (aO))) nd)
 exact zF (oO (s1:=false) (cN (gK (eX hr.units) eY (toP (qR (toP (aUx zQ rfl (toP (rT [4] iU (.of rfl) (nG (aA 3)) (fun _ _ _ _ _=>cL 4 nd) (fun _ _ _ _ _=>fM hr.units (toP (tL c_Machine bK (toP (aA 0)))) (toP (aA 4))) rfl)))) (toP (aO)))) (toP (aO)) (cF _))))
include cD bF iR in
theorem aCq(F:FunD K "is_filled_list" "is_filled_list" nM dV fa fd):FnOk P w K mg base CX0 1 fa fd ["thing", "most"] (spI K 2 dY):=by
 refine eF (k:=0) F qW 2 2 nD rfl rfl fun cdv A outer s H E B hr=>?_
 have nd:=qW.nd
 exact bM (cN (tD (lX ty_list bF iR (toP (aA 0))) (tD (gK aS6 aMu (toP (gM cD (toP (aA 0)))) (toP (aO)) (cF _)) (rQ (gK aYn aUf (toP (gM cD (toP (aA 0)))) (toP (aA 1)) (cF _))))))
variable(yE:mg "all" = none)
include cD kZ yE in
theorem aVm(F:FunD K "is_row" "is_row" aG6 dV fa fd):FnOk P w K mg base CX0 3 fa fd ["thing", "letters", "rooms"] (spI K 3 aB4):=by
 refine eF (k:=2) F aHt 3 4 aEp rfl rfl fun cdv A outer s H E B hr=>?_
 have nd:=aHt.nd
 exact bM (cN (tD (gK (eX hr.units) eY (toP (gM cD (toP (aA 0)))) (toP (aA 1)) (cF _)) (rQ (aPa yE rfl (toP (rT [3] iU (.of rfl) (nG (aA 0)) (fun _ _ _ _ _=>cL 3 nd) (fun _ _ _ _ _=>aL kZ hr (by decide) (aD (aA 3) (aD (aA 2) (aQ)))) rfl))))))
variable(gU:DefOk P w K mg base "is_filled_list" 1 2 dY)
variable(aBy:DefOk P w K mg base "is_row" 3 3 aB4)
variable{t_MOST_ROOMS:Tok}(g_MOST_ROOMS:mg "MOST_ROOMS" = some (.int 8 t_MOST_ROOMS))
variable{t_MOST_LETTERS:Tok}(g_MOST_LETTERS:mg "MOST_LETTERS" = some (.int 3 t_MOST_LETTERS))
include cD yE gU aBy g_MOST_ROOMS g_MOST_LETTERS in
theorem aLn(F:FunD K "are_steps" "are_steps" xY dV fa fd):FnOk P w K mg base CX0 4 fa fd ["thing"] (spI K 1 qL):=by
 refine eF (k:=3) F aBt 1 2 xF rfl rfl fun cdv A outer s H E B hr=>?_
 have nd:=aBt.nd
 refine aY ?_ ?_
 ·exact qH (qT (iC (aL gU hr (by decide) (aD (aA 0) (aD (aUd g_MOST_ROOMS) (aQ)))))) (bM (cN (aIo))) (jV)
 refine aY ?_ ?_
 ·exact qH (qT (iC (aPa yE rfl (toP (rT [1] iU (.of rfl) (nG (aA 0)) (fun _ _ _ _ _=>cL 1 nd) (fun _ _ _ _ _=>aL gU hr (by decide) (aD (aA 1) (aD (aUd g_MOST_LETTERS) (aQ)))) rfl))))) (bM (cN (aIo))) (jV)
 exact bM (cN (aPa yE rfl (toP (rT [1] iU (.of rfl) (nG (aA 0)) (fun _ _ _ _ _=>cL 1 nd) (fun _ _ _ _ _=>aL aBy hr (by decide) (aD (aA 1) (aD (gM cD (toP (fM hr.units (toP (aA 0)) (toP (aO))))) (aD (gM cD (toP (aA 0))) (aQ))))) rfl))))
include cD bF iR kY yE in
theorem aLo(F:FunD K "are_ranks" "are_ranks" xZ dV fa fd):FnOk P w K mg base CX0 2 fa fd ["thing", "rooms"] (spI K 2 qM):=by
 refine eF (k:=1) F aBu 2 3 xG rfl rfl fun cdv A outer s H E B hr=>?_
 have nd:=aBu.nd
 refine aY ?_ ?_
 ·exact qH (PW.pt (aXi (qT (iC (lX ty_list bF iR (toP (aA 0))))) (aOw (dD (aCj hr.units) aCk (toP (gM cD (toP (aA 0)))) (toP (aA 1)) (cF _))))) (bM (cN (aIo))) (jV)
 exact bM (cN (aPa yE rfl (toP (rT [2] iU (.of rfl) (nG (aA 0)) (fun _ _ _ _ _=>cL 2 nd) (fun _ _ _ _ _=>tD (aL kY hr (by decide) (aD (aA 2) (aQ))) (rQ (gK aS6 aMu (toP (aA 2)) (toP (aO)) (cF _)))) rfl))))
variable(qY:DefOk P w K mg base "are_steps" 4 1 qL)
variable(qZ:DefOk P w K mg base "are_ranks" 2 2 qM)
include cD c_Machine bB cB iR bK dF qY qZ in
theorem aAm(F:Fun K "__init__" "Machine.__init__" dZ fa fd):FnOk P w K mg base CX0 5 fa fd ["self", "steps", "ranks"] (spM K "Machine" 2 iB):=by
 refine aXt (k:=4) F oY "Machine" 2 4 fG rfl rfl fun cdv A outer s H E B hr=>?_
 have nd:=oY.nd
 refine aY ?_ ?_
 ·exact qH (qT (iC (aL qY hr (by decide) (aD (aA 1) (aQ))))) (bM (aP7)) (jV)
 refine aY ?_ ?_
 ·exact qH (qT (iC (aL qZ hr (by decide) (aD (aA 2) (aD (gM cD (toP (aA 1))) (aQ)))))) (bM (aP7)) (jV)
 refine aY ?_ ?_
 ·exact aJ1 0 c_Machine bB (rT [3] iU (.of rfl) (nG (aA 1)) (fun _ _ _ _ _=>cL 3 nd) (fun _ _ _ _ _=>aJ2 iR (toP (aA 3))) rfl)
 refine aY ?_ ?_
 ·exact aJ1 0 c_Machine bK (aJ2 iR (toP (aA 2)))
 refine aY ?_ ?_
 ·exact aJ1 0 c_Machine cB (gM cD (toP (aA 1)))
 exact bM (aJ1 0 c_Machine dF (gM cD (toP (fM hr.units (toP (aA 1)) (toP (aO))))))
variable(mJ:DefOk P w K mg base "_law_machine" 2 3 iW)
variable(pH:DefOk P w K mg base "_law_loops" 3 1 pA)
variable(vJ:DefOk P w K mg base "_law_top" 1 2 uG)
variable(vK:DefOkX P w K mg base "round_in" 7 3 uJ)
variable(mK:DefOk P w K mg base "_law_whole" 1 1 lL)
variable(mL:DefOk P w K mg base "dead_rooms" 9 1 lN)
variable(mO:DefOk P w K mg base "sure_rooms" 9 1 lO)
variable(jM:MethOkX P w K mg base "Machine" "lets" 5 3 [] jA)
variable(yR:MakeOk P w K mg base "Machine" 5 2 iB)
variable(aPo:mg "sum" = none)
include cD fZ cV cP iD oJ bF rY iR mJ pH vJ vK mK mL mO jM yR aPo in
theorem bF3(F:FunD K "law" "law" aBp dV fa fd):FnOk P w K mg base CX0 10 fa fd ["_law_script"] (spI K 1 aGx):=by
 refine eF (k:=9) F aVj 1 18 aYw rfl rfl fun cdv A outer s H E B hr=>?_
 have nd:=aVj.nd
 refine aY ?_ ?_
 ·exact bEr (aL mJ hr (by decide) (aD (aA 0) (aD (aO) (aD (aO) (aQ))))) (aZ4 rfl (aDy 7 (aDy 8 (aUi) nd) nd))
 refine aY ?_ ?_
 ·exact cU 1 (gM cD (toP (aA 7))) nd
 refine aY ?_ ?_
 ·exact cU 2 (bBm yR hr (by decide) (aD (rT [16] iU (.of rfl) (nG (aA 7)) (fun _ _ _ _ _=>cL 16 nd) (fun _ _ _ _ _=>aJ2 iR (toP (aA 16))) rfl) (aD (aJ2 iR (toP (aA 8))) (aQ)))) nd
 refine aY ?_ ?_
 ·exact cU 3 (aL pH hr (by decide) (aD (aA 7) (aQ))) nd
 refine aY ?_ ?_
 ·exact cU 4 (aO) nd
 refine aY ?_ ?_
 ·exact cU 5 (aO) nd
 refine aY ?_ ?_
 ·exact qU (aBm cP (toP (aA 1))) (cL 6 nd) (aY (by exact cU 9 (bF2 aPo rfl (toP (rT [17] iU (.of rfl) (nG (aL iD hr (by decide) (aD (aA 7) (aD (aUe (toP (aD7 (toP (aO)) (toP (aA 1)))) (toP (aO))) (aD (aA 6) (aQ)))))) (fun _ _ _ _ _=>cL 17 nd) (fun _ _ _ _ _=>aD7 (toP (aO)) (toP (aA 17))) rfl))) nd) (by exact aY (by exact aFv 10  [12] iU (.of rfl) (nG (aA 3)) (fun _ _ _ _ _=>cL 12 nd) (fun _ _ _ _ _=>dD (eX hr.units) eY (toP (aLb (toP (aA 12)) (toP (aA 9)))) (toP (aA 9)) (cF _)) (fun _ _ _ _ _=>aA 12) rfl nd) (by exact aY (by exact aFv 11  [12] iU (.of rfl) (nG (aA 10)) (fun _ _ _ _ _=>cL 12 nd) (fun _ _ _ _ _=>dD (eX hr.units) eY (toP (qR (toP (aL vJ hr (by decide) (aD (aA 8) (aD (aA 12) (aQ))))) (toP (aO)))) (toP (aO)) (cF _)) (fun _ _ _ _ _=>aA 12) rfl nd) (by exact aY (by exact qH (dD (eX hr.units) eY (toP (aA 11)) (toP (aFg (aQ))) (cF _)) (bM (cU 4 (lV (toP (aA 4)) (toP (aD7 (toP (aO)) (toP (aA 6))))) nd)) (jV)) (by exact aY (by exact qH (dD (eX hr.units) eY (toP (gM cD (toP (aA 11)))) (toP (gM cD (toP (aA 10)))) (cF _)) (bM (cU 5 (lV (toP (aA 5)) (toP (aD7 (toP (aO)) (toP (aA 6))))) nd)) (jV)) (by exact aY (by exact cU 12 (fM hr.units (toP (aA 10)) (toP (aL cV hr (by decide) (aD (aL fZ hr (by decide) (aD (aA 0) (aD (aO) (aQ)))) (aD (lV (toP (aO)) (toP (aA 6))) (aD (gM cD (toP (aA 10))) (aQ))))))) nd) (by exact aY (by exact cU 13 (fM hr.units (toP (oG [17] iU (.of rfl) (aBm cP (toP (aA 1))) (fun _ _ _ _ _=>cL 17 nd) (fun _ _ _ _ _=>dD (eX hr.units) eY (toP (aAb (toP (aLa (toP (aA 12)) (toP (aA 17)))) (toP (aO)))) (toP (aO)) (cF _)) (fun _ _ _ _ _=>aA 17) rfl)) (toP (aO))) nd) (by exact aY (by exact cU 14 (aL oJ hr (by decide) (aD (aA 2) (aD (aUe (toP (aD7 (toP (aO)) (toP (aA 1)))) (toP (aO))) (aD (aA 6) (aD (aA 13) (aQ)))))) nd) (by exact aY (by exact cU 15 (aN0 (pl:=_) (MethOkX.calm jM) hr (by decide) (aA 2) (aD (aUg (aD (aA 14) (aD (aL (DefOkX.calm vK) hr (by decide) (aD (aA 2) (aD (aA 12) (aD (aA 13) (aQ))))) (aQ)))) (aD (aA 6) (aQ)))) nd) (by exact bM (qH (PW.pt (aXi (qT (iC (lX ty_bool bF rY (toP (aA 15))))) (aOw (dD (aCj hr.units) aCk (toP (aA 15)) (toP (gK (aIy hr.units) aIz (toP (aA 12)) (toP (aA 11)) rfl)) (cF _))))) (bM (cN (aIo))) (jV)))))))))))) PassesOwn.never rfl
 refine aY ?_ ?_
 ·exact qH (PW.pt (aXi (qT (iC (aL mK hr (by decide) (aD (aL mL hr (by decide) (aD (aA 2) (aQ))) (aQ))))) (aOw (qT (iC (aL mK hr (by decide) (aD (aL mO hr (by decide) (aD (aA 2) (aQ))) (aQ)))))))) (bM (cN (aIo))) (jV)
 exact bM (cN (tD (gK (eX hr.units) eY (toP (aL mL hr (by decide) (aD (aA 2) (aQ)))) (toP (aA 4)) (cF _)) (rQ (gK (eX hr.units) eY (toP (aL mO hr (by decide) (aD (aA 2) (aQ)))) (toP (aA 5)) (cF _)))))
end
theorem all_mk {l : OpenLaw}  {K : Frag}    {BE newE initE : String} {bmE : List Value} (FE : ExcBaseFacts BE newE initE bmE) (X : K.In h) (G : h.Ns mainGlobals mg) (hfa : mg "law" = some (.ref fa))
      {X_NoMachine:Addr}   {f18:Addr} {od18 an18:Option Addr} {sl18:Array (Option Value)} {oc18 kV18 dc18 pm18 cd18 ct18:Value} {f35:Addr} {od35 an35:Option Addr} {sl35:Array (Option Value)} {oc35 kV35 dc35 pm35 cd35 ct35:Value} {f36:Addr} {od36 an36:Option Addr} {sl36:Array (Option Value)} {oc36 kV36 dc36 pm36 cd36 ct36:Value} {T36:Addr} {toc36:Value} {tod36:Option Addr} {tsl36:Array (Option Value)} {tn36:Nat} {tk36_0:Tok} {f37:Addr} {od37 an37:Option Addr} {sl37:Array (Option Value)} {oc37 kV37 dc37 pm37 cd37 ct37:Value} {T37:Addr} {toc37:Value} {tod37:Option Addr} {tsl37:Array (Option Value)} {tn37:Nat} {tk37_0:Tok} {f42:Addr} {od42 an42:Option Addr} {sl42:Array (Option Value)} {oc42 kV42 dc42 pm42 cd42 ct42:Value} {f43:Addr} {od43 an43:Option Addr} {sl43:Array (Option Value)} {oc43 kV43 dc43 pm43 cd43 ct43:Value}   
  (x_Machine:nsIn K mainGlobals (Str.ofString "Machine")=some (some (.ref A_Machine)))
  (x1_Machine:PySem.W.plainGet K A_Machine Str.empty=true)
  (x2_Machine:PySem.W.hasDictIn K A_Machine=true)
  (x3_Machine:PySem.W.plainOver K A_Machine=true)
  (x4_Machine:findIn K (.ref A_Machine) "__setattr__" = some (some (.builtin "object.__setattr__")))
  (x5_Machine:PySem.W.makesIn K A_Machine=true)
  (x6_Machine:keepIn K (.ref A_Machine)=true)
  (w_Machine_letters:findIn K (.ref A_Machine) (Str.ofString "letters")=some none)
  (w_Machine_many:findIn K (.ref A_Machine) (Str.ofString "many")=some none)
  (w_Machine_ranks:findIn K (.ref A_Machine) (Str.ofString "ranks")=some none)
  (w_Machine_steps:findIn K (.ref A_Machine) (Str.ofString "steps")=some none)
  (y3:specialIn K (.builtin "object.__class__") "__get__" = some (some (.builtin "getset_descriptor.__get__")))
  (y4:takesIn K (.builtin "object.__class__")=some true)
  (Y_NoLoop:XA K "NoLoop" X_NoLoop bmE newE)
  (Y_NoMachine:XA K "NoMachine" X_NoMachine bmE newE)
  (Y_NoRoom:XA K "NoRoom" X_NoRoom bmE newE)
  (Y_NoWord:XA K "NoWord" X_NoWord bmE newE)
  (D1:DA K "_law_cell" xV)
  (D2:DA K "_law_mix" aAd)
  (D3:DA K "_law_machine" pZ)
  (D4:DA K "_law_ahead" uW)
  (D5:DA K "_law_is_loop" qC)
  (D6:DA K "_law_loops" uX)
  (D7:DA K "_law_top" aAe)
  (D8:DA K "has_room" aAf)
  (D9:DA K "ways_from" xW)
  (D10:DA K "rooms_of" aAg)
  (D11:DA K "way_in" aG4)
  (D12:DA K "bits_of" aCn)
  (D13:DA K "seen_among" uY)
  (D14:DA K "goes_round" uZ)
  (D15:DA K "parts_among" rW)
  (D16:DA K "loop_parts" vA)
  (D17:DA K "is_loop" aCo)
  (a18:findIn K (.ref A_Machine) (Str.ofString "rooms_along")=some (some (.ref f18)))
  (e18:isFn K (.ref f18)=true)
  (l18:K.lookup f18=some ⟨oc18,od18,.func (fnOf "rooms_along" "Machine.rooms_along" (fL cX) (dB cX) (aG cX) .none kV18 dc18 pm18 an18 cd18 ct18),sl18⟩)
  (c18:codeIn K cd18 "Machine.rooms_along" = true)
  (k18:keepIn K (.ref f18)=true)
  (D19:DA K "round_in" aAh)
  (D20:DA K "_law_whole" vB)
  (D21:DA K "all_rooms" xX)
  (D22:DA K "joined" aG5)
  (D23:DA K "ranks_of_sort" oR)
  (D24:DA K "top_rank" aAi)
  (D25:DA K "parts_topped" qD)
  (D26:DA K "loops_of_sort" oU)
  (D27:DA K "reaching" aAj)
  (D28:DA K "never_coming_to" mC)
  (D29:DA K "dead_rooms" vC)
  (D30:DA K "sure_rooms" vD)
  (D31:DA K "is_word" aCp)
  (D32:DA K "is_endless" vG)
  (D33:DA K "is_whole" aAk)
  (D34:DA K "is_below" aAl)
  (a35:findIn K (.ref A_Machine) (Str.ofString "check_room")=some (some (.ref f35)))
  (e35:isFn K (.ref f35)=true)
  (l35:K.lookup f35=some ⟨oc35,od35,.func (fnOf "check_room" "Machine.check_room" (fL dI) (dB dI) (aG dI) .none kV35 dc35 pm35 an35 cd35 ct35),sl35⟩)
  (c35:codeIn K cd35 "Machine.check_room" = true)
  (k35:keepIn K (.ref f35)=true)
  (a36:findIn K (.ref A_Machine) (Str.ofString "walk")=some (some (.ref f36)))
  (e36:isFn K (.ref f36)=true)
  (l36:K.lookup f36=some ⟨oc36,od36,.func (fnOf "walk" "Machine.walk" (fL gP) (dB gP) (aG gP) (.ref T36) kV36 dc36 pm36 an36 cd36 ct36),sl36⟩)
  (t36:K.lookup T36=some ⟨toc36,tod36,.seq #[.int 0 tk36_0] tn36,tsl36⟩)
  (c36:codeIn K cd36 "Machine.walk" = true)
  (k36:keepIn K (.ref f36)=true)
  (a37:findIn K (.ref A_Machine) (Str.ofString "lets")=some (some (.ref f37)))
  (e37:isFn K (.ref f37)=true)
  (l37:K.lookup f37=some ⟨oc37,od37,.func (fnOf "lets" "Machine.lets" (fL gQ) (dB gQ) (aG gQ) (.ref T37) kV37 dc37 pm37 an37 cd37 ct37),sl37⟩)
  (t37:K.lookup T37=some ⟨toc37,tod37,.seq #[.int 0 tk37_0] tn37,tsl37⟩)
  (c37:codeIn K cd37 "Machine.lets" = true)
  (k37:keepIn K (.ref f37)=true)
  (D38:DA K "is_filled_list" nM)
  (D39:DA K "is_row" aG6)
  (D40:DA K "are_steps" xY)
  (D41:DA K "are_ranks" xZ)
  (a42:findIn K (.ref A_Machine) (Str.ofString "__init__")=some (some (.ref f42)))
  (e42:isFn K (.ref f42)=true)
  (l42:K.lookup f42=some ⟨oc42,od42,.func (fnOf "__init__" "Machine.__init__" (fL dZ) (dB dZ) (aG dZ) .none kV42 dc42 pm42 an42 cd42 ct42),sl42⟩)
  (c42:codeIn K cd42 "Machine.__init__" = true)
  (k42:keepIn K (.ref f42)=true)
  (a43:nsIn K mainGlobals "law" = some (some (.ref f43)))
  (l43:K.lookup f43=some ⟨oc43,od43,.func (fnOf "law" "law" (fL aBp) (dB aBp) (aG aBp) .none kV43 dc43 pm43 an43 cd43 ct43),sl43⟩)
  (c43:codeIn K cd43 "law" = true)
  (k43:keepIn K (.ref f43)=true)
  (v_LETTERS:nsIn K mainGlobals "LETTERS" = some (some (.str "abc" t_LETTERS)))
  (v_MOST_LETTERS:nsIn K mainGlobals "MOST_LETTERS" = some (some (.int 3 t_MOST_LETTERS)))
  (v_MOST_ROOMS:nsIn K mainGlobals "MOST_ROOMS" = some (some (.int 8 t_MOST_ROOMS)))
  (z_all:nsIn K mainGlobals "all" = some none)
  (z_bool:nsIn K mainGlobals "bool" = some none)
  (z_int:nsIn K mainGlobals "int" = some none)
  (z_isinstance:nsIn K mainGlobals "isinstance" = some none)
  (z_len:nsIn K mainGlobals "len" = some none)
  (z_list:nsIn K mainGlobals "list" = some none)
  (z_max:nsIn K mainGlobals "max" = some none)
  (z_range:nsIn K mainGlobals "range" = some none)
  (z_set:nsIn K mainGlobals "set" = some none)
  (z_sorted:nsIn K mainGlobals "sorted" = some none)
  (z_str:nsIn K mainGlobals "str" = some none)
  (z_sum:nsIn K mainGlobals "sum" = some none)
  (z_tuple:nsIn K mainGlobals "tuple" = some none)
  (z_zip:nsIn K mainGlobals "zip" = some none) :
  ∃ fd:FuncData,(∀ (s:Shared) (v:Value),BindsTo s fd ⟨[v],[]⟩ [("_law_script", v)])/\∀ base:Heap,K.In base->base.Ns mainGlobals mg->FnOk l.prog w K mg base CX0 10 fa fd ["_law_script"] (spI K 1 aGx):=by
 have e:=hfa.symm.trans (mg_of X G a43)
 cases e
 have c_Machine:ClsAt K "Machine" A_Machine:=⟨x_Machine,x1_Machine,x2_Machine,x3_Machine,x4_Machine⟩
 have dF:jO K A_Machine (Str.ofString "letters"):=w_Machine_letters
 have cB:jO K A_Machine (Str.ofString "many"):=w_Machine_many
 have bK:jO K A_Machine (Str.ofString "ranks"):=w_Machine_ranks
 have bB:jO K A_Machine (Str.ofString "steps"):=w_Machine_steps
 obtain⟨bm_NoLoop,e_NoLoop⟩:=Y_NoLoop.at FE y3 y4
 have y_NoLoop:=Y_NoLoop.a
 have lG:=mg_of X G y_NoLoop
 obtain⟨bm_NoMachine,e_NoMachine⟩:=Y_NoMachine.at FE y3 y4
 have y_NoMachine:=Y_NoMachine.a
 have ge_NoMachine:=mg_of X G y_NoMachine
 obtain⟨bm_NoRoom,e_NoRoom⟩:=Y_NoRoom.at FE y3 y4
 have y_NoRoom:=Y_NoRoom.a
 have yP:=mg_of X G y_NoRoom
 obtain⟨bm_NoWord,e_NoWord⟩:=Y_NoWord.at FE y3 y4
 have y_NoWord:=Y_NoWord.a
 have yQ:=mg_of X G y_NoWord
 have F18:=yN (st:=cX) l18 c18 k18
 have b18:=F18.binds0 (ps:=["self", "room", "text"]) fun _ _ _ _ _ _=>iV (fun _ _ _=>rfl)
 have F35:=yN (st:=dI) l35 c35 k35
 have b35:=F35.binds0 (ps:=["self", "thing"]) fun _ _ _ _ _ _=>eZ (fun _ _=>rfl)
 have F36:=yN (st:=gP) l36 c36 k36
 have b36_0:Binds K _ ["self", "word", "room"] []:=F36.binds (m:=3) t36 rfl rfl fun _ _ _ _ _ _=>iV (fun _ _ _=>⟨_,rfl,rfl⟩)
 have F37:=yN (st:=gQ) l37 c37 k37
 have b37_0:Binds K _ ["self", "word", "room"] []:=F37.binds (m:=3) t37 rfl rfl fun _ _ _ _ _ _=>iV (fun _ _ _=>⟨_,rfl,rfl⟩)
 have F42:=bA3 (st:=dZ) l42 c42 k42
 have b42:=F42.binds (ps:=["self", "steps", "ranks"]) fun _ _ _ _ _ _=>iV (fun _ _ _=>rfl)
 have F43:=yN (st:=aBp) l43 c43 k43
 have b43:=F43.binds0 (ps:=["_law_script"]) fun _ _ _ _ _ _=>kE (fun _=>rfl)
 have yE:=mg_none_of X G z_all
 have rY:=mg_none_of X G z_bool
 have aGc:=mg_none_of X G z_int
 have bF:=mg_none_of X G z_isinstance
 have cD:=mg_none_of X G z_len
 have iR:=mg_none_of X G z_list
 have zQ:=mg_none_of X G z_max
 have cP:=mg_none_of X G z_range
 have aPm:=mg_none_of X G z_set
 have aBv:=mg_none_of X G z_sorted
 have aPn:=mg_none_of X G z_str
 have aPo:=mg_none_of X G z_sum
 have aE5:=mg_none_of X G z_tuple
 have aPl:=mg_none_of X G z_zip
 have g_LETTERS:=mg_of X G v_LETTERS
 have g_MOST_LETTERS:=mg_of X G v_MOST_LETTERS
 have g_MOST_ROOMS:=mg_of X G v_MOST_ROOMS
 refine⟨fnOf "law" "law" (fL aBp) (dB aBp) (aG aBp) .none kV43 dc43 pm43 an43 cd43 ct43,fun s v => .of_eq rfl,fun base _ _=>?_⟩
 have C:Ct l.prog w K mg base h:=⟨X,G⟩
 have fZ:=D1.ok C (aLk cD) fun _ _ _ _ _ _=>eZ (fun _ _=>rfl)
 have cV:=D2.ok C (aN7) fun _ _ _ _ _ _=>iV (fun _ _ _=>rfl)
 have mJ:=D3.ok C (aGa fZ cV cP) fun _ _ _ _ _ _=>iV (fun _ _ _=>rfl)
 have iD:=D4.ok C (aJ7 cD) fun _ _ _ _ _ _=>iV (fun _ _ _=>rfl)
 have mG:=D5.ok C (aGb cD cP iD) fun _ _ _ _ _ _=>eZ (fun _ _=>rfl)
 have pH:=D6.ok C (aJ8 cD cP mG) fun _ _ _ _ _ _=>kE (fun _=>rfl)
 have vJ:=D7.ok C (aN8 cD cP zQ) fun _ _ _ _ _ _=>eZ (fun _ _=>rfl)
 have cW:=D8.ok C (aN9) fun _ _ _ _ _ _=>eZ (fun _ _=>rfl)
 have qX:=D9.ok C (aLl cD aPl g_LETTERS) fun _ _ _ _ _ _=>iV (fun _ _ _=>rfl)
 have bO:=D10.ok C (aNa cP cW) fun _ _ _ _ _ _=>kE (fun _=>rfl)
 have oJ:=D11.ok C (aVk cW qX bO c_Machine bB) fun _ _ _ _ _ _=>aXw (fun _ _ _ _=>rfl)
 have dN:=D12.ok C (aRq) fun _ _ _ _ _ _=>kE (fun _=>rfl)
 have iG:=D13.ok C (aJ9 cW bO dN) fun _ _ _ _ _ _=>eZ (fun _ _=>rfl)
 have pF:=D14.ok C (aJa cD bO) fun _ _ _ _ _ _=>eZ (fun _ _=>rfl)
 have nY:=D15.ok C (aGk cW bO dN iG pF) fun _ _ _ _ _ _=>eZ (fun _ _=>rfl)
 have iH:=D16.ok C (aJb c_Machine bB nY) fun _ _ _ _ _ _=>eZ (fun _ _=>rfl)
 have yO:=D17.ok C (aRr iH) fun _ _ _ _ _ _=>eZ (fun _ _=>rfl)
 have f_Machine_rooms_along:=wB (P:=l.prog) (w:=w) (mg:=mg) (base:=base) g_LETTERS c_Machine bB F18
 have bW:MethOkF l.prog w K mg base "Machine" "rooms_along" 1 3 [] bG:=MethOkF.of (dvs:=[]) c_Machine ⟨a18,e18,k18⟩ f_Machine_rooms_along b18 (.nil) fun _ => .nil
 have vK:=D19.okX C (aNb g_LETTERS cW bO c_Machine bB yO oJ bW e_NoLoop lG) fun _ _ _ _ _ _=>iV (fun _ _ _=>rfl)
 have mK:=D20.ok C (aJc bF aGc rY) fun _ _ _ _ _ _=>kE (fun _=>rfl)
 have jD:=D21.ok C (aLm cP c_Machine dN cB iR) fun _ _ _ _ _ _=>kE (fun _=>rfl)
 have aBw:=D22.ok C (aVl) fun _ _ _ _ _ _=>kE (fun _=>rfl)
 have kI:=D23.ok C (aDn bO c_Machine bK aBv aPm) fun _ _ _ _ _ _=>iV (fun _ _ _=>rfl)
 have vH:=D24.okX C (aNc zQ bO c_Machine e_NoLoop lG bK) fun _ _ _ _ _ _=>eZ (fun _ _=>rfl)
 have mH:=D25.okF C (aGd bO c_Machine dN iH bK vH) fun _ _ _ _ _ _=>iV (fun _ _ _=>rfl)
 have kJ:=D26.ok C (aDo kI mH) fun _ _ _ _ _ _=>iV (fun _ _ _=>rfl)
 have vI:=D27.ok C (aNd cP c_Machine bB dN iG cB jD) fun _ _ _ _ _ _=>eZ (fun _ _=>rfl)
 have dM:=D28.ok C (aBx jD aBw kJ vI) fun _ _ _ _ _ _=>eZ (fun _ _=>rfl)
 have mL:=D29.ok C (aJd dM) fun _ _ _ _ _ _=>kE (fun _=>rfl)
 have mO:=D30.ok C (aJe dM) fun _ _ _ _ _ _=>kE (fun _=>rfl)
 have tU:=D31.ok C (aRs g_LETTERS bF aPn) fun _ _ _ _ _ _=>eZ (fun _ _=>rfl)
 have pG:=D32.ok C (aJf cD bF tU aE5) fun _ _ _ _ _ _=>eZ (fun _ _=>rfl)
 have kY:=D33.ok C (aNe bF aGc rY) fun _ _ _ _ _ _=>kE (fun _=>rfl)
 have kZ:=D34.ok C (aNf kY) fun _ _ _ _ _ _=>eZ (fun _ _=>rfl)
 have f_Machine_check_room:=yD (P:=l.prog) (w:=w) (mg:=mg) (base:=base) c_Machine cB kZ e_NoRoom yP F35
 have fB:MethOkX l.prog w K mg base "Machine" "check_room" 3 2 [] dG:=MethOkX.of (dvs:=[]) c_Machine ⟨a35,e35,k35⟩ f_Machine_check_room b35 (.nil) fun _ => .nil
 have f_Machine_walk:=aGe (P:=l.prog) (w:=w) (mg:=mg) (base:=base) cD c_Machine bW pG fB dF e_NoWord yQ F36
 have jL:MethOkX l.prog w K mg base "Machine" "walk" 4 3 [] iZ:=MethOkX.of (dvs:=[]) c_Machine ⟨a36,e36,k36⟩ f_Machine_walk b36_0 (.nil) fun _ => .nil
 have f_Machine_lets:=aGf (P:=l.prog) (w:=w) (mg:=mg) (base:=base) zQ c_Machine bK jL F37
 have jM:MethOkX l.prog w K mg base "Machine" "lets" 5 3 [] jA:=MethOkX.of (dvs:=[]) c_Machine ⟨a37,e37,k37⟩ f_Machine_lets b37_0 (.nil) fun _ => .nil
 have gU:=D38.ok C (aCq cD bF iR) fun _ _ _ _ _ _=>eZ (fun _ _=>rfl)
 have aBy:=D39.ok C (aVm cD kZ yE) fun _ _ _ _ _ _=>iV (fun _ _ _=>rfl)
 have qY:=D40.ok C (aLn cD yE gU aBy g_MOST_ROOMS g_MOST_LETTERS) fun _ _ _ _ _ _=>kE (fun _=>rfl)
 have qZ:=D41.ok C (aLo cD bF iR kY yE) fun _ _ _ _ _ _=>eZ (fun _ _=>rfl)
 have f_Machine___init__:=aAm (P:=l.prog) (w:=w) (mg:=mg) (base:=base) cD c_Machine bB cB iR bK dF qY qZ F42
 have yR:=MakeOk.of c_Machine ⟨x5_Machine,a42,e42,x6_Machine⟩ f_Machine___init__ b42 (mg_of X G x_Machine)
 have f_law:=bF3 (P:=l.prog) (w:=w) (mg:=mg) (base:=base) cD fZ cV cP iD oJ bF rY iR mJ pH vJ vK mK mL mO jM yR aPo F43
 exact f_law
theorem aYk{q:Program}   {K:Params->Frag} {as:List Addr} {t:Nat} {r:PySem.W.RowW} {d:DefRec} {kwd:List (Str × Expr)} {run:Value->List Value->Sem Value} (e:∀ P,as=(K P).map (·.1)) (h:WalkO q loose XP (InK K) r d kwd run):PySem.W.WalkX q loose XP (PySem.W.X.obsZ as) (PySem.W.X.valZ K n t) r d kwd run :=
 fun w s₀ s₁ mg mb G y a o pm cd doc dV kV h1 h2 h3 h4 h5 h6 args vals as' L h7 h8 h9 h10 h11=>h w s₀ s₁ mg mb G (PySem.W.InK.keeps w _ _ (PySem.W.X.z_facts e y).2.1 L.keeps) a o pm cd doc dV kV h1 h2 h3 h4 h5 h6 args vals as' h7 h8 h9 h10 h11
theorem walk{l:OpenLaw}{q:Program}   {YP:World->Heap->Prop} {d:DefRec} {K:Params->Frag} (hn:l.most=some 63) (hdf:d.params.defaults=[])
  (hY:∀ (w:World) (h:Heap),YP w h->(K w.params).In h)
  (hlaw:∀ ns:List Int,ns.length<=63->aGx [.lst (ns.map D.int)] = .ok (.bl true))
  (F:∀ (w:World) (mg:Str->Option Value) (fa:Addr) (h:Heap),(K w.params).In h->h.Ns mainGlobals mg->mg d.name=some (.ref fa) ->
   ∃ fd:FuncData,(∀ (s:Shared) (u:Value),BindsTo s fd ⟨[u],[]⟩ [("_law_script", u)])/\∀ base:Heap,(K w.params).In base->base.Ns mainGlobals mg->FnOk l.prog w (K w.params) mg base CX0 10 fa fd ["_law_script"] (spI (K w.params) 1 aGx)) :
  WalkO q loose XP YP l.row.toRowW d [] (fun f vs=>PySem.call f vs) :=
 L2.walk_of (n:=63) (k:=10) (x := "_law_script") (CX:=fun _=>CX0) (sp:=fun w=>spI (K w.params) 1 aGx) hn (by decide) hdf ⟨rfl,by decide,by decide⟩ hY F (fun _ _ a ns hl _ hS=>bBg hS (hlaw ns hl)) fun _ _ _ _ _ z=>z
end Pu
namespace PySem.W.Fast
def tw13025770734039322060:=0
def tw2813419089331288720:=0
def tw6356248074966494448:=0
def tw1973416697824581894:=0
def tw2126273559013032910:=0
def tw5545270608013308587:=0
def tw15434394168052310492:=0
def tw11090986295835112499:=0
def tw4891073949204636397:=0
def tw14379489839185566091:=0
def tw16044183086650672769:=0
def tw13117592844677999342:=0
def tw10792533430452346739:=0
def tw6115836046745914061:=0
def tw17615288583697386081:=0
def tw13683249962419057482:=0
def tw3736454768685070483:=0
def tw1162001039470073654:=0
def tw14960627582905594175:=0
def tw10167149910173274538:=0
def tw10756711205485480435:=0
def tw2198571581613425678:=0
def tw16405589378203668437:=0
def tw14776928939061667695:=0
def tw9234092694442248632:=0
def tw13604932284084997144:=0
def tw6005681718005895108:=0
def tw13150075529059407702:=0
def tw14516852902466703375:=0
def tw17027425818342133842:=0
def tw12575667688162749133:=0
def tw9975567742162564238:=0
def tw2711321852326928275:=0
def tw7251456299497251504:=0
def tw214870875321376919:=0
def tw2275561407879107486:=0
def tw4471552058858859429:=0
def tw13320232121320177258:=0
def tw17768607937316952715:=0
def tw9377221297788019144:=0
def tw15224533960162293574:=0
def tw6023360265027373135:=0
def tw6944894446405272118:=0
def tw6893585283725488892:=0
def tw2272838304068560493:=0
def tw4417910080984948489:=0
def tw15948604694294021144:=0
def tw15535036262468799453:=0
def tw5611808265408831520:=0
def tw8869009017437991688:=0
def tw10120283587585420522:=0
def tw2443451228887081119:=0
def tw3277679991069622548:=0
def tw4465948700073902665:=0
def tw6669202250132462605:=0
def tw12830634792297001115:=0
def tw6894959873049476302:=0
def tw18014291695585592594:=0
def tw2159617832854286041:=0
def tw808843672630345031:=0
def tw5516269002531913182:=0
def tw14346430216527797526:=0
def tw347507846198910272:=0
def tw5665542927433953078:=0
def tw1507986335058191127:=0
def tw15750575607087211842:=0
def tw11608199429853920372:=0
def tw7198052102481560955:=0
def tw16366769880175724006:=0
def tw4311457967705322136:=0
def tw17928007671144397945:=0
def tw8939589175101210721:=0
def tw4907752683399452759:=0
def tw1259525846409483479:=0
def tw8426802085244583587:=0
def tw2410548090724352874:=0
def tw15173979759197893271:=0
def tw13192327392048620892:=0
def tw9126331708580600797:=0
def tw3590361978918012384:=0
def tw1087878415842166679:=0
def tw10599204708603112916:=0
def tw15447834779104249327:=0
end PySem.W.Fast
open PySem PySem.W PyProof.Rows
set_option maxRecDepth 100000 in
set_option maxHeartbeats 0 in
theorem PySem.Challenge.cw_looprank_k25_dead_and_sure_holds : PySem.Challenge.rw_looprank_k25_dead_and_sure.Holds := by
 w_on;o_law;z_head;(case hw=>w_witness2)
 k_fill
 refine Pu.aYk (fun P=>by kernel_rfl) (Pu.walk (l:=PySem.Challenge.rw_looprank_k25_dead_and_sure) rfl rfl (fun w h Y=>Y) Pu.law_true ?F)
 case F =>
  intro w mg fa h KX G hmg
  refine' Pu.all_mk PySem.F.excBase_ValueError KX G hmg ?x_Machine ?x1_Machine ?x2_Machine ?x3_Machine ?x4_Machine ?x5_Machine ?x6_Machine ?w_Machine_letters ?w_Machine_many ?w_Machine_ranks ?w_Machine_steps ?y3 ?y4 (Pu.XA.mk ?y_NoLoop ?y0_NoLoop ?y1_NoLoop ?y6_NoLoop ?y7_NoLoop ?y2_NoLoop ?y5_NoLoop) (Pu.XA.mk ?y_NoMachine ?y0_NoMachine ?y1_NoMachine ?y6_NoMachine ?y7_NoMachine ?y2_NoMachine ?y5_NoMachine) (Pu.XA.mk ?y_NoRoom ?y0_NoRoom ?y1_NoRoom ?y6_NoRoom ?y7_NoRoom ?y2_NoRoom ?y5_NoRoom) (Pu.XA.mk ?y_NoWord ?y0_NoWord ?y1_NoWord ?y6_NoWord ?y7_NoWord ?y2_NoWord ?y5_NoWord) (Pu.dX ?a1 ?l1 ?c1 ?k1) (Pu.dX ?a2 ?l2 ?c2 ?k2) (Pu.dX ?a3 ?l3 ?c3 ?k3) (Pu.dX ?a4 ?l4 ?c4 ?k4) (Pu.dX ?a5 ?l5 ?c5 ?k5) (Pu.dX ?a6 ?l6 ?c6 ?k6) (Pu.dX ?a7 ?l7 ?c7 ?k7) (Pu.dX ?a8 ?l8 ?c8 ?k8) (Pu.dX ?a9 ?l9 ?c9 ?k9) (Pu.dX ?a10 ?l10 ?c10 ?k10) (Pu.dX ?a11 ?l11 ?c11 ?k11) (Pu.dX ?a12 ?l12 ?c12 ?k12) (Pu.dX ?a13 ?l13 ?c13 ?k13) (Pu.dX ?a14 ?l14 ?c14 ?k14) (Pu.dX ?a15 ?l15 ?c15 ?k15) (Pu.dX ?a16 ?l16 ?c16 ?k16) (Pu.dX ?a17 ?l17 ?c17 ?k17) ?a18 ?e18 ?l18 ?c18 ?k18 (Pu.dX ?a19 ?l19 ?c19 ?k19) (Pu.dX ?a20 ?l20 ?c20 ?k20) (Pu.dX ?a21 ?l21 ?c21 ?k21) (Pu.dX ?a22 ?l22 ?c22 ?k22) (Pu.dX ?a23 ?l23 ?c23 ?k23) (Pu.dX ?a24 ?l24 ?c24 ?k24) (Pu.dX ?a25 ?l25 ?c25 ?k25) (Pu.dX ?a26 ?l26 ?c26 ?k26) (Pu.dX ?a27 ?l27 ?c27 ?k27) (Pu.dX ?a28 ?l28 ?c28 ?k28) (Pu.dX ?a29 ?l29 ?c29 ?k29) (Pu.dX ?a30 ?l30 ?c30 ?k30) (Pu.dX ?a31 ?l31 ?c31 ?k31) (Pu.dX ?a32 ?l32 ?c32 ?k32) (Pu.dX ?a33 ?l33 ?c33 ?k33) (Pu.dX ?a34 ?l34 ?c34 ?k34) ?a35 ?e35 ?l35 ?c35 ?k35 ?a36 ?e36 ?l36 ?t36 ?c36 ?k36 ?a37 ?e37 ?l37 ?t37 ?c37 ?k37 (Pu.dX ?a38 ?l38 ?c38 ?k38) (Pu.dX ?a39 ?l39 ?c39 ?k39) (Pu.dX ?a40 ?l40 ?c40 ?k40) (Pu.dX ?a41 ?l41 ?c41 ?k41) ?a42 ?e42 ?l42 ?c42 ?k42 ?a43 ?l43 ?c43 ?k43 ?v_LETTERS ?v_MOST_LETTERS ?v_MOST_ROOMS ?z_all ?z_bool ?z_int ?z_isinstance ?z_len ?z_list ?z_max ?z_range ?z_set ?z_sorted ?z_str ?z_sum ?z_tuple ?z_zip
  (case x_Machine | x1_Machine | x2_Machine | x3_Machine | x4_Machine | x5_Machine | x6_Machine | w_Machine_letters | w_Machine_many | w_Machine_ranks | w_Machine_steps | y3 | y4 | y_NoLoop=>k_is)
  (case y0_NoLoop=>k_exc)
  (case y1_NoLoop | y6_NoLoop | y7_NoLoop | y2_NoLoop | y5_NoLoop | y_NoMachine=>k_is)
  (case y0_NoMachine=>k_exc)
  (case y1_NoMachine | y6_NoMachine | y7_NoMachine | y2_NoMachine | y5_NoMachine | y_NoRoom=>k_is)
  (case y0_NoRoom=>k_exc)
  (case y1_NoRoom | y6_NoRoom | y7_NoRoom | y2_NoRoom | y5_NoRoom | y_NoWord=>k_is)
  (case y0_NoWord=>k_exc)
  (case y1_NoWord | y6_NoWord | y7_NoWord | y2_NoWord | y5_NoWord | a1 | l1 | c1 | k1 | a2 | l2 | c2 | k2 | a3 | l3 | c3 | k3 | a4 | l4 | c4 | k4 | a5 | l5 | c5=>k_is)
  (case k5 | a6 | l6 | c6 | k6 | a7 | l7 | c7 | k7 | a8 | l8 | c8 | k8 | a9 | l9 | c9 | k9 | a10 | l10 | c10 | k10 | a11 | l11 | c11=>k_is)
  (case k11 | a12 | l12 | c12 | k12 | a13 | l13 | c13 | k13 | a14 | l14 | c14 | k14 | a15 | l15 | c15 | k15 | a16 | l16 | c16 | k16 | a17 | l17 | c17=>k_is)
  (case k17 | a18 | e18 | l18 | c18 | k18 | a19 | l19 | c19 | k19 | a20 | l20 | c20 | k20 | a21 | l21 | c21 | k21 | a22 | l22 | c22 | k22 | a23 | l23=>k_is)
  (case c23 | k23 | a24 | l24 | c24 | k24 | a25 | l25 | c25 | k25 | a26 | l26 | c26 | k26 | a27 | l27 | c27 | k27 | a28 | l28 | c28 | k28 | a29 | l29=>k_is)
  (case c29 | k29 | a30 | l30 | c30 | k30 | a31 | l31 | c31 | k31 | a32 | l32 | c32 | k32 | a33 | l33 | c33 | k33 | a34 | l34 | c34 | k34 | a35 | e35=>k_is)
  (case l35 | c35 | k35 | a36 | e36 | l36 | t36 | c36 | k36 | a37 | e37 | l37 | t37 | c37 | k37 | a38 | l38 | c38 | k38 | a39 | l39 | c39 | k39 | a40=>k_is)
  (case l40 | c40 | k40 | a41 | l41 | c41 | k41 | a42 | e42 | l42 | c42 | k42 | a43 | l43 | c43 | k43 | v_LETTERS | v_MOST_LETTERS | v_MOST_ROOMS | z_all | z_bool | z_int | z_isinstance | z_len=>k_is)
  (case z_list | z_max | z_range | z_set | z_sorted | z_str | z_sum | z_tuple | z_zip=>k_is)
