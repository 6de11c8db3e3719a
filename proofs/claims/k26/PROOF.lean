import PyProof.Rows.All
import Wide.All
import OpenK.AllK
import Wide.FinOn
import Lean
import PyProof.EqAt
import PyProof.EqKinds
import PyProof.TupleCall
import PyProof.P3Eq
import PyProof.NeKinds
import PyProof.NsDelKeeps
import PyProof.RulesAs
import PyProof.ExcAttrAll.ValueError
import PySem.Challenge.RW_looprank_k26_whole_rings_are_loops
set_option Elab.async false
set_option linter.all false
set_option maxRecDepth 100000
namespace L2
open PySem PySem.Spec PyProof.Rows
abbrev Key:=Sum Int Str
def aA9:Key->Value->Bool
 | .inl k,v=>Value.isInt k v
 | .inr x,v=>Value.isStrOf x v
def bCo(w:World):Key->Int
 | .inl k=>hashInt k
 | .inr x=>hashStr w x
theorem eE:∀ {k:Key} {v:Value},aA9 k v=true->(∃ i t,k=Sum.inl i/\v=Value.int i t)\/(∃ x t,k=Sum.inr x/\v=Value.str x t)
 | .inl i,v,h=>by
  obtain ⟨t,e⟩:=Value.isInt_shape (k:=i) (v:=v) h
  exact .inl ⟨i,t,rfl,e⟩
 | .inr x,v,h=>by
  obtain ⟨t,e⟩:=Value.isStrOf_shape (x:=x) (v:=v) h
  exact .inr ⟨x,t,rfl,e⟩
theorem aMd(i:Int)(t:Tok):aA9 (.inl i) (.int i t)=true:=by simp [aA9,Value.isInt]
theorem aMe(x:Str)(t:Tok):aA9 (.inr x) (.str x t)=true:=by simp [aA9,Value.isStrOf]
theorem aNy(a b:Int):decide ((Sum.inl a:Key)=Sum.inl b)=(a==b):=by
 by_cases e:a=b
 ·subst e;simp
 ·have h:¬ (Sum.inl a:Key)=Sum.inl b:=fun q=>e (Sum.inl.inj q)
  rw [decide_eq_false h]
  exact (beq_eq_false_iff_ne.mpr e).symm
theorem aNz(a b:Str):decide ((Sum.inr a:Key)=Sum.inr b)=decide (a=b):=by
 by_cases e:a=b
 ·subst e;simp
 ·have h:¬ (Sum.inr a:Key)=Sum.inr b:=fun q=>e (Sum.inr.inj q)
  rw [decide_eq_false h,decide_eq_false e]
theorem aO0(a:Int)(b:Str):decide ((Sum.inl a:Key)=Sum.inr b)=false:=decide_eq_false (fun q=>nomatch q)
theorem aO1(a:Str)(b:Int):decide ((Sum.inr a:Key)=Sum.inl b)=false:=decide_eq_false (fun q=>nomatch q)
def dW(prog:Program)(w:World):PySem.KeyKind prog w Key where
 is:=aA9
 hash:=bCo w
 inj:=fun v a b ha hb=>by
  rcases eE ha with ⟨i,t,rfl,rfl⟩ | ⟨x,t,rfl,rfl⟩
  ·rcases eE hb with ⟨j,u,rfl,e⟩ | ⟨y,u,rfl,e⟩
   ·injection e with e1 _;rw [e1]
   ·exact nomatch e
  ·rcases eE hb with ⟨j,u,rfl,e⟩ | ⟨y,u,rfl,e⟩
   ·exact nomatch e
   ·injection e with e1 _;rw [e1]
 byValue:=fun k v h=>by
  rcases eE h with ⟨i,t,rfl,rfl⟩ | ⟨x,t,rfl,rfl⟩ <;> rfl
 pyHash:=fun hv h=>by
  rcases eE hv with ⟨i,t,rfl,rfl⟩ | ⟨x,t,rfl,rfl⟩
  ·exact wpAny_pyHash_int h
  ·exact wpAny_pyHash_str h
 eqBool:=fun hu hv h=>by
  rcases eE hu with ⟨i,t,rfl,rfl⟩ | ⟨x,t,rfl,rfl⟩
  ·rcases eE hv with ⟨j,u,rfl,rfl⟩ | ⟨y,u,rfl,rfl⟩
   ·rw [aNy] at h;exact wpAny_eqBool_int h
   ·rw [aO0] at h;exact SeqAt.EqAt.int_str i t y u _ _ _ _ h
  ·rcases eE hv with ⟨j,u,rfl,rfl⟩ | ⟨y,u,rfl,rfl⟩
   ·rw [aO1] at h;exact SeqAt.EqAt.str_int x t j u _ _ _ _ h
   ·rw [aNz] at h;exact wpAny_eqBool_str h
 «strs» := fun k x t v h=>by
  rcases eE h with ⟨i,u,rfl,e⟩ | ⟨y,u,rfl,e⟩
  ·exact nomatch e
  ·injection e with e1 _
   subst e1
   cases v<;>rfl
theorem aGi(prog:Program)(w:World)(i:Int)(t:Tok):(dW prog w).is (.inl i) (.int i t)=true:=aMd i t
theorem aGj(prog:Program)(w:World)(x:Str)(t:Tok):(dW prog w).is (.inr x) (.str x t)=true:=aMe x t
end L2
namespace L2
open PySem PySem.Spec PyProof.Rows
inductive V where
 | non | bl (b:Bool) | int (i:Int) | str (x:Str) | byt (b:Array UInt8) | flt (b:UInt64) | ref (a:Addr) | ty (n:String)
 deriving DecidableEq
def RelV:V->Value->Prop
 | .non,u=>u=Value.none
 | .bl b,u=>u=Value.bool b
 | .int i,u=>∃ t,u=Value.int i t
 | .str x,u=>∃ t,u=Value.str x t
 | .byt b,u=>∃ t,u=Value.bytes b t
 | .flt b,u=>∃ t,u=Value.float b t
 | .ref a,u=>u=Value.ref a
 | .ty n,u=>u=Value.type n
abbrev Vals:List V->List Value->Prop:=Paired RelV
theorem Vals.length{xs:List V}{us:List Value}(r:Vals xs us):xs.length=us.length:=Paired.length r
theorem Vals.get:∀ {xs:List V} {us:List Value} {i:Nat} {x:V},Vals xs us->xs[i]?=some x->∃ u,us[i]?=some u/\RelV x u
 | _,_,_,_,.nil,e=>by simp at e
 | _,_,0,_,.cons r _,e=>by simp at e;subst e;exact ⟨_,rfl,r⟩
 | _,_,i+1,x,.cons _ t,e=>by
  obtain ⟨u,h1,h2⟩:=Vals.get (i:=i) (x:=x) t (by simpa using e)
  exact ⟨u,by simpa using h1,h2⟩
theorem Vals.set{x:V}{u:Value}(r:RelV x u):∀ {xs:List V} {us:List Value} (i:Nat),Vals xs us->Vals (xs.set i x) (us.set i u)
 | _,_,_,.nil => .nil
 | _,_,0,.cons _ t => .cons r t
 | _,_,i+1,.cons q t => .cons q (Vals.set r i t)
theorem Vals.append:∀ {xs ys:List V} {us ws:List Value},Vals xs us->Vals ys ws->Vals (xs++ys) (us++ws)
 | _,_,_,_,.nil,s=>s
 | _,_,_,_,.cons r t,s => .cons r (Vals.append t s)
theorem Vals.take:∀ {xs:List V} {us:List Value} (n:Nat),Vals xs us->Vals (xs.take n) (us.take n)
 | _,_,0,_ => .nil
 | _,_,_+1,.nil => .nil
 | _,_,n+1,.cons r t => .cons r (Vals.take n t)
theorem Vals.drop:∀ {xs:List V} {us:List Value} (n:Nat),Vals xs us->Vals (xs.drop n) (us.drop n)
 | _,_,0,r=>r
 | _,_,_+1,.nil => .nil
 | _,_,n+1,.cons _ t=>Vals.drop n t
def rH:Option V->Option Value->Prop
 | some v,some u=>RelV v u
 | none,none=>True
 | _,_=>False
def KV{κ:Type}:List (κ × V)->List (κ × Value)->Prop:=Paired fun (p:κ × V) (q:κ × Value)=>p.1=q.1/\RelV p.2 q.2
def kV:Key->V
 | .inl i => .int i
 | .inr x => .str x
inductive HO where
 | lst (xs:List V)
 | tup (xs:List V)
 | dK (kvs:List (Key × V)) | dT (kvs:List (List Key × V))
 | set (S:Int->Bool) (n:Nat)
 | ins (C dx:Addr) (fs:List (Str × V))
 | own (x:Addr)
 | xd (fs:List (Str × V))
 | met (f x:Addr)
 | rng (lo hi:Int)
 | frz (o:Obj) (u:HO)
 | tbl (ps:Array Value)
 | ext (φ:Heap->Prop)
abbrev Hp:=Addr->Option HO
def upd(H:Hp)(a:Addr)(o:HO):Hp:=fun b=>if b=a then some o else H b
theorem cH{H:Hp}{a:Addr}{o:HO}:upd H a o a=some o:=by unfold upd;rw [if_pos rfl]
theorem bW{H:Hp}{a b:Addr}{o:HO}(h:b≠a):upd H a o b=H b:=by unfold upd;rw [if_neg h]
theorem aYx{H:Hp}{a b:Addr}{o u:HO}(h:H a=some o)(h':H b=some u)(d:o≠u):a≠b:=by
 intro e;subst e;rw [h] at h';exact d (Option.some.inj h')
theorem bK{H:Hp}{a b:Addr}{o:HO}(h:H a=some o)(h':H b=none):a≠b:=by
 intro e;subst e;rw [h] at h';cases h'
section
variable(P:Program)(w:World)
def jD(H:Hp)(h:Heap)(a:Addr):HO->Prop
 | .lst xs=>xs.length<=sizeLine/\∃ (its:List Value) (n:Nat),Vals xs its/\h.get? a=some { cls := .type "list", data := .seq its.toArray n }
 | .tup xs=>xs.length<=sizeLine/\∃ its:List Value,Vals xs its/\IsTup h a its.toArray
 | .dK kvs=>kvs.length<=sizeLine/\(a==sysModules)=false/\∃ vs,KV kvs vs/\h.DictOf (dW P w) a vs
 | .dT kvs=>kvs.length<=sizeLine/\(a==sysModules)=false/\∃ xs:List (List Key × Addr × Value),
   Paired (fun (p:List Key × V) (q:List Key × Addr × Value)=>p.1=q.1/\H q.2.1=some (.tup (p.1.map kV))/\RelV p.2 q.2.2) kvs xs /\
   ∃ o es ep,h.get? a=some o/\o.ExactDict/\o.data = .dict es ep/\es.toList=xs.map (entryOfKey (tupleKind (dW P w)))/\(xs.map (·.1)).Nodup
 | .set S n=>h.SetOf (intKind P w) a S n
 | .ins C dx fs=>H dx=some (.own a)/\fs.length<=1000/\dx≠a/\h.get? a=some (PySem.W.instObj C dx) /\
   ∃ mA,h.Ns1 dx mA/\(∀ f,rH (fs.lookup f) (mA f))/\PySem.Within mA (fs.map (·.1))
 | .own _=>∃ o,h.get? a=some o
 | .xd fs=>∃ mA,h.Ns1 a mA/\∀ f,rH (fs.lookup f) (mA f)
 | .rng lo hi=>∃ t u v,h.get? a=some { cls := .type "range", data := .fields #[.int lo t,.int hi u,.int 1 v] }
 | .frz o u=>h.get? a=some o/\jD H h a u
 | .tbl ps=>h.get? a=some { cls := .none,data := .fields ps }
 | .met f x=>h.get? a=some (PySem.W.methodObj (.ref f) (.ref x))
 | .ext φ=>φ h/\(∃ o,h.get? a=some o)/\∀ h1 h2:Heap,φ h1->(∀ o,h1.get? a=some o->h2.get? a=some o)->φ h2
def HOk(H:Hp)(h:Heap):Prop:=∀ a o,H a=some o->jD P w H h a o
end
section
variable{P:Program}{w:World}{H H':Hp}{h h':Heap}{a:Addr}{o:HO}
theorem jD.lt(x:jD P w H h a o):a < h.objs.size:=by
 cases o with
 | lst xs=>obtain ⟨_,_,_,_,e⟩:=x;exact Heap.lt_size e
 | tup xs=>obtain ⟨_,_,_,p⟩:=x;exact p.lt
 | dK kvs=>obtain ⟨_,_,_,_,o,_,_,e,_⟩:=x;exact Heap.lt_size e
 | dT kvs=>obtain ⟨_,_,_,_,o,_,_,e,_⟩:=x;exact Heap.lt_size e
 | set S n=>obtain ⟨o,_,_,_,e,_⟩:=x;exact Heap.lt_size e
 | ins C dx fs=>obtain ⟨_,_,_,e,_⟩:=x;exact Heap.lt_size e
 | own y=>obtain ⟨_,e⟩:=x;exact Heap.lt_size e
 | xd fs=>obtain ⟨_,⟨_,_,_,e,_⟩,_⟩:=x;exact Heap.lt_size e
 | rng lo hi=>obtain ⟨_,_,_,e⟩:=x;exact Heap.lt_size e
 | frz ob u=>obtain ⟨e,_⟩:=x;exact Heap.lt_size e
 | tbl ps=>exact Heap.lt_size (show h.get? a=some _ from x)
 | met f y=>exact Heap.lt_size (show h.get? a=some _ from x)
 | ext φ=>obtain ⟨_,⟨_,e⟩,_⟩:=x;exact Heap.lt_size e
theorem Paired.mapP{α β:Type}{F G:α->β->Prop}:∀ {l₁:List α} {l₂:List β},Paired F l₁ l₂->(∀ a b,F a b->G a b)->Paired G l₁ l₂
 | _,_,.nil,_ => .nil
 | _,_,.cons r t,f => .cons (f _ _ r) (Paired.mapP t f)
theorem jD.stay(x:jD P w H h a o)(k:∀ b u,(b=a\/H b=some (.own a))->h.get? b=some u->h'.get? b=some u)
  (ho:∀ b,H b=some (.own a)->H' b=some (.own a)) (ht:∀ b xs,H b=some (.tup xs)->H' b=some (.tup xs)):jD P w H' h' a o:=by
 induction o with
 | lst xs=>obtain ⟨z,its,n,r,e⟩:=x;exact ⟨z,its,n,r,k _ _ (.inl rfl) e⟩
 | tup xs=>obtain ⟨z,its,r,ob,e,c⟩:=x;exact ⟨z,its,r,ob,k _ _ (.inl rfl) e,c⟩
 | dK kvs=>obtain ⟨z,y,vs,r,ob,es,ep,e,c⟩:=x;exact ⟨z,y,vs,r,ob,es,ep,k _ _ (.inl rfl) e,c⟩
 | dT kvs =>
  obtain ⟨z,y,xs,r,ob,es,ep,e,c⟩:=x
  exact ⟨z,y,xs,Paired.mapP r fun p q z=>⟨z.1,ht _ _ z.2.1,z.2.2⟩,ob,es,ep,k _ _ (.inl rfl) e,c⟩
 | set S n=>obtain ⟨ob,es,ep,t,e,c⟩:=x;exact ⟨ob,es,ep,t,k _ _ (.inl rfl) e,c⟩
 | ins C dx fs =>
  obtain ⟨d,z,ne,e,mA,⟨od,es,ep,e2,c⟩,r⟩:=x
  exact ⟨ho _ d,z,ne,k _ _ (.inl rfl) e,mA,⟨od,es,ep,k _ _ (.inr d) e2,c⟩,r⟩
 | own y=>obtain ⟨ob,e⟩:=x;exact ⟨ob,k _ _ (.inl rfl) e⟩
 | xd fs=>obtain ⟨mA,⟨od,es,ep,e,c⟩,r⟩:=x;exact ⟨mA,⟨od,es,ep,k _ _ (.inl rfl) e,c⟩,r⟩
 | rng lo hi=>obtain ⟨t,u,v,e⟩:=x;exact ⟨t,u,v,k _ _ (.inl rfl) e⟩
 | frz ob u ih=>obtain ⟨e,q⟩:=x;exact ⟨k _ _ (.inl rfl) e,ih q⟩
 | tbl ps =>
  have e:h.get? a=some { cls := .none,data := .fields ps }:=x
  show h'.get? a=some { cls := .none,data := .fields ps }
  exact k a _ (.inl rfl) e
 | met f y =>
  have e:h.get? a=some (PySem.W.methodObj (.ref f) (.ref y)):=x
  show h'.get? a=some (PySem.W.methodObj (.ref f) (.ref y))
  exact k a _ (.inl rfl) e
 | ext φ=>obtain ⟨p,⟨o,e⟩,st⟩:=x;exact ⟨st _ _ p fun o q=>k _ _ (.inl rfl) q,⟨o,k _ _ (.inl rfl) e⟩,st⟩
theorem HOk.lt(x:HOk P w H h)(e:H a=some o):a < h.objs.size:=(x a o e).lt
theorem HOk.fresh(x:HOk P w H h)(e:h.objs.size<=a):H a=none:=by
 cases q:H a with
 | none=>rfl
 | some u=>exact absurd (Nat.lt_of_lt_of_le (x.lt q) e) (Nat.lt_irrefl _)
theorem HOk.kept(x:HOk P w H h)(k:∀ b u,h.get? b=some u->h'.get? b=some u):HOk P w H h':=fun a o e =>
 (x a o e).stay (fun b u _ q=>k b u q) (fun _ q=>q) fun _ _ q=>q
theorem HOk.laid(x:HOk P w H h)(k:∀ b u,h.get? b=some u->h'.get? b=some u)(hp:h.objs.size<=a)(new:jD P w (upd H a o) h' a o):HOk P w (upd H a o) h':=fun b u e=>by
 have hn:=x.fresh hp
 by_cases hb:b=a
 ·subst hb;rw [cH] at e;cases e;exact new
 ·rw [bW hb] at e
  exact (x b u e).stay (fun c v _ q=>k c v q) (fun c q=>by rw [bW (bK q hn)];exact q) fun c xs q=>by rw [bW (bK q hn)];exact q
end
def Rd(H:Hp)(a:Addr)(u:HO):Prop:=H a=some u\/∃ o,H a=some (.frz o u)
theorem Rd.ok{P:Program}{w:World}{H:Hp}{h:Heap}{a:Addr}{u:HO}(r:Rd H a u)(x:HOk P w H h):jD P w H h a u:=by
 rcases r with r | ⟨o,r⟩
 ·exact x a u r
 ·obtain ⟨_,q⟩:=x a _ r
  exact q
def Mut:Option HO->Prop
 | some (.lst _)=>True
 | some (.dK _)=>True
 | some (.dT _)=>True
 | some (.set _ _)=>True
 | some (.ins _ _ _)=>True
 | some (.ext _)=>True
 | _=>False
section
variable{P:Program}{w:World}{H:Hp}{h h':Heap}{x e:Addr}{o':HO}
theorem HOk.write(ok:HOk P w H h)(mu:Mut (H x))(he:e=x\/H e=some (.own x))(k:∀ b u,b≠e->h.get? b=some u->h'.get? b=some u)(heo:∃ u,h'.get? e=some u)
  (new:jD P w (upd H x o') h' x o'):HOk P w (upd H x o') h':=fun b u q=>by
 have nown:∀ c y,H c=some (.own y)->c≠x:=fun c y r z=>by subst z;rw [r] at mu;exact mu
 have ntup:∀ c xs,H c=some (.tup xs)->c≠x:=fun c xs r z=>by subst z;rw [r] at mu;exact mu
 by_cases hb:b=x
 ·subst hb;rw [cH] at q;cases q;exact new
 ·rw [bW hb] at q
  by_cases hbe:b=e
  ·have q':H b=some (.own x):=by
    rcases he with z | z
    ·exact absurd (hbe.trans z) hb
    ·rw [hbe];exact z
   rw [q] at q';cases q'
   obtain ⟨v,hv⟩:=heo
   exact ⟨v,by rw [hbe];exact hv⟩
  ·refine (ok b u q).stay (fun c v hc r=>k c v ?_ r) (fun c r=>by rw [bW (nown c b r)];exact r) fun c xs r=>by rw [bW (ntup c xs r)];exact r
   rcases hc with rfl | hc
   ·exact hbe
   ·rintro rfl
    rcases he with z | z
    ·exact nown c b hc z
    ·rw [hc] at z;cases z;exact hb rfl
end
structure Un(fs ex:List Addr)(H H':Hp)(h h':Heap):Prop where
 keep:∀ b o,h.get? b=some o->H b=none->b ∉ fs->b ∉ ex->h'.get? b=some o
 slot:∀ b o,h.get? b=some o->H b=none->b∈fs->b ∉ ex->∃ sl,h'.get? b=some { o with slots:=sl }
 free:∀ b o,h.get? b=some o->H b=none->b ∉ ex->H' b=none
 there:∀ b o,h.get? b=some o->b ∉ ex->∃ o',h'.get? b=some o'
 tups:∀ b xs,H b=some (.tup xs)->H' b=some (.tup xs)
 frzs:∀ b o u,H b=some (.frz o u)->H' b=some (.frz o u)
 tbls:∀ b ps,H b=some (.tbl ps)->∃ more,H' b=some (.tbl (ps++more))
section
variable{fs fs' ex ex':List Addr}{H H1 H2:Hp}{h h1 h2 h':Heap}{a x e:Addr}{o:HO}
theorem Un.any(u:Un fs ex H H1 h h1){b:Addr}{ob:Obj}(q:h.get? b=some ob)(n:H b=none)(hx:b ∉ ex):∃ sl,h1.get? b=some { ob with slots:=sl }:=by
 by_cases hb:b∈fs
 ·exact u.slot b ob q n hb hx
 ·exact ⟨ob.slots,u.keep b ob q n hb hx⟩
theorem Un.kept(k:∀ b u,h.get? b=some u->h'.get? b=some u):Un fs ex H H h h' :=
 ⟨fun b ob q _ _ _=>k b ob q,fun b ob q _ _ _=>⟨ob.slots,k b ob q⟩,fun _ _ _ n _=>n,fun b ob q _=>⟨ob,k b ob q⟩,fun _ _ q=>q,fun _ _ _ q=>q,fun _ ps q=>⟨#[],by rw [q];simp⟩⟩
theorem Un.refl:Un fs ex H H h h:=Un.kept fun _ _ q=>q
theorem Un.laid(k:∀ b u,h.get? b=some u->h'.get? b=some u)(hp:h.objs.size<=a)(hn:H a=none):Un fs ex H (upd H a o) h h' where
 keep:=fun b u q _ _ _=>k b u q
 slot:=fun b u q _ _ _=>⟨u.slots,k b u q⟩
 free:=fun b u q n _=>by rw [bW (Nat.ne_of_lt (Nat.lt_of_lt_of_le (Heap.lt_size q) hp))];exact n
 there:=fun b u q _=>⟨u,k b u q⟩
 tups:=fun b xs q=>by rw [bW (bK q hn)];exact q
 frzs:=fun b u xs q=>by rw [bW (bK q hn)];exact q
 tbls:=fun b ps q=>⟨#[],by rw [bW (bK q hn),q];simp⟩
theorem Un.write(mu:Mut (H x))(he:e=x\/H e=some (.own x))(k:∀ b u,b≠e->h.get? b=some u->h'.get? b=some u)(heo:∃ u,h'.get? e=some u):Un fs ex H (upd H x o) h h':=by
 have hx:∀ b,H b=none->b≠x:=fun b n z=>by subst z;rw [n] at mu;exact mu
 have hb:∀ b,H b=none->b≠e:=fun b n z=>by
  subst z
  rcases he with r | r
  ·exact hx b n r
  ·rw [n] at r;cases r
 have hm:∀ b u,H b=some u->¬ Mut (some u)->b≠x:=fun b u q nm z=>by subst z;rw [q] at mu;exact nm mu
 refine ⟨fun b u q n _ _=>k b u (hb b n) q,fun b u q n _ _=>⟨u.slots,k b u (hb b n) q⟩,fun b u q n _=>by rw [bW (hx b n)];exact n,fun b u q _=>?_,
  fun b xs q=>by rw [bW (hm b _ q fun z=>z)];exact q,fun b u xs q=>by rw [bW (hm b _ q fun z=>z)];exact q,fun b ps q=>⟨#[],by rw [bW (hm b _ q fun z=>z),q];simp⟩⟩
 by_cases hbe:b=e
 ·subst hbe;exact heo
 ·exact ⟨u,k b u hbe q⟩
end
def trk(h:Heap)(H:Hp):List Addr:=(List.range h.objs.size).filter fun a=>(H a).isSome
def aF1(h:Heap)(H:Hp):Heap:=PySem.W.hideAll h (trk h H)
theorem aMf(h:Heap)(H:Hp):(aF1 h H).objs.size=h.objs.size:=PySem.W.hideAll_size _ _
theorem aO2{h:Heap}{H:Hp}{b:Addr}{o:Obj}(e:h.get? b=some o)(n:H b=none):(aF1 h H).get? b=some o :=
 PySem.W.hideAll_get _ e fun hm=>by
  have q:(H b).isSome=true:=(List.mem_filter.mp hm).2
  rw [n] at q;simp at q
theorem aRa{h:Heap}{H:Hp}{b:Addr}{o:Obj}(e:(aF1 h H).get? b=some o):h.get? b=some o/\H b=none:=by
 have e':h.get? b=some o:=PySem.W.of_hideAll (trk h H) e
 refine ⟨e',?_⟩
 cases q:H b with
 | none=>rfl
 | some x =>
  have hm:b∈trk h H:=List.mem_filter.mpr ⟨List.mem_range.mpr (Heap.lt_size e'),by simp [q]⟩
  have z:(aF1 h H).get? b=none:=PySem.W.hideAll_none (trk h H) hm
  rw [z] at e;cases e
def aRb(g h:Heap)(L:Addr):List (Addr × Obj):=(List.range h.objs.size).filterMap fun a=>if a=L\/(g.get? a).isSome=true then none else (h.get? a).map fun o=>(a,o)
def rest(g h:Heap)(L d:Addr):List (Addr × Obj):=(aRb g h L).filter fun p=>decide (p.1≠d)
end L2
namespace L2
open PySem PySem.Spec PyProof.Rows
structure Mod(K:PySem.W.Frag)(mg:Str->Option Value)(base:Heap):Prop where
 kin:K.In base
 glob:base.Ns mainGlobals mg
 blt:∃ mb,base.Ns builtinsNs mb/\∀ x:Str,x ≠ "__name__" -> mb x=bootBuiltins x
 nolimit:base.NoLimit
structure Cx where
 prog:Program
 w:World
 K:PySem.W.Frag
 mg:Str->Option Value
 base:Heap
 A:Around
 N:List Str
 s₀:Shared
 H₀:Hp
 env:Env
 outer:List Env
 stack:List Env
 ex:List Addr
 fn:Str->Bool
 calm:Bool
 pn:List (Addr × Obj)
 xe:Value->Shared->Prop
def frs(l:List Env):List Addr:=l.filterMap (·.frame)
abbrev Cx.fs(X:Cx):List Addr:=frs X.outer
def Vis(sc:Scope)(x:Str):Prop:=sc.names.lookup x=some .local\/sc.names.lookup x=some .cell\/sc.names.lookup x=some .free
def Loc(sc:Scope)(x:Str):Prop:=sc.names.lookup x=some .local\/sc.names.lookup x=some .cell
def Look(env:Env)(h:Heap)(m:Str->Option Value)(x:Str)(u:Value):Prop :=
 (env.kindOf x=some .local/\m x=some u)\/((env.kindOf x=some .cell\/env.kindOf x=some .free)/\∃ c,env.cells.lookup x=some c/\h.IsCell c (some u))
structure Cx.Ok(X:Cx):Prop where
 mod:Mod X.K X.mg X.base
 kind:X.env.scope.kind = .function
 glob:X.env.globals=mainGlobals
 blt:X.env.builtins=builtinsNs
 above:X.s₀.heap.objs.size<=X.env.locals
 inj:∀ x y c,X.env.cells.lookup x=some c->X.env.cells.lookup y=some c->x=y
 has:∀ x,(X.env.kindOf x=some .cell\/X.env.kindOf x=some .free)->∃ c,X.env.cells.lookup x=some c
 cab:∀ x c,X.fn x=true->X.env.cells.lookup x=some c->X.s₀.heap.objs.size<=c
 hd:X.calm=true->X.A.handled=none
 frames:X.A.frames=some X.stack
 stk:X.stack=X.outer\/(X.stack=X.env :: X.outer/\X.env.frame=some X.env.locals)
 exf:∀ b∈X.ex,b≠X.env.locals/\∀ x c,X.env.cells.lookup x=some c->c≠b
 bs:∀ b o,X.base.get? b=some o->X.s₀.heap.get? b=some o/\X.H₀ b=none
 bsz:X.base.objs.size<=X.s₀.heap.objs.size
 noex:∀ b o,X.base.get? b=some o->b ∉ X.ex
 exfs:∀ b∈X.ex,b ∉ X.fs
 funs:X.s₀.heap.FunFrames X.base X.outer
 frf:∀ b∈X.fs,X.H₀ b=none
structure Inv(X:Cx)(pins:List (Addr × Obj))(σ:List (Option V))(H:Hp)(s:Shared):Prop where
 ok:X.Ok
 os:s.os=X.s₀.os
 bare:AllBare s.gens
 base:Un X.fs X.ex X.H₀ H X.s₀.heap s.heap
 loc:∃ m,s.heap.Ns X.env.locals m/\∀ (i:Nat) (x:Str) (v:V),X.N[i]?=some x->σ[i]?=some (some v)->Vis X.env.scope x->∃ u,RelV v u/\Look X.env s.heap m x u
 cell:∀ x c,X.env.cells.lookup x=some c->∃ v,s.heap.IsCell c v
 free:H X.env.locals=none
 freeC:∀ x c,X.env.cells.lookup x=some c->H c=none
 pin:∀ p∈X.pn++pins,s.heap.get? p.1=some p.2/\H p.1=none/\p.1≠X.env.locals/\p.1 ∉ X.fs/\∀ v,p.2.data ≠ .cell v
 hok:HOk X.prog X.w H s.heap
 len:σ.length=X.N.length
section
variable{X:Cx}{pins:List (Addr × Obj)}{σ:List (Option V)}{H H':Hp}{s:Shared}{h':Heap}
theorem Cx.Ok.nofr(ok:X.Ok){b:Addr}{o:Obj}(e:X.base.get? b=some o):b ∉ X.fs:=fun hb=>by
 have:=(ok.funs.mem hb).1
 rw [e] at this;cases this
theorem Inv.bs(I:Inv X pins σ H s):∀ b o,X.base.get? b=some o->s.heap.get? b=some o/\H b=none:=fun b o e =>
 ⟨I.base.keep b o (I.ok.bs b o e).1 (I.ok.bs b o e).2 (I.ok.nofr e) (I.ok.noex b o e),I.base.free b o (I.ok.bs b o e).1 (I.ok.bs b o e).2 (I.ok.noex b o e)⟩
theorem Inv.bk(I:Inv X pins σ H s):∀ b o,X.base.get? b=some o->s.heap.get? b=some o:=fun b o e=>(I.bs b o e).1
theorem Inv.mod(I:Inv X pins σ H s):Mod X.K X.mg X.base:=I.ok.mod
theorem Inv.kIn(I:Inv X pins σ H s):X.K.In s.heap:=I.ok.mod.kin.keeps I.bk
theorem Inv.lt(I:Inv X pins σ H s):X.env.locals < s.heap.objs.size:=let ⟨_,hn,_⟩:=I.loc;hn.lt
theorem Inv.sz(I:Inv X pins σ H s):X.s₀.heap.objs.size<=s.heap.objs.size:=Nat.le_trans I.ok.above (Nat.le_of_lt I.lt)
theorem Inv.nofs(I:Inv X pins σ H s){a:Addr}(h:s.heap.objs.size<=a):a ∉ X.fs:=fun hb=>by
 obtain ⟨_,o,ho,_⟩:=I.ok.funs.mem hb
 exact absurd (Nat.lt_of_lt_of_le (Heap.lt_size ho) (Nat.le_trans I.sz h)) (Nat.lt_irrefl _)
theorem Inv.cne(I:Inv X pins σ H s):∀ x c,X.env.cells.lookup x=some c->c≠X.env.locals:=fun x c e z=>by
 obtain ⟨v,o,ho,hd⟩:=I.cell x c e
 obtain ⟨m,⟨o',es,ep,ho',hd',_⟩,_⟩:=I.loc
 rw [z,ho'] at ho;cases ho;rw [hd'] at hd;cases hd
theorem Inv.funs(I:Inv X pins σ H s):s.heap.FunFrames X.base X.outer:=by
 have all:∀ (l:List Env),(∀ b∈frs l,b∈X.fs)->X.s₀.heap.FunFrames X.base l->s.heap.FunFrames X.base l:=by
  intro l
  induction l with
  | nil=>intro _ _;trivial
  | cons env r ih =>
   intro hs hl
   obtain ⟨hk,⟨L,o,hf,hn,ho,hd⟩,hr⟩:=hl
   have hL:L∈X.fs:=hs L (by unfold frs;rw [List.filterMap_cons,hf];exact List.mem_cons_self)
   obtain ⟨sl,e⟩:=I.base.slot L o ho (I.ok.frf L hL) hL fun z=>I.ok.exfs L z hL
   exact ⟨hk,⟨L,_,hf,hn,e,hd⟩,ih (fun b hb=>hs b (by unfold frs;rw [List.filterMap_cons,hf];exact List.mem_cons_of_mem _ hb)) hr⟩
 exact all X.outer (fun _ hb=>hb) I.ok.funs
theorem Inv.stack(I:Inv X pins σ H s):s.heap.FunFrames X.base X.stack:=by
 rcases I.ok.stk with e | ⟨e,hf⟩
 ·rw [e];exact I.funs
 ·rw [e]
  obtain ⟨m,hn,_⟩:=I.loc
  refine .cons (by rw [I.ok.kind];decide) hf hn ?_ I.funs
  exact Heap.get?_none_of_le (Nat.le_trans I.ok.bsz I.ok.above)
theorem Inv.stkSub(I:Inv X pins σ H s):∀ b∈frs X.stack,b∈X.env.locals :: X.fs:=fun b hb=>by
 rcases I.ok.stk with e | ⟨e,hf⟩
 ·rw [e] at hb;exact List.mem_cons_of_mem _ hb
 ·rw [e] at hb
  unfold frs at hb
  rw [List.filterMap_cons,hf] at hb
  exact hb
theorem Inv.stkFree(I:Inv X pins σ H s):∀ b∈frs X.stack,H b=none:=fun b hb=>by
 rcases List.mem_cons.mp (I.stkSub b hb) with e | hb
 ·rw [e];exact I.free
 ·obtain ⟨_,o,ho,_⟩:=I.ok.funs.mem hb
  exact I.base.free b o ho (I.ok.frf b hb) fun z=>I.ok.exfs b z hb
theorem Inv.step{g':Array GenState}{t':Nat}{d':Drawn}{ch:List Addr}(I:Inv X pins σ H s)
  (hch:∀ b∈ch,(b∈X.ex\/X.s₀.heap.objs.size<=b)/\b≠X.env.locals/\(∀ x c,X.env.cells.lookup x=some c->c≠b)/\∀ p∈X.pn++pins,p.1≠b)
  (keep:∀ b o,b≠X.env.locals->b ∉ X.fs->b ∉ ch->s.heap.get? b=some o->H b=none->h'.get? b=some o)
  (slot:∀ b o,b≠X.env.locals->b∈X.fs->b ∉ ch->s.heap.get? b=some o->H b=none->∃ sl,h'.get? b=some { o with slots:=sl }) (free:∀ b o,b ∉ ch->s.heap.get? b=some o->H b=none->H' b=none)
  (there:∀ b o,b ∉ ch->s.heap.get? b=some o->∃ o',h'.get? b=some o')
  (tups:∀ b xs,H b=some (.tup xs)->H' b=some (.tup xs)) (frzs:∀ b o u,H b=some (.frz o u)->H' b=some (.frz o u)) (tbls:∀ b ps,H b=some (.tbl ps)->∃ more,H' b=some (.tbl (ps++more)))
  (ns:∀ m,s.heap.Ns X.env.locals m->h'.Ns X.env.locals m) (hok:HOk X.prog X.w H' h') (hg:AllBare g') :
  Inv X pins σ H' { s with heap:=h',gens:=g',drawn:=d',toks:=t' }:=by
 have neL:∀ b o,X.s₀.heap.get? b=some o->b≠X.env.locals:=fun b o e=>Nat.ne_of_lt (Nat.lt_of_lt_of_le (Heap.lt_size e) I.ok.above)
 have neC:∀ b o,X.s₀.heap.get? b=some o->b ∉ X.ex->b ∉ ch:=fun b o e hx hb=>by
  rcases (hch b hb).1 with z | z
  ·exact hx z
  ·exact absurd (Nat.lt_of_lt_of_le (Heap.lt_size e) z) (Nat.lt_irrefl _)
 have cellK:∀ x c,X.env.cells.lookup x=some c->∀ v,s.heap.IsCell c v->h'.IsCell c v:=fun x c e v ⟨o,ho,hd⟩=>by
  have nch:c ∉ ch:=fun z=>(hch c z).2.2.1 x c e rfl
  by_cases hc:c∈X.fs
  ·obtain ⟨sl,q⟩:=slot c o (I.cne x c e) hc nch ho (I.freeC x c e)
   exact ⟨_,q,hd⟩
  ·exact ⟨o,keep c o (I.cne x c e) hc nch ho (I.freeC x c e),hd⟩
 refine ⟨I.ok,I.os,hg,⟨fun b o e n hb hx=>?_,fun b o e n hb hx=>?_,fun b o e n hx=>?_,fun b o e hx=>?_,fun b xs e=>tups b xs (I.base.tups b xs e),fun b o xs e=>frzs b o xs (I.base.frzs b o xs e),fun b ps e=>?_⟩,?_,fun x c e=>?_,?_,fun x c e=>?_,fun p hp=>?_,hok,I.len⟩
 ·exact keep b o (neL b o e) hb (neC b o e hx) (I.base.keep b o e n hb hx) (I.base.free b o e n hx)
 ·obtain ⟨sl,e1⟩:=I.base.slot b o e n hb hx
  obtain ⟨sl',e2⟩:=slot b _ (neL b o e) hb (neC b o e hx) e1 (I.base.free b o e n hx)
  exact ⟨sl',e2⟩
 ·obtain ⟨o',e1⟩:=I.base.there b o e hx
  exact free b o' (neC b o e hx) e1 (I.base.free b o e n hx)
 ·obtain ⟨o',e1⟩:=I.base.there b o e hx
  exact there b o' (neC b o e hx) e1
 ·obtain ⟨m1,e1⟩:=I.base.tbls b ps e
  obtain ⟨m2,e2⟩:=tbls b _ e1
  exact ⟨m1++m2,by rw [e2,Array.append_assoc]⟩
 ·obtain ⟨m,hn,hl⟩:=I.loc
  refine ⟨m,ns m hn,fun i x v e1 e2 e3=>?_⟩
  obtain ⟨u,r,l⟩:=hl i x v e1 e2 e3
  refine ⟨u,r,?_⟩
  rcases l with l | ⟨k,c,e,z⟩
  ·exact .inl l
  ·exact .inr ⟨k,c,e,cellK x c e _ z⟩
 ·obtain ⟨v,z⟩:=I.cell x c e
  exact ⟨v,cellK x c e v z⟩
 ·obtain ⟨m,⟨o,_,_,ho,_⟩,_⟩:=I.loc
  exact free _ o (fun z=>(hch _ z).2.1 rfl) ho I.free
 ·obtain ⟨v,o,ho,hd⟩:=I.cell x c e
  exact free c o (fun z=>(hch c z).2.2.1 x c e rfl) ho (I.freeC x c e)
 ·obtain ⟨e,n,ne,nf,d⟩:=I.pin p hp
  have nch:p.1 ∉ ch:=fun z=>(hch p.1 z).2.2.2 p hp rfl
  exact ⟨keep p.1 p.2 ne nf nch e n,free p.1 p.2 nch e n,ne,nf,d⟩
theorem Inv.un{t':Nat}(I:Inv X pins σ H s)(u:Un X.fs [] H H' s.heap h')(hok:HOk X.prog X.w H' h'):Inv X pins σ H' { s with heap:=h',toks:=t' }:=by
 obtain ⟨m,⟨o,es,ep,ho,r⟩,_⟩:=id I.loc
 obtain ⟨sl,hL⟩:=u.any ho I.free (by simp)
 exact I.step (g':=s.gens) (d':=s.drawn) (ch:=[]) (fun _ z=>nomatch z) (fun b o _ hb _ e n=>u.keep b o e n hb (by simp)) (fun b o _ hb _ e n=>u.slot b o e n hb (by simp)) (fun b o _ e n=>u.free b o e n (by simp)) (fun b o _ e=>u.there b o e (by simp)) u.tups u.frzs u.tbls (fun m' hm=>by
  obtain ⟨o',es',ep',ho',r'⟩:=hm
  rw [ho] at ho';cases ho'
  exact ⟨_,es',ep',hL,r'⟩) hok I.bare
theorem Inv.call{g':Array GenState}{t':Nat}{d':Drawn}{ch:List Addr}(I:Inv X pins σ H s)(u:Un (frs X.stack) ch H H' s.heap h')(hok:HOk X.prog X.w H' h')(hg:AllBare g')
  (hch:∀ b∈ch,(b∈X.ex\/X.s₀.heap.objs.size<=b)/\b≠X.env.locals/\(∀ x c,X.env.cells.lookup x=some c->c≠b)/\∀ p∈X.pn++pins,p.1≠b) :
  Inv X pins σ H' { s with heap:=h',gens:=g',drawn:=d',toks:=t' }:=by
 obtain ⟨m,⟨o,es,ep,ho,r⟩,_⟩:=id I.loc
 obtain ⟨sl,hL⟩:=u.any ho I.free fun z=>(hch _ z).2.1 rfl
 exact I.step (ch:=ch) hch (fun b o hL hb hc e n=>u.keep b o e n (fun z=>(List.mem_cons.mp (I.stkSub b z)).elim hL hb) hc) (fun b o _ _ hc e n=>u.any e n hc) (fun b o hc e n=>u.free b o e n hc) (fun b o hc e=>u.there b o e hc) u.tups u.frzs u.tbls (fun m' hm=>by
  obtain ⟨o',es',ep',ho',r'⟩:=hm
  rw [ho] at ho';cases ho'
  exact ⟨_,es',ep',hL,r'⟩) hok hg
theorem Inv.turned{t':Nat}{it:Addr}(I:Inv X pins σ H s)(k:∀ b o,b≠it->s.heap.get? b=some o->h'.get? b=some o)(hn:H it=none)(hL:it≠X.env.locals)
  (h1:it∈X.ex\/X.s₀.heap.objs.size<=it) (h2:∀ x c,X.env.cells.lookup x=some c->c≠it) (h3:∀ p∈X.pn++pins,p.1≠it):Inv X pins σ H { s with heap:=h',toks:=t' }:=by
 have nit:∀ b u,H b=some u->b≠it:=fun b u e z=>by rw [z,hn] at e;cases e
 refine I.step (g':=s.gens) (d':=s.drawn) (ch:=[it]) (fun b hb=>?_) (fun b o _ _ hc e _=>k b o (fun z=>hc (by simp [z])) e) (fun b o _ _ hc e _=>⟨o.slots,k b o (fun z=>hc (by simp [z])) e⟩) (fun _ _ _ _ n=>n)
  (fun b o hc e=>⟨o,k b o (fun z=>hc (by simp [z])) e⟩) (fun _ _ e=>e) (fun _ _ _ e=>e) (fun b ps e=>⟨#[],by rw [e];simp⟩) (fun m hm=>?_) (fun b u e=>?_) I.bare
 ·have e:b=it:=by simpa using hb
  subst e
  exact ⟨h1,hL,h2,h3⟩
 ·obtain ⟨o,es,ep,ho,r⟩:=hm
  exact ⟨o,es,ep,k _ o (Ne.symm hL) ho,r⟩
 ·refine (I.hok b u e).stay (fun c v hc q=>k c v ?_ q) (fun _ q=>q) fun _ _ q=>q
  rcases hc with z | z
  ·rw [z];exact nit b u e
  ·exact nit c _ z
theorem Inv.tok(I:Inv X pins σ H s)(t:Nat):Inv X pins σ H { s with toks:=t }:=I.un (h':=s.heap) (t':=t) Un.refl I.hok
theorem Inv.kept{t':Nat}(I:Inv X pins σ H s)(k:∀ b u,s.heap.get? b=some u->h'.get? b=some u):Inv X pins σ H { s with heap:=h',toks:=t' }:=I.un (Un.kept k) (I.hok.kept k)
theorem Inv.laid{a:Addr}{o:HO}{t':Nat}(I:Inv X pins σ H s)(k:∀ b u,s.heap.get? b=some u->h'.get? b=some u)(hp:s.heap.objs.size<=a)(new:jD X.prog X.w (upd H a o) h' a o) :
  Inv X pins σ (upd H a o) { s with heap:=h',toks:=t' }:=I.un (Un.laid k hp (I.hok.fresh hp)) (I.hok.laid k hp new)
theorem Inv.write{x e:Addr}{o:HO}{t':Nat}(I:Inv X pins σ H s)(mu:Mut (H x))(he:e=x\/H e=some (.own x))(k:∀ b u,b≠e->s.heap.get? b=some u->h'.get? b=some u)(heo:∃ u,h'.get? e=some u)
  (new:jD X.prog X.w (upd H x o) h' x o):Inv X pins σ (upd H x o) { s with heap:=h',toks:=t' }:=I.un (Un.write mu he k heo) (I.hok.write mu he k heo new)
theorem Inv.pins_of{pins':List (Addr × Obj)}(I:Inv X pins σ H s)(h:∀ p∈pins',s.heap.get? p.1=some p.2/\H p.1=none/\p.1≠X.env.locals/\p.1 ∉ X.fs/\∀ v,p.2.data ≠ .cell v):Inv X pins' σ H s :=
 ⟨I.ok,I.os,I.bare,I.base,I.loc,I.cell,I.free,I.freeC,fun p hp=>(List.mem_append.mp hp).elim (fun z=>I.pin p (List.mem_append_left _ z)) (h p),I.hok,I.len⟩
theorem aGk{N:List Str}(hN:N.Nodup){i j:Nat}{x:Str}(a:N[i]?=some x)(b:N[j]?=some x):i=j:=by
 obtain ⟨h1,e1⟩:=List.getElem?_eq_some_iff.mp a
 obtain ⟨h2,e2⟩:=List.getElem?_eq_some_iff.mp b
 exact (List.getElem_inj hN).mp (e1.trans e2.symm)
theorem aDq{M:Model}{A:Around}{E:Value->Shared->Prop}{i:Nat}{x:Str}{v:V}{u:Value}{Q:Unit->Shared->Prop}(I:Inv X pins σ H s)(hN:X.N.Nodup)(hi:X.N[i]?=some x)(hx:Loc X.env.scope x)(r:RelV v u)
  (h:∀ s',Inv X pins (σ.set i (some v)) H s'->(∃ a,Heap.SameBut a s.heap s'.heap/\(a=X.env.locals\/X.env.cells.lookup x=some a))->Q () s') (hf:X.fn x=true\/X.env.scope.names.lookup x=some .local:=by first | exact .inl rfl | exact .inr rfl | assumption):wpAny M A (storeName X.env x u) Q E s:=by
 obtain ⟨m,hn,hl⟩:=id I.loc
 have hcls:(X.env.scope.kind == .class||(X.env.scope.kind == .module&&X.env.locals != X.env.globals))=false:=by rw [I.ok.kind];rfl
 have hiσ:i < σ.length:=by rw [I.len];exact (List.getElem?_eq_some_iff.mp hi).1
 have cne:=I.cne
 have tracked:∀ {a:Addr} {h':Heap},(∃ o,s.heap.get? a=some o/\H a=none)->Heap.SameBut a s.heap h'->HOk X.prog X.w H h':=fun {a h'} ha hs b ob e=>by
  obtain ⟨_,_,hfree⟩:=ha
  refine (I.hok b ob e).stay (fun c w' hc q=>(hs.2 c ?_).trans q) (fun _ q=>q) fun _ _ q=>q
  rintro rfl
  rcases hc with rfl | hc
  ·rw [hfree] at e;cases e
  ·rw [hfree] at hc;cases hc
 rcases hx with hk | hk
 ·refine wpAny_storeName_local hk hn (fun h' hn' hs=>?_) hcls
  obtain ⟨oL,_,_,hoL,_⟩:=id hn
  refine h _ ⟨I.ok,I.os,I.bare,⟨fun b o e n hb hx=>?_,fun b o e n hb hx=>?_,I.base.free,fun b o e hx=>?_,I.base.tups,I.base.frzs,I.base.tbls⟩,⟨_,hn',fun j y v' e1 e2 e3=>?_⟩,fun y c e=>?_,I.free,I.freeC,fun p hp=>?_,tracked ⟨oL,hoL,I.free⟩ hs,by simpa using I.len⟩ ⟨_,hs,.inl rfl⟩
  ·exact (hs.2 b (Nat.ne_of_lt (Nat.lt_of_lt_of_le (Heap.lt_size e) I.ok.above))).trans (I.base.keep b o e n hb hx)
  ·obtain ⟨sl,e1⟩:=I.base.slot b o e n hb hx
   exact ⟨sl,(hs.2 b (Nat.ne_of_lt (Nat.lt_of_lt_of_le (Heap.lt_size e) I.ok.above))).trans e1⟩
  ·obtain ⟨o',e1⟩:=I.base.there b o e hx
   exact ⟨o',(hs.2 b (Nat.ne_of_lt (Nat.lt_of_lt_of_le (Heap.lt_size e) I.ok.above))).trans e1⟩
  ·by_cases hj:j=i
   ·subst hj
    rw [hi] at e1;cases e1
    rw [List.getElem?_set_self hiσ] at e2
    cases e2
    exact ⟨u,r,.inl ⟨hk,by simp⟩⟩
   ·rw [List.getElem?_set_ne (Ne.symm hj)] at e2
    obtain ⟨u',r',q⟩:=hl j y v' e1 e2 e3
    refine ⟨u',r',?_⟩
    rcases q with ⟨k,e⟩ | ⟨k,c,e,z⟩
    ·refine .inl ⟨k,?_⟩
     have:y≠x:=fun e=>hj (aGk hN e1 (e ▸ hi))
     simp [this,e]
    ·exact .inr ⟨k,c,e,z.sameBut hs (cne y c e)⟩
  ·obtain ⟨w',z⟩:=I.cell y c e
   exact ⟨w',z.sameBut hs (cne y c e)⟩
  ·obtain ⟨e,n,ne,nf,d⟩:=I.pin p hp
   exact ⟨(hs.2 p.1 ne).trans e,n,ne,nf,d⟩
 ·have hfn:X.fn x=true:=by
   rcases hf with z | z
   ·exact z
   ·rw [z] at hk;cases hk
  obtain ⟨c,hc⟩:=I.ok.has x (.inl hk)
  obtain ⟨w',z⟩:=I.cell x c hc
  refine wpAny_storeName_cell I.ok.kind hk hc z (fun h' hc' hs=>?_)
  obtain ⟨oc,hoc,hocd⟩:=id z
  refine h { s with heap:=h' } ⟨I.ok,I.os,I.bare,⟨fun b o e n hb hx=>?_,fun b o e n hb hx=>?_,I.base.free,fun b o e hx=>?_,I.base.tups,I.base.frzs,I.base.tbls⟩,⟨m,hn.sameBut hs (Ne.symm (cne x c hc)),fun j y v' e1 e2 e3=>?_⟩,fun y c' e=>?_,I.free,I.freeC,fun p hp=>?_,tracked ⟨oc,hoc,I.freeC x c hc⟩ hs,by simpa using I.len⟩ ⟨c,hs,.inr hc⟩
  ·exact (hs.2 b (Nat.ne_of_lt (Nat.lt_of_lt_of_le (Heap.lt_size e) (I.ok.cab x c hfn hc)))).trans (I.base.keep b o e n hb hx)
  ·obtain ⟨sl,e1⟩:=I.base.slot b o e n hb hx
   exact ⟨sl,(hs.2 b (Nat.ne_of_lt (Nat.lt_of_lt_of_le (Heap.lt_size e) (I.ok.cab x c hfn hc)))).trans e1⟩
  ·obtain ⟨o',e1⟩:=I.base.there b o e hx
   exact ⟨o',(hs.2 b (Nat.ne_of_lt (Nat.lt_of_lt_of_le (Heap.lt_size e) (I.ok.cab x c hfn hc)))).trans e1⟩
  ·by_cases hj:j=i
   ·subst hj
    rw [hi] at e1;cases e1
    rw [List.getElem?_set_self hiσ] at e2
    cases e2
    exact ⟨u,r,.inr ⟨.inl hk,c,hc,hc'⟩⟩
   ·rw [List.getElem?_set_ne (Ne.symm hj)] at e2
    obtain ⟨u',r',q⟩:=hl j y v' e1 e2 e3
    refine ⟨u',r',?_⟩
    rcases q with q | ⟨k,c',e,z'⟩
    ·exact .inl q
    ·refine .inr ⟨k,c',e,z'.sameBut hs ?_⟩
     rintro rfl
     exact hj (aGk hN e1 (I.ok.inj _ _ _ e hc ▸ hi))
  ·by_cases hcc:c'=c
   ·subst hcc;exact ⟨_,hc'⟩
   ·obtain ⟨w2,z2⟩:=I.cell y c' e
    exact ⟨w2,z2.sameBut hs hcc⟩
  ·obtain ⟨e,n,ne,nf,d⟩:=I.pin p hp
   refine ⟨(hs.2 p.1 ?_).trans e,n,ne,nf,d⟩
   intro q
   rw [q,hoc] at e
   have q':oc=p.2:=Option.some.inj e
   exact d w' (by rw [<-q'];exact hocd)
theorem aGl{M:Model}{A:Around}{E:Value->Shared->Prop}{i:Nat}{x:Str}{v:V}{u:Value}{Q:Unit->Shared->Prop}(I:Inv X pins σ H s)(hN:X.N.Nodup)(hi:X.N[i]?=some x)(hx:Loc X.env.scope x)(r:RelV v u)
  (h:∀ s',Inv X pins (σ.set i (some v)) H s'->Q () s') (hf:X.fn x=true\/X.env.scope.names.lookup x=some .local:=by first | exact .inl rfl | exact .inr rfl | assumption):wpAny M A (storeName X.env x u) Q E s :=
 aDq I hN hi hx r (fun s' I' _=>h s' I') hf
theorem Inv.call'{s':Shared}{ch:List Addr}(I:Inv X pins σ H s)(ho:s'.os=s.os)(u:Un (frs X.stack) ch H H' s.heap s'.heap)(hok:HOk X.prog X.w H' s'.heap)(hg:AllBare s'.gens)
  (hch:∀ b∈ch,(b∈X.ex\/X.s₀.heap.objs.size<=b)/\b≠X.env.locals/\(∀ x c,X.env.cells.lookup x=some c->c≠b)/\∀ p∈X.pn++pins,p.1≠b):Inv X pins σ H' s':=by
 obtain ⟨h',g',d',t',o'⟩:=s'
 have e:o'=s.os:=ho
 subst e
 exact I.call (g':=g') (t':=t') (d':=d') u hok hg hch
end
abbrev XK:=Value->Option Addr->Hp->Prop
abbrev St:=List (Option V)
abbrev VK:=V->Hp->Prop
abbrev TE:=St->Hp->VK->Prop
abbrev TT:=St->Hp->(Bool->Hp->Prop)->Prop
abbrev TA:=St->Hp->(List V->Hp->Prop)->Prop
structure Ends where
 nx:St->Hp->Prop
 rt:VK
 bk:St->Hp->Prop:=fun _ _=>False
 ct:St->Hp->Prop:=fun _ _=>False
abbrev TS:=Ends->St->Hp->Prop
def EP(X:Cx)(pins:List (Addr × Obj))(σ:St)(Q:VK)(u:Value)(s':Shared):Prop:=∃ v H',Inv X pins σ H' s'/\RelV v u/\Q v H'
def TP(X:Cx)(pins:List (Addr × Obj))(σ:St)(Q:Bool->Hp->Prop)(b:Bool)(s':Shared):Prop:=∃ H',Inv X pins σ H' s'/\Q b H'
def AP(X:Cx)(pins:List (Addr × Obj))(σ:St)(Q:List V->Hp->Prop)(us:List Value)(s':Shared):Prop:=∃ vs H',Inv X pins σ H' s'/\Vals vs us/\Q vs H'
def SP(X:Cx)(pins:List (Addr × Obj))(D:Ends)(f:Flow)(s':Shared):Prop :=
 match f with
 | .next=>∃ σ' H',Inv X pins σ' H' s'/\D.nx σ' H'
 | .brk=>∃ σ' H',Inv X pins σ' H' s'/\D.bk σ' H'
 | .cont=>∃ σ' H',Inv X pins σ' H' s'/\D.ct σ' H'
 | .ret u=>∃ v σ' H',Inv X pins σ' H' s'/\RelV v u/\D.rt v H'
def PE(X:Cx)(e:Expr)(t:TE):Prop :=
 ∀ (pins:List (Addr × Obj)) (s:Shared) (σ:St) (H:Hp) (Q:VK),Inv X pins σ H s->t σ H Q->wpAny (model X.prog X.w) X.A (eval e X.env) (EP X pins σ Q) X.xe s
def PT(X:Cx)(e:Expr)(t:TT):Prop :=
 ∀ (pins:List (Addr × Obj)) (s:Shared) (σ:St) (H:Hp) (Q:Bool->Hp->Prop),Inv X pins σ H s->t σ H Q->wpAny (model X.prog X.w) X.A (isTrue e X.env (eval e X.env)) (TP X pins σ Q) X.xe s
def PW(X:Cx)(e:Expr)(t:TT):Prop :=
 ∀ (whole:Sem Value) (pins:List (Addr × Obj)) (s:Shared) (σ:St) (H:Hp) (Q:Bool->Hp->Prop),Inv X pins σ H s->t σ H Q->wpAny (model X.prog X.w) X.A (isTrue e X.env whole) (TP X pins σ Q) X.xe s
theorem PW.pt{X:Cx}{e:Expr}{t:TT}(h:PW X e t):PT X e t:=h _
def PA(X:Cx)(es:List Expr)(t:TA):Prop :=
 ∀ (pos:Pos) (pins:List (Addr × Obj)) (s:Shared) (σ:St) (H:Hp) (Q:List V->Hp->Prop),Inv X pins σ H s->t σ H Q->wpAny (model X.prog X.w) X.A (spliced (backTo pos (starEach es X.env))) (AP X pins σ Q) X.xe s
def PS(X:Cx)(st:Stmt)(t:TS):Prop :=
 ∀ (pins:List (Addr × Obj)) (s:Shared) (σ:St) (H:Hp) (D:Ends),Inv X pins σ H s->t D σ H->wpAny (model X.prog X.w) X.A (exec st X.env) (SP X pins D) X.xe s
def PSs(X:Cx)(st:List Stmt)(t:TS):Prop :=
 ∀ (pins:List (Addr × Obj)) (s:Shared) (σ:St) (H:Hp) (D:Ends),Inv X pins σ H s->t D σ H->wpAny (model X.prog X.w) X.A (execs st X.env) (SP X pins D) X.xe s
theorem thn{α:Type}{t:Sem α}{Q Q':α->Shared->Prop}{M:Model}{A:Around}{E:Value->Shared->Prop}{s:Shared}(h:wpAny M A t Q E s)(hQ:∀ a s,Q a s->Q' a s):wpAny M A t Q' E s:=wpAny_mono h hQ fun _ _ x=>x
end L2
namespace L2
open PySem PySem.Spec PyProof.Rows
section
variable{X:Cx}
def bCp(i:Nat):TE:=fun σ H Q=>∃ v,σ[i]?=some (some v)/\Q v H
def tC(v:V):TE:=fun _ H Q=>Q v H
theorem tW{i:Nat}{x:Str}{pos:Pos}(hN:X.N[i]?=some x)(hv:Vis X.env.scope x)(hd:(x==("__debug__" : Str))=false:=by decide)(hcd:(x==("__classdict__" : Str))=false:=by decide):PE X (.Name x pos) (bCp i):=by
 intro pins s σ H Q I h
 obtain ⟨v,e,h⟩:=h
 obtain ⟨m,hn,hl⟩:=I.loc
 obtain ⟨u,r,l⟩:=hl i x v hN e hv
 have fin:EP X pins σ Q u s:=⟨v,H,I,r,h⟩
 rcases l with ⟨hk,hm⟩ | ⟨hk,c,hc,hcell⟩
 ·exact wpAny_Name (wpAny_loadName_local I.ok.kind hk hn hm fin) hd
 ·rcases hk with hk | hk
  ·exact wpAny_Name (wpAny_loadName_cell I.ok.kind hk hc hcell fin) hd
  ·exact wpAny_Name (wpAny_loadName_free I.ok.kind hk hc hcell fin hcd) hd
theorem aV7{i j pos}:PE X (.Constant (.int i) j pos) (tC (.int i)):=fun _ _ _ H _ I h=>wpAny_Constant_int ⟨.int i,H,I.tok _,⟨_,rfl⟩,h⟩
theorem aYy{b j pos}:PE X (.Constant (.bool b) j pos) (tC (.bl b)):=fun _ _ _ H _ I h=>Constant_bool ⟨.bl b,H,I,rfl,h⟩
theorem aV8{j pos}:PE X (.Constant .none j pos) (tC .non):=fun _ _ _ H _ I h=>Constant_none ⟨.non,H,I,rfl,h⟩
theorem aV9{x j pos}:PE X (.Constant (.str x) j pos) (tC (.str x)):=fun _ _ _ H _ I h=>Calls.Constant_str ⟨.str x,H,I.tok _,⟨_,rfl⟩,h⟩
def Gl(X:Cx)(x:Str):Prop:=X.env.kindOf x=some .globalImplicit
theorem xR{E:Value->Shared->Prop}{pins:List (Addr × Obj)}{s:Shared}{σ:St}{H:Hp}{x:Str}{u:Value}{pos:Pos}{Q:Value->Shared->Prop}(I:Inv X pins σ H s)(hg:Gl X x)(hm:X.mg x=some u)(h:Q u s)
  (hd:(x==("__debug__" : Str))=false:=by decide):wpAny (model X.prog X.w) X.A (eval (.Name x pos) X.env) Q E s :=
 Calls.Name_function_global I.ok.kind hg (Calls.loadGlobal_global (by rw [I.ok.glob];exact I.mod.glob.keeps I.bk) hm h) hd
theorem wM{E:Value->Shared->Prop}{pins:List (Addr × Obj)}{s:Shared}{σ:St}{H:Hp}{x:Str}{u:Value}{pos:Pos}{Q:Value->Shared->Prop}(I:Inv X pins σ H s)(hg:Gl X x)(hm:X.mg x=none)(hv:bootBuiltins x=some u)(h:Q u s)
  (hn:x ≠ "__name__" := by decide) (hd:(x==("__debug__" : Str))=false:=by decide):wpAny (model X.prog X.w) X.A (eval (.Name x pos) X.env) Q E s:=by
 obtain ⟨mb,h1,h2⟩:=I.mod.blt
 exact Calls.Name_function_global I.ok.kind hg (Calls.loadGlobal_builtin (by rw [I.ok.glob];exact I.mod.glob.keeps I.bk) hm (by rw [I.ok.blt];exact h1.keeps I.bk) ((h2 x hn).trans hv) h) hd
theorem aKf{x:Str}{v:V}{u:Value}{pos:Pos}(hg:Gl X x)(hm:X.mg x=some u)(r:RelV v u)(hd:(x==("__debug__" : Str))=false:=by decide):PE X (.Name x pos) (tC v) :=
 fun _ _ _ H _ I h=>xR I hg hm ⟨v,H,I,r,h⟩ hd
theorem aRc{x:Str}{v:V}{u:Value}{pos:Pos}(hg:Gl X x)(hm:X.mg x=none)(hv:bootBuiltins x=some u)(r:RelV v u)(hn:x ≠ "__name__" := by decide)(hd:(x==("__debug__" : Str))=false:=by decide):PE X (.Name x pos) (tC v) :=
 fun _ _ _ H _ I h=>wM I hg hm hv ⟨v,H,I,r,h⟩ hn hd
variable{a b:Expr}{ta tb:TE}{pos:Pos}
def tB(t:TE):TT:=fun σ H Q=>t σ H fun x H1=>∃ c,x = .bl c/\Q c H1
theorem aVa{e:Expr}{t:TE}(h:PE X e t)(he:∀ whole,isTrue e X.env whole=(do let v <- whole;standAt e.pos;holding [v] (truthy v)):=by intro _;rfl):PT X e (tB t):=by
 intro pins s σ H Q I hw
 refine isTrue_plain (thn (h pins s σ H _ I hw) fun v s1 ⟨x,H1,I1,r1,q1⟩=>?_) (he _)
 obtain ⟨d,rfl,q⟩:=q1
 cases r1
 exact wpAny_truthy_bool ⟨H1,I1,q⟩
variable{tA tB':TT}{rest:List Expr}
def bCq(t u:TT):TT:=fun σ H Q=>t σ H fun c H1=>if c=true then u σ H1 Q else Q false H1
def tOr(t u:TT):TT:=fun σ H Q=>t σ H fun c H1=>if c=true then Q true H1 else u σ H1 Q
def bCr(t:TT):TT:=fun σ H Q=>t σ H fun c H1=>Q (!c) H1
theorem aRd(ha:PT X a tA):PW X (.BoolOp .And [a] pos) tA:=by
 intro wh pins s σ H Q I h
 refine isTrue_and (thn (ha pins s σ H Q I h) fun c s1 e=>?_)
 cases c with
 | true=>exact isTrue_and_nil e
 | false=>exact e
theorem aVb(ha:PT X a tA):PW X (.BoolOp .Or [a] pos) tA:=by
 intro wh pins s σ H Q I h
 refine isTrue_or (thn (ha pins s σ H Q I h) fun c s1 e=>?_)
 cases c with
 | false=>exact isTrue_or_nil e
 | true=>exact e
theorem aVc(ha:PT X a tA)(hb:PW X (.BoolOp .And (b :: rest) pos) tB'):PW X (.BoolOp .And (a :: b :: rest) pos) (bCq tA tB'):=by
 intro wh pins s σ H Q I h
 refine isTrue_and (thn (ha pins s σ H _ I h) fun c s1 ⟨H1,I1,q1⟩=>?_)
 cases c with
 | true=>exact hb wh pins s1 σ H1 Q I1 q1
 | false=>exact ⟨H1,I1,q1⟩
theorem aYz(ha:PT X a tA)(hb:PW X (.BoolOp .Or (b :: rest) pos) tB'):PW X (.BoolOp .Or (a :: b :: rest) pos) (tOr tA tB'):=by
 intro wh pins s σ H Q I h
 refine isTrue_or (thn (ha pins s σ H _ I h) fun c s1 ⟨H1,I1,q1⟩=>?_)
 cases c with
 | true=>exact ⟨H1,I1,q1⟩
 | false=>exact hb wh pins s1 σ H1 Q I1 q1
theorem aVd(ha:PT X a tA):PT X (.UnaryOp .Not a pos) (bCr tA):=by
 intro pins s σ H Q I h
 exact isTrue_not (ha pins s σ H (fun c H1=>Q (!c) H1) I h)
def aZ0(ta tb:TE):TE:=fun σ H Q=>ta σ H fun x H1=>∃ c,x = .bl c/\if c=true then tb σ H1 Q else Q (.bl false) H1
def bCs(ta tb:TE):TE:=fun σ H Q=>ta σ H fun x H1=>∃ c,x = .bl c/\if c=true then Q (.bl true) H1 else tb σ H1 Q
def aZ1(ta:TE):TE:=fun σ H Q=>ta σ H fun x H1=>∃ c,x = .bl c/\Q (.bl (!c)) H1
theorem aO3{op}{t:TE}(h:PE X a t):PE X (.BoolOp op [a] pos) t:=fun pins s σ H Q I hw=>BoolOp_one (h pins s σ H Q I hw)
theorem aVe(ha:PE X a ta)(hb:PE X (.BoolOp .And (b :: rest) pos) tb):PE X (.BoolOp .And (a :: b :: rest) pos) (aZ0 ta tb):=by
 intro pins s σ H Q I h
 refine BoolOp_and (thn (ha pins s σ H _ I h) fun v s1 ⟨x,H1,I1,r1,q1⟩=>?_)
 obtain ⟨c,rfl,q1⟩:=q1
 cases r1
 refine wpAny_truthy_bool ?_
 cases c with
 | true=>exact hb pins s1 σ H1 Q I1 q1
 | false=>exact ⟨.bl false,H1,I1,rfl,q1⟩
theorem aZ2(ha:PE X a ta)(hb:PE X (.BoolOp .Or (b :: rest) pos) tb):PE X (.BoolOp .Or (a :: b :: rest) pos) (bCs ta tb):=by
 intro pins s σ H Q I h
 refine BoolOp_or (thn (ha pins s σ H _ I h) fun v s1 ⟨x,H1,I1,r1,q1⟩=>?_)
 obtain ⟨c,rfl,q1⟩:=q1
 cases r1
 refine wpAny_truthy_bool ?_
 cases c with
 | false=>exact hb pins s1 σ H1 Q I1 q1
 | true=>exact ⟨.bl true,H1,I1,rfl,q1⟩
theorem aVf(ha:PE X a ta):PE X (.UnaryOp .Not a pos) (aZ1 ta):=by
 intro pins s σ H Q I h
 refine UnaryOp_ (thn (ha pins s σ H _ I h) fun v s1 ⟨x,H1,I1,r1,q1⟩=>?_)
 obtain ⟨c,rfl,q1⟩:=q1
 cases r1
 exact not_of (wpAny_truthy_bool ⟨.bl (!c),H1,I1,rfl,q1⟩)
end
end L2
namespace L2
open PySem PySem.Spec PyProof.Rows
def SqL(K:PySem.W.Frag)(H:Hp)(a:Addr)(xs:List V):Prop :=
 Rd H a (.lst xs) \/
  ∃ (o:Obj) (its:Array Value) (n:Nat),K.lookup a=some o/\o.cls = .type "list" /\ o.dict=none/\o.data = .seq its n/\its.size<=sizeLine/\Vals xs its.toList
def SqT(K:PySem.W.Frag)(H:Hp)(a:Addr)(xs:List V):Prop :=
 Rd H a (.tup xs) \/
  ∃ (o:Obj) (its:Array Value) (n:Nat),K.lookup a=some o/\o.cls = .type "tuple" /\ o.data = .seq its n/\its.size<=sizeLine/\Vals xs its.toList
def bCt:Value->Option V
 | .none=>some .non
 | .bool b=>some (.bl b)
 | .int i _=>some (.int i)
 | .str x _=>some (.str x)
 | .bytes b _=>some (.byt b)
 | .float b _=>some (.flt b)
 | .ref a=>some (.ref a)
 | .type n=>some (.ty n)
 | _=>none
theorem RelV.abs{x:V}{u:Value}(r:RelV x u):bCt u=some x:=by
 cases x with
 | non=>cases r;rfl
 | bl _=>cases r;rfl
 | int _=>obtain ⟨t,rfl⟩:=r;rfl
 | str _=>obtain ⟨t,rfl⟩:=r;rfl
 | byt _=>obtain ⟨t,rfl⟩:=r;rfl
 | flt _=>obtain ⟨t,rfl⟩:=r;rfl
 | ref _=>cases r;rfl
 | ty _=>cases r;rfl
theorem RelV.inj{x y:V}{u:Value}(r:RelV x u)(q:RelV y u):x=y:=Option.some.inj (r.abs.symm.trans q.abs)
theorem Vals.inj:∀ {xs ys:List V} {us:List Value},Vals xs us->Vals ys us->xs=ys
 | _,_,_,.nil,.nil=>rfl
 | _,_,_,.cons r t,.cons r' t'=>by rw [r.inj r',Vals.inj t t']
section
variable{X:Cx}{pins:List (Addr × Obj)}{σ:St}{H:Hp}{s:Shared}{a:Addr}{xs ys:List V}
theorem SqL.of{K:PySem.W.Frag}(h:H a=some (.lst xs)):SqL K H a xs := .inl (.inl h)
theorem SqT.of{K:PySem.W.Frag}(h:H a=some (.tup xs)):SqT K H a xs := .inl (.inl h)
theorem Inv.list(I:Inv X pins σ H s)(h:SqL X.K H a xs):∃ its:List Value,Vals xs its/\PlainL s.heap a its.toArray/\xs.length<=sizeLine:=by
 rcases h with h | ⟨o,its,n,hk,hc,hd,hs,hz,r⟩
 ·obtain ⟨z,its,n,r,e⟩:=h.ok I.hok
  exact ⟨its,r,⟨_,n,e,rfl,rfl,rfl⟩,z⟩
 ·refine ⟨its.toList,r,⟨o,n,I.kIn a o hk,hc,hd,by simpa using hs⟩,?_⟩
  have e:=r.length
  simp only [Array.length_toList] at e
  omega
theorem Inv.tuple(I:Inv X pins σ H s)(h:SqT X.K H a xs):∃ its:List Value,Vals xs its/\IsTup s.heap a its.toArray/\xs.length<=sizeLine:=by
 rcases h with h | ⟨o,its,n,hk,hc,hs,hz,r⟩
 ·obtain ⟨z,its,r,p⟩:=h.ok I.hok
  exact ⟨its,r,p,z⟩
 ·refine ⟨its.toList,r,⟨o,I.kIn a o hk,hc,n,by simpa using hs⟩,?_⟩
  have e:=r.length
  simp only [Array.length_toList] at e
  omega
theorem Inv.list_inj(I:Inv X pins σ H s)(h:SqL X.K H a xs)(h':SqL X.K H a ys):xs=ys:=by
 obtain ⟨its,r,⟨o,n,e,_,_,d⟩,_⟩:=I.list h
 obtain ⟨its',r',⟨o',n',e',_,_,d'⟩,_⟩:=I.list h'
 rw [e] at e';cases e'
 rw [d] at d'
 injection d' with d1 _
 have:its=its':=by simpa using congrArg Array.toList d1
 subst this
 exact r.inj r'
theorem Inv.tuple_inj(I:Inv X pins σ H s)(h:SqT X.K H a xs)(h':SqT X.K H a ys):xs=ys:=by
 obtain ⟨its,r,⟨o,e,_,n,d⟩,_⟩:=I.tuple h
 obtain ⟨its',r',⟨o',e',_,n',d'⟩,_⟩:=I.tuple h'
 rw [e] at e';cases e'
 rw [d] at d'
 injection d' with d1 _
 have:its=its':=by simpa using congrArg Array.toList d1
 subst this
 exact r.inj r'
end
abbrev Cx.wish(X:Cx)(E:Value->Shared->Prop):Cx:={ X with xe:=E }
abbrev Cx.nox(X:Cx):Cx:=X.wish fun _ _=>False
theorem Cx.Ok.wish{X:Cx}(ok:X.Ok)(E:Value->Shared->Prop):(X.wish E).Ok :=
 ⟨ok.mod,ok.kind,ok.glob,ok.blt,ok.above,ok.inj,ok.has,ok.cab,ok.hd,ok.frames,ok.stk,ok.exf,ok.bs,ok.bsz,ok.noex,ok.exfs,ok.funs,ok.frf⟩
theorem Cx.Ok.unwish{X:Cx}{E:Value->Shared->Prop}(ok:(X.wish E).Ok):X.Ok :=
 ⟨ok.mod,ok.kind,ok.glob,ok.blt,ok.above,ok.inj,ok.has,ok.cab,ok.hd,ok.frames,ok.stk,ok.exf,ok.bs,ok.bsz,ok.noex,ok.exfs,ok.funs,ok.frf⟩
section
variable{X:Cx}{pins:List (Addr × Obj)}{σ:St}{H:Hp}{s:Shared}{E:Value->Shared->Prop}
theorem Inv.wish(I:Inv X pins σ H s)(E:Value->Shared->Prop):Inv (X.wish E) pins σ H s:=⟨I.ok.wish E,I.os,I.bare,I.base,I.loc,I.cell,I.free,I.freeC,I.pin,I.hok,I.len⟩
theorem Inv.unwish(I:Inv (X.wish E) pins σ H s):Inv X pins σ H s:=⟨I.ok.unwish,I.os,I.bare,I.base,I.loc,I.cell,I.free,I.freeC,I.pin,I.hok,I.len⟩
theorem SP.unwish{D:Ends}{f:Flow}{s':Shared}(h:SP (X.wish E) pins D f s'):SP X pins D f s':=by
 cases f with
 | next=>obtain ⟨σ',H',I,q⟩:=h;exact ⟨σ',H',I.unwish,q⟩
 | brk=>obtain ⟨σ',H',I,q⟩:=h;exact ⟨σ',H',I.unwish,q⟩
 | cont=>obtain ⟨σ',H',I,q⟩:=h;exact ⟨σ',H',I.unwish,q⟩
 | ret u=>obtain ⟨v,σ',H',I,r,q⟩:=h;exact ⟨v,σ',H',I.unwish,r,q⟩
theorem PSs.nox{st:List Stmt}{t:TS}(h:PSs X.nox st t):PSs X st t:=fun pins s σ H D I hw =>
 wpAny_mono (h pins s σ H D (I.wish _) hw) (fun _ _ q=>q.unwish) fun _ _ z=>False.elim z
end
section
variable{X:Cx}{st:Stmt}{rest:List Stmt}{t u:TS}{e:Expr}{te:TE}{pos:Pos}
def aZ3:TS:=fun D σ H=>D.nx σ H
def bCu(t u:TS):TS:=fun D σ H=>t { D with nx:=u D } σ H
theorem aKg:PSs X [] aZ3:=fun _ _ σ H _ I h=>wpAny_execs_nil ⟨σ,H,I,h⟩
theorem aBj(h1:PS X st t)(h2:PSs X rest u):PSs X (st :: rest) (bCu t u):=by
 intro pins s σ H D I h
 refine wpAny_execs_cons (thn (h1 pins s σ H { D with nx:=u D } I h) fun f s1 q=>?_)
 cases f with
 | next =>
  obtain ⟨σ',H',I',q⟩:=q
  exact h2 pins s1 σ' H' D I' q
 | ret v=>exact q
 | brk=>exact q
 | cont=>exact q
theorem aF2(h1:PS X st t):PSs X [st] t:=by
 intro pins s σ H D I h
 refine wpAny_execs_cons (thn (h1 pins s σ H D I h) fun f s1 q=>?_)
 cases f with
 | next=>exact wpAny_execs_nil q
 | ret v=>exact q
 | brk=>exact q
 | cont=>exact q
theorem Inv.quiet{pins:List (Addr × Obj)}{σ:St}{H:Hp}{s:Shared}(I:Inv X pins σ H s):interactive X.env=false:=by simp [interactive,I.ok.kind]
def aZ4(te:TE):TS:=fun D σ H=>te σ H fun _ H1=>D.nx σ H1
theorem aF3(he:PE X e te)(hs:swapsWith e none pos.line X.env=pure false:=by rfl):PS X (.Expr e pos) (aZ4 te):=by
 intro pins s σ H D I h
 exact wpAny_Expr_any (thn (he pins s σ H _ I h) fun v s1 ⟨x,H1,I1,r1,q1⟩=>⟨σ,H1,I1,q1⟩) I.quiet hs
def bCv(te:TE):TS:=fun D σ H=>te σ H D.rt
theorem aIq(he:PE X e te):PS X (.Return (some e) pos) (bCv te):=by
 intro pins s σ H D I h
 exact wpAny_Return_some (thn (he pins s σ H _ I h) fun v s1 ⟨x,H1,I1,r1,q1⟩=>⟨x,σ,H1,I1,r1,q1⟩)
def bCw(c:TT)(t u:TS):TS:=fun D σ H=>c σ H fun b H1=>if b=true then t D σ H1 else u D σ H1
theorem aTw{c:Expr}{a b:List Stmt}{tc:TT}(hc:PT X c tc)(ha:PSs X a t)(hb:PSs X b u):PS X (.If c a b pos) (bCw tc t u):=by
 intro pins s σ H D I h
 refine wpAny_If (thn (hc pins s σ H _ I h) fun d s1 ⟨H1,I1,q1⟩=>?_)
 cases d with
 | true=>exact ha pins s1 σ H1 D I1 q1
 | false=>exact hb pins s1 σ H1 D I1 q1
end
abbrev TG:=V->St->Hp->(St->Hp->Prop)->Prop
abbrev TGs:=List V->St->Hp->(St->Hp->Prop)->Prop
def PG(X:Cx)(target:Expr)(t:TG):Prop :=
 ∀ (pins:List (Addr × Obj)) (s:Shared) (σ:St) (H:Hp) (v:V) (u:Value) (Q:St->Hp->Prop),Inv X pins σ H s->RelV v u->t v σ H Q ->
  wpAny (model X.prog X.w) X.A (assign target X.env u) (fun _ s'=>∃ σ' H',Inv X pins σ' H' s'/\Q σ' H') X.xe s
def PGs(X:Cx)(ts:List Expr)(t:TGs):Prop :=
 ∀ (pins:List (Addr × Obj)) (s:Shared) (σ:St) (H:Hp) (vs:List V) (us:List Value) (Q:St->Hp->Prop),Inv X pins σ H s->Vals vs us->t vs σ H Q ->
  wpAny (model X.prog X.w) X.A (assignInOrder ((assignEach ts X.env).map (·.2)) us) (fun _ s'=>∃ σ' H',Inv X pins σ' H' s'/\Q σ' H') X.xe s
abbrev aVg:=V->V->V->Hp->(Hp->Prop)->Prop
def aVh(X:Cx)(t:aVg):Prop :=
 ∀ (pins:List (Addr × Obj)) (s:Shared) (σ:St) (H:Hp) (o i v:V) (ov iv u:Value) (Q:Hp->Prop),Inv X pins σ H s->RelV o ov->RelV i iv->RelV v u->t o i v H Q ->
  wpAny (model X.prog X.w) X.A (setItem ov iv u) (fun _ s'=>∃ H',Inv X pins σ H' s'/\Q H') X.xe s
section
variable{X:Cx}{pos:Pos}
def aTx(i:Nat):TG:=fun v σ H Q=>Q (σ.set i (some v)) H
theorem aRe{i:Nat}{x:Str}(hN:X.N.Nodup)(hi:X.N[i]?=some x)(hx:Loc X.env.scope x)(hf:X.fn x=true\/X.env.scope.names.lookup x=some .local:=by first | exact .inl rfl | exact .inr rfl | assumption):PG X (.Name x pos) (aTx i):=by
 intro pins s σ H v u Q I r h
 exact wpAny_assign_Name (aGl I hN hi hx r (fun s' I'=>⟨_,H,I',h⟩) hf)
def bCx:TGs:=fun vs σ H Q=>vs=[]/\Q σ H
def aZ5(t:TG)(u:TGs):TGs:=fun vs σ H Q=>∃ v r,vs=v :: r/\t v σ H fun σ' H'=>u r σ' H' Q
theorem aRf:PGs X [] bCx:=by
 intro pins s σ H vs us Q I r h
 obtain ⟨e,h⟩:=h
 subst e
 cases r
 exact assignInOrder_nil ⟨σ,H,I,h⟩
theorem aO4{e:Expr}{es:List Expr}{t:TG}{u:TGs}(h1:PG X e t)(h2:PGs X es u)
  (hs:(assignEach (e :: es) X.env).map (·.2)=assign e X.env :: (assignEach es X.env).map (·.2):=by rfl):PGs X (e :: es) (aZ5 t u):=by
 intro pins s σ H vs us Q I r h
 obtain ⟨v,vr,e1,h⟩:=h
 subst e1
 cases r with
 | cons r rr =>
  rw [hs]
  refine assignInOrder_cons (thn (h1 pins s σ H _ _ _ I r h) fun _ s1 ⟨σ1,H1,I1,q1⟩=>?_)
  exact h2 pins s1 σ1 H1 _ _ Q I1 rr q1
def bCy(K:PySem.W.Frag)(n:Nat)(t:TGs):TG:=fun v σ H Q=>∃ a xs,v = .ref a/\SqT K H a xs/\xs.length=n/\t xs σ H Q
theorem aVi{es:List Expr}{k:Nat}{t:TGs}{n:Nat}(hc:X.calm=true)(h:PGs X es t)
  (hn:(assignEach es X.env).length=n:=by rfl) (hst:(assignEach es X.env).findIdx? (·.1)=none:=by rfl):PG X (.Tuple es k pos) (bCy X.K n t):=by
 intro pins s σ H v u Q I r hw
 obtain ⟨a,xs,e1,hq,hl,hw⟩:=hw
 subst e1
 cases r
 obtain ⟨its,rv,ht,hz⟩:=I.tuple hq
 refine assign_Tuple_tuple (I.ok.hd hc) ht (by simp [hn,<-hl,rv.length]) hst fun h' hx=>?_
 have I1:Inv X pins σ H { s with heap:=h' }:=I.kept (t':=s.toks) fun b o e=>hx b o (Nat.ne_of_lt (Heap.lt_size e)) e
 exact h pins _ σ H xs _ Q I1 (by simpa using rv) hw
def bCz(to ti:TE)(t:aVg):TG:=fun v σ H Q=>to σ H fun o H1=>ti σ H1 fun i H2=>t o i v H2 fun H3=>Q σ H3
theorem aO5{o i:Expr}{to ti:TE}{t:aVg}(ho:PE X o to)(hi:PE X i ti)(hs:aVh X t)
  (ha:∀ v,assign (.Subscript o i pos) X.env v=(do
   let ov <- holding [v] (eval o X.env)
   let iv <- holding [v,ov] (eval i X.env)
   standAt pos
   holding [v,ov,iv] (setItem ov iv v)
   release [v,ov,iv] []):=by intro _;rfl):PG X (.Subscript o i pos) (bCz to ti t):=by
 intro pins s σ H v u Q I r h
 rw [ha]
 refine wpAny_bind (wpAny_holding (thn (ho pins s σ H _ I h) fun ov s1 ⟨x,H1,I1,r1,q1⟩=>?_))
 refine wpAny_bind (wpAny_holding (thn (hi pins s1 σ H1 _ I1 q1) fun iv s2 ⟨y,H2,I2,r2,q2⟩=>?_))
 refine wpAny_bind (wpAny_standAt (wpAny_bind (wpAny_holding (thn (hs pins s2 σ H2 x y v ov iv u _ I2 r1 r2 r q2) fun _ s3 ⟨H3,I3,q3⟩=>?_))))
 exact wpAny_release ⟨σ,H3,I3,q3⟩
def aZ6(te:TE)(g:TG):TS:=fun D σ H=>te σ H fun x H1=>g x σ H1 D.nx
theorem aIr{tg e:Expr}{te:TE}{g:TG}(he:PE X e te)(hg:PG X tg g)(hs:swapsWithSole [tg] e pos.line X.env=pure false:=by rfl)(hw:swappedStores [tg] e X.env=pure none:=by rfl)
  (h1:(assignEach [tg] X.env).map (·.2)=[assign tg X.env]:=by rfl):PS X (.Assign [tg] e pos) (aZ6 te g):=by
 intro pins s σ H D I h
 refine wpAny_Assign_stores (thn (he pins s σ H _ I h) fun v s1 ⟨x,H1,I1,r1,q1⟩=>?_) hs hw
 rw [h1]
 exact thn (hg pins s1 σ H1 x v _ I1 r1 q1) fun _ s2 q=>q
theorem aBk{i:Nat}{x:Str}{e:Expr}{te:TE}{pos':Pos}(hN:X.N.Nodup)(hi:X.N[i]?=some x)(hx:Loc X.env.scope x)(he:PE X e te)(hs:swapsWith e (some (.Name x pos')) pos.line X.env=pure false:=by rfl)(hf:X.fn x=true\/X.env.scope.names.lookup x=some .local:=by first | exact .inl rfl | exact .inr rfl | assumption) :
  PS X (.Assign [.Name x pos'] e pos) (aZ6 te (aTx i)):=by
 intro pins s σ H D I h
 refine wpAny_Assign_Name (thn (he pins s σ H _ I h) fun v s1 ⟨y,H1,I1,r1,q1⟩=>?_) hs
 exact aGl I1 hN hi hx r1 (fun s2 I2=>⟨_,H1,I2,q1⟩) hf
end
section
variable{X:Cx}{pos:Pos}
def aVj(c:TT)(tb:TS):TS:=fun D σ H=>∃ W:Nat->St->Hp->Prop,(∃ m,W m σ H)/\∀ m σ H,W m σ H ->
 c σ H fun b H1=>if b=true then ∃ N:St->Hp->Prop,(∀ σ' H',N σ' H'->∃ m',m' < m/\W m' σ' H')/\tb { D with nx:=N,ct:=N,bk:=D.nx } σ H1 else D.nx σ H1
theorem aO6{c:Expr}{body:List Stmt}{tc:TT}{tb:TS}(hp:PassesOwn (model X.prog X.w) X.A X.env X.xe)(hc:PT X c tc)(hb:PSs X body tb):PS X (.While c body [] pos) (aVj tc tb):=by
 intro pins s σ H D I h
 obtain ⟨W,⟨m0,w0⟩,turn⟩:=h
 refine wpAny_While (codeAny_whileLoop (fun n s'=>∃ σ' H',Inv X pins σ' H' s'/\W n σ' H') ?_ m0 ⟨σ,H,I,w0⟩)
 rintro n s1 ⟨σ1,H1,I1,w1⟩
 refine wpAny_passesOwn hp (thn (hc pins s1 σ1 H1 _ I1 (turn n σ1 H1 w1)) fun b s2 ⟨H2,I2,q2⟩=>?_)
 cases b with
 | true =>
  obtain ⟨N,hN,q2⟩:=q2
  rw [if_pos rfl]
  refine wpAny_passesOwn hp (thn (hb pins s2 σ1 H2 _ I2 q2) fun f s3 q3=>?_)
  cases f with
  | next =>
   obtain ⟨σ3,H3,I3,n3⟩:=q3
   obtain ⟨m',hm,w3⟩:=hN σ3 H3 n3
   exact ⟨m',hm,σ3,H3,I3,w3⟩
  | cont =>
   obtain ⟨σ3,H3,I3,n3⟩:=q3
   obtain ⟨m',hm,w3⟩:=hN σ3 H3 n3
   exact ⟨m',hm,σ3,H3,I3,w3⟩
  | brk=>exact q3
  | ret v=>exact q3
 | false =>
  rw [if_neg Bool.false_ne_true]
  exact wpAny_execs_nil ⟨σ1,H2,I2,q2⟩
end
structure It where
 go:Nat->Hp->Prop
 yld:Nat->Hp->V->Hp->Prop
 stop:Nat->Hp->Prop
def xT(X:Cx)(pins:List (Addr × Obj))(H:Hp)(b:Addr):Prop :=
 H b=none/\b≠X.env.locals/\b ∉ X.fs/\(b∈X.ex\/X.s₀.heap.objs.size<=b)/\(∀ x c,X.env.cells.lookup x=some c->c≠b)/\∀ p∈X.pn++pins,p.1≠b
theorem Inv.fpOk{X:Cx}{pins:List (Addr × Obj)}{σ:St}{H H':Hp}{s:Shared}{b:Addr}(I:Inv X pins σ H s)(hb:s.heap.objs.size<=b)(hn:H' b=none):xT X pins H' b:=by
 refine ⟨hn,Nat.ne_of_gt (Nat.lt_of_lt_of_le I.lt hb),I.nofs hb,.inr (Nat.le_trans I.sz hb),fun x c e z=>?_,fun p hp z=>?_⟩
 ·obtain ⟨v,q⟩:=I.cell x c e
  exact absurd (Nat.lt_of_lt_of_le q.lt (by rw [z];exact hb)) (Nat.lt_irrefl _)
 ·exact absurd (Nat.lt_of_lt_of_le (Heap.lt_size (I.pin p hp).1) (by rw [z];exact hb)) (Nat.lt_irrefl _)
structure Turn(P:Program)(w:World)(K:PySem.W.Frag)(tg:Expr)(J:It)(fp:List Addr)(it:Addr)(tn:Nat->Heap->Prop):Prop where
 mem:it∈fp
 obj:∀ i h,tn i h->∀ b∈fp,∃ o,h.get? b=some o/\∀ v,o.data ≠ .cell v
 keep:∀ i h h',tn i h->(∀ b∈fp,∀ o,h.get? b=some o->h'.get? b=some o)->tn i h'
 item:∀ (X:Cx),X.prog=P->X.w=w->X.K=K->X.calm=true->∀ (i:Nat) (pins:List (Addr × Obj)) (s:Shared) (σ:St) (H:Hp) (E:Value->Shared->Prop),Inv X pins σ H s->(∀ b∈fp,xT X pins H b)->tn i s.heap->J.go i H ->
  wpAny (model P w) X.A (pyNext (.ref it)) (fun r s1=>∃ u,r=some u /\
   wpAny (model P w) X.A (letOwnedTupleGo tg (.ref it) u) (fun _ s2=>∃ x H',Inv X pins σ H' s2/\RelV x u/\J.yld i H x H'/\tn (i+1) s2.heap/\∀ b∈fp,H' b=none) E s1) E s
 done:∀ (X:Cx),X.prog=P->X.w=w->X.K=K->X.calm=true->∀ (i:Nat) (pins:List (Addr × Obj)) (s:Shared) (σ:St) (H:Hp) (E:Value->Shared->Prop),Inv X pins σ H s->(∀ b∈fp,xT X pins H b)->tn i s.heap->J.stop i H ->
  wpAny (model P w) X.A (pyNext (.ref it)) (fun r s1=>r=none/\Inv X pins σ H s1) E s
 self:∀ (A:Around) (i:Nat) (s:Shared) (Q:Value->Shared->Prop) (E:Value->Shared->Prop),tn i s.heap->Q (.ref it) s->wpAny (model P w) A (pyIter (.ref it)) Q E s
abbrev TI:=St->Hp->(It->Hp->Prop)->Prop
def PIE(X:Cx)(pins:List (Addr × Obj))(σ:St)(tg:Expr)(R:It->Hp->Prop)(itv:Value)(s2:Shared):Prop :=
 ∃ (it:Addr) (fp:List Addr) (tn:Nat->Heap->Prop) (J:It) (H':Hp),itv = .ref it/\Inv X pins σ H' s2/\Turn X.prog X.w X.K tg J fp it tn/\tn 0 s2.heap/\(∀ b∈fp,xT X pins H' b)/\R J H'
def PI(X:Cx)(tg iter:Expr)(wi:TI):Prop :=
 ∀ (pins:List (Addr × Obj)) (s:Shared) (σ:St) (H:Hp) (R:It->Hp->Prop),Inv X pins σ H s->wi σ H R ->
  wpAny (model X.prog X.w) X.A (eval iter X.env) (fun v s1=>wpAny (model X.prog X.w) X.A (pyIter v) (PIE X pins σ tg R) X.xe s1) X.xe s
theorem aKh{M:Model}{A:Around}{E:Value->Shared->Prop}{s:Shared}{tg:Expr}{it:Addr}{u:Value}{o:Obj}{n:String}{vs:Array Value}{Q:Unit->Shared->Prop}(ho:s.heap.get? it=some o)(hc:o.cls = .type n)(hd:o.data = .fields vs)
  (hn:["enumerate", "zip", "dict_itemiterator", "dict_reverseitemiterator", "odict_iterator", "itertools.zip_longest", "itertools.pairwise"].contains n=false) (hQ:Q () s):wpAny M A (letOwnedTupleGo tg (.ref it) u) Q E s:=by
 unfold letOwnedTupleGo
 cases tg<;>first
  | exact wpAny_pure hQ
  | (cases u<;>first
    | exact wpAny_pure hQ
    | (refine wpAny_bind (wpAny_load ho ?_)
       rw [hc,hd]
       show wpAny M A (if (["enumerate", "zip", "dict_itemiterator", "dict_reverseitemiterator", "odict_iterator", "itertools.zip_longest", "itertools.pairwise"].contains n&&vs[0]?==some (rawInt _))=true then _ else _) Q E s
       rw [if_neg (by intro h;rw [hn,Bool.false_and] at h;cases h)]
       exact wpAny_pure hQ))
def Itl(K:PySem.W.Frag)(a:Addr):It :=
 ⟨fun i H=>∃ xs x,SqL K H a xs/\xs[i]?=some x,fun i H x H'=>H'=H/\∀ xs,SqL K H a xs->xs[i]?=some x,fun i H=>∃ xs,SqL K H a xs/\xs.length<=i⟩
def Itt(K:PySem.W.Frag)(a:Addr):It :=
 ⟨fun i H=>∃ xs x,SqT K H a xs/\xs[i]?=some x,fun i H x H'=>H'=H/\∀ xs,SqT K H a xs->xs[i]?=some x,fun i H=>∃ xs,SqT K H a xs/\xs.length<=i⟩
def Itr(lo:Int)(n:Nat):It:=⟨fun i _=>i < n,fun i H x H'=>H'=H/\x = .int (lo+i),fun i _=>n<=i⟩
theorem aMg{P:Program}{w:World}{K:PySem.W.Frag}{tg:Expr}(a it:Addr):Turn P w K tg (Itl K a) [it] it (fun i h=>h.IsListIter it a i) where
 mem:=by simp
 obj:=fun i h st b hb=>by
  have e:b=it:=by simpa using hb
  subst e
  obtain ⟨o,e,c,d⟩:=st
  exact ⟨o,e,fun v z=>by rw [d] at z;cases z⟩
 keep:=fun i h h' st k=>st.at fun o e=>k it (by simp) o e
 item:=by
  intro X hP hw hK hc i pins s σ H E I hf st hg
  subst hP hw hK
  obtain ⟨xs,x,hq,hx⟩:=hg
  obtain ⟨its,rv,p,hz⟩:=I.list hq
  obtain ⟨u,hu,ru⟩:=rv.get hx
  obtain ⟨f0,f1,f2,f3,f4,f5⟩:=hf it (by simp)
  refine wpAny_pyNext_list_item st p.isList (x:=u) (by simpa using hu) fun h' st' sb=>?_
  have I1:Inv X pins σ H { s with heap:=h' }:=I.turned (t':=s.toks) (fun b o hb e=>(sb.2 b hb).trans e) f0 f1 f3 f4 f5
  obtain ⟨o,e,c,d⟩:=id st'
  exact ⟨u,rfl,aKh (s:={ s with heap:=h' }) e c d (by decide) ⟨x,H,I1,ru,⟨rfl,fun ys hy=>by rw [I.list_inj hy hq];exact hx⟩,st',fun b hb=>(hf b hb).1⟩⟩
 done:=by
  intro X hP hw hK hc i pins s σ H E I hf st hg
  subst hP hw hK
  obtain ⟨xs,hq,hx⟩:=hg
  obtain ⟨its,rv,p,hz⟩:=I.list hq
  obtain ⟨f0,f1,f2,f3,f4,f5⟩:=hf it (by simp)
  have hl:=rv.length
  exact wpAny_pyNext_list_end (I.ok.hd hc) st p.isList (by simp;omega) fun h' eb=>⟨rfl,I.turned (t':=s.toks) (fun b o hb e=>eb b o hb e) f0 f1 f3 f4 f5⟩
 self:=fun _ _ _ _ _ st h=>wpAny_pyIter_listiter st h
theorem aIs{P:Program}{w:World}{K:PySem.W.Frag}{tg:Expr}(a it:Addr):Turn P w K tg (Itt K a) [it] it (fun i h=>h.IsTupleIter it a i) where
 mem:=by simp
 obj:=fun i h st b hb=>by
  have e:b=it:=by simpa using hb
  subst e
  obtain ⟨o,e,c,d⟩:=st
  exact ⟨o,e,fun v z=>by rw [d] at z;cases z⟩
 keep:=fun i h h' st k=>st.at fun o e=>k it (by simp) o e
 item:=by
  intro X hP hw hK hc i pins s σ H E I hf st hg
  subst hP hw hK
  obtain ⟨xs,x,hq,hx⟩:=hg
  obtain ⟨its,rv,p,hz⟩:=I.tuple hq
  obtain ⟨u,hu,ru⟩:=rv.get hx
  obtain ⟨f0,f1,f2,f3,f4,f5⟩:=hf it (by simp)
  refine wpAny_pyNext_tuple_item st (show s.heap.IsTuple a its.toArray from p) (x:=u) (by simpa using hu) fun h' st' sb=>?_
  have I1:Inv X pins σ H { s with heap:=h' }:=I.turned (t':=s.toks) (fun b o hb e=>(sb.2 b hb).trans e) f0 f1 f3 f4 f5
  obtain ⟨o,e,c,d⟩:=id st'
  exact ⟨u,rfl,aKh (s:={ s with heap:=h' }) e c d (by decide) ⟨x,H,I1,ru,⟨rfl,fun ys hy=>by rw [I.tuple_inj hy hq];exact hx⟩,st',fun b hb=>(hf b hb).1⟩⟩
 done:=by
  intro X hP hw hK hc i pins s σ H E I hf st hg
  subst hP hw hK
  obtain ⟨xs,hq,hx⟩:=hg
  obtain ⟨its,rv,p,hz⟩:=I.tuple hq
  obtain ⟨f0,f1,f2,f3,f4,f5⟩:=hf it (by simp)
  have hl:=rv.length
  exact wpAny_pyNext_tuple_end (I.ok.hd hc) st (show s.heap.IsTuple a its.toArray from p) (by simp;omega) fun h' eb=>⟨rfl,I.turned (t':=s.toks) (fun b o hb e=>eb b o hb e) f0 f1 f3 f4 f5⟩
 self:=fun _ _ _ _ _ st h=>wpAny_pyIter_tupleiter st h
theorem aIt{P:Program}{w:World}{K:PySem.W.Frag}{tg:Expr}(it:Addr)(lo:Int)(n:Nat):Turn P w K tg (Itr lo n) [it] it (fun i h=>IsRangeIter h it (lo+(i:Nat) * 1) ((n:Int) - (i:Nat)) 1) where
 mem:=by simp
 obj:=fun i h st b hb=>by
  have e:b=it:=by simpa using hb
  subst e
  exact ⟨_,st,fun v z=>by
   have z':Data.fields _=Data.cell v:=z
   cases z'⟩
 keep:=fun i h h' st k=>k it (by simp) _ st
 item:=by
  intro X hP hw hK hc i pins s σ H E I hf st hg
  subst hP hw hK
  obtain ⟨f0,f1,f2,f3,f4,f5⟩:=hf it (by simp)
  have W:=Walks.range (prog:=X.prog) (w:=X.w) (I.ok.hd hc) it lo 1 n
  refine W.item i s _ _ hg st fun v h' tk hv st' kk=>?_
  obtain ⟨t,rfl⟩:=hv
  have I1:Inv X pins σ H { s with heap:=h',toks:=tk }:=I.turned (fun b o hb e=>kk b o (by simpa using hb) e) f0 f1 f3 f4 f5
  refine ⟨_,rfl,aKh (s:={ s with heap:=h',toks:=tk }) (n := "range_iterator") st' rfl rfl (by decide) ⟨.int (lo+i),H,I1,⟨t,?_⟩,⟨rfl,rfl⟩,st',fun b hb=>(hf b hb).1⟩⟩
  rw [Int.mul_one]
 done:=by
  intro X hP hw hK hc i pins s σ H E I hf st hg
  subst hP hw hK
  obtain ⟨f0,f1,f2,f3,f4,f5⟩:=hf it (by simp)
  exact wpAny_pyNext_range_end (I.ok.hd hc) st (by have:n<=i:=hg;omega) fun h' eb=>⟨rfl,I.turned (t':=s.toks) (fun b o hb e=>eb b o hb e) f0 f1 f3 f4 f5⟩
 self:=fun _ _ _ _ _ st h=>wpAny_pyIter_rangeiter st h
end L2
namespace L2
open PySem PySem.Spec PyProof.Rows
section
variable{X:Cx}{tg:Expr}
theorem aGm{pins:List (Addr × Obj)}{σ:St}{H:Hp}{s:Shared}{R:It->Hp->Prop}{E:Value->Shared->Prop}{lo hi:Int}{t u v:Tok}{tk:Nat}(I:Inv X pins σ H s)(h1 : -(2 ^ 62)<=lo)(h2:lo < 2 ^ 62)(h3 : -(2 ^ 62)<=hi)(h4:hi < 2 ^ 62)
  (q:R (Itr lo (hi - lo).toNat) H):wpAny (model X.prog X.w) X.A (pyIter (.ref s.heap.objs.size)) (PIE X pins σ tg R) E { s with heap:=s.heap.push { cls := .type "range", data := .fields #[.int lo t,.int hi u,.int 1 v] },toks:=tk }:=by
 refine wpAny_pyIter_range (IsRange.new ..) (small_one h1 h2 h3 h4) ?_
 have I1:Inv X pins σ H { s with heap:=s.heap.push { cls := .type "range", data := .fields #[.int lo t,.int hi u,.int 1 v] },toks:=tk }:=I.kept fun b o e=>Heap.get?_push_of_some _ e
 refine ⟨(s.heap.push { cls := .type "range", data := .fields #[.int lo t,.int hi u,.int 1 v] }).objs.size,[(s.heap.push { cls := .type "range", data := .fields #[.int lo t,.int hi u,.int 1 v] }).objs.size],_,_,H,rfl,
  I1.kept (t':=tk) fun b o e=>Heap.get?_push_of_some _ e,aIt _ lo (hi - lo).toNat,?_,fun b hb=>?_,q⟩
 ·have e1:lo+((0:Nat):Int) * 1=lo:=by simp
  have e2:(((hi - lo).toNat:Nat):Int) - ((0:Nat):Int)=Builtin.Range.rangeSize lo hi 1:=by rw [rangeSize_one];split<;>omega
  show IsRangeIter _ _ (lo+((0:Nat):Int) * 1) ((((hi - lo).toNat:Nat):Int) - ((0:Nat):Int)) 1
  rw [e1,e2]
  exact Heap.get?_push_size _ rfl
 ·have e:b=(s.heap.push { cls := .type "range", data := .fields #[.int lo t,.int hi u,.int 1 v] }).objs.size:=by simpa using hb
  subst e
  exact I1.fpOk (Nat.le_refl _) (I1.hok.fresh (Nat.le_refl _))
def aZ7(ta:TA):TI:=fun σ H R=>ta σ H fun vs H1=>∃ j:Int,vs=[.int j] /\ -(2 ^ 62)<=j/\j < 2 ^ 62/\R (Itr 0 j.toNat) H1
def aZ8(ta:TA):TI:=fun σ H R=>ta σ H fun vs H1=>∃ i j:Int,vs=[.int i,.int j]/\(-(2 ^ 62)<=i/\i < 2 ^ 62 /\ -(2 ^ 62)<=j/\j < 2 ^ 62)/\R (Itr i (j - i).toNat) H1
theorem aMh{a:Expr}{ta:TA}{p pos:Pos}(hg:Gl X "range")(hm:X.mg "range" = none)(ha:PA X [a] ta)(hs:starEach [a] X.env=[(false,eval a X.env)]:=by rfl):PI X tg (.Call (.Name "range" p) [a] [] pos) (aZ7 ta):=by
 intro pins s σ H R I h
 refine Call_ (wM I hg hm boot_range (PyProof.Rows.callWith_type1 (thn (ha pos pins s σ H _ I h) fun us s1 ⟨vs,H1,I1,r1,q1⟩=>?_) hs rfl))
 obtain ⟨j,e,q1,q2,q⟩:=q1
 subst e
 cases r1 with
 | cons r rr =>
  cases rr
  obtain ⟨t,rfl⟩:=r
  exact call_range_1 (aGm I1 (by omega) (by omega) q1 q2 (by simpa using q))
theorem aMi{a b:Expr}{ta:TA}{p pos:Pos}(hg:Gl X "range")(hm:X.mg "range" = none)(ha:PA X [a,b] ta)(hs:starEach [a,b] X.env=[(false,eval a X.env),(false,eval b X.env)]:=by rfl)(hs2:starEach [b] X.env=[(false,eval b X.env)]:=by rfl) :
  PI X tg (.Call (.Name "range" p) [a,b] [] pos) (aZ8 ta):=by
 intro pins s σ H R I h
 refine Call_ (wM I hg hm boot_range (PyProof.Rows.callWith_type1 (thn (ha pos pins s σ H _ I h) fun us s1 ⟨vs,H1,I1,r1,q1⟩=>?_) (by rw [hs,hs2]) (by rw [hs2];rfl)))
 obtain ⟨i,j,e,⟨q1,q2,q3,q4⟩,q⟩:=q1
 subst e
 cases r1 with
 | cons r rr =>
  cases rr with
  | cons r' rr =>
   cases rr
   obtain ⟨t,rfl⟩:=r
   obtain ⟨t',rfl⟩:=r'
   exact call_range_2 (aGm I1 q1 q2 q3 q4 q)
def bD0(wi:TI)(g:TG)(tb:TS):TS:=fun D σ H=>wi σ H fun J H1=>∃ W:Nat->Nat->St->Hp->Prop,(∃ m,W 0 m σ H1)/\∀ i m σ H,W i m σ H ->
 (J.stop i H/\D.nx σ H)\/(J.go i H/\∃ N:St->Hp->Prop,(∀ σ' H',N σ' H'->∃ m',m' < m/\W (i+1) m' σ' H')/\∀ x H',J.yld i H x H'->g x σ H' fun σ2 H2=>tb { D with nx:=N,ct:=N,bk:=D.nx } σ2 H2)
def aF4(fp:List Addr)(h:Heap):List (Addr × Obj):=fp.filterMap fun b=>(h.get? b).map fun o=>(b,o)
theorem rJ{fp:List Addr}{h:Heap}{b:Addr}{o:Obj}(hb:b∈fp)(e:h.get? b=some o):(b,o)∈aF4 fp h:=List.mem_filterMap.mpr ⟨b,hb,by rw [e];rfl⟩
theorem aMj{fp:List Addr}{h:Heap}{p:Addr × Obj}(hp:p∈aF4 fp h):p.1∈fp/\h.get? p.1=some p.2:=by
 obtain ⟨b,hb,e⟩:=List.mem_filterMap.mp hp
 cases q:h.get? b with
 | none=>rw [q] at e;cases e
 | some o =>
  rw [q] at e
  have e':(b,o)=p:=Option.some.inj e
  subst e'
  exact ⟨hb,q⟩
theorem Inv.pinned{pins:List (Addr × Obj)}{σ:St}{H:Hp}{s:Shared}{fp:List Addr}(I:Inv X pins σ H s)(hf:∀ b∈fp,xT X pins H b)(ho:∀ b∈fp,∃ o,s.heap.get? b=some o/\∀ v,o.data ≠ .cell v):Inv X (pins++aF4 fp s.heap) σ H s :=
 I.pins_of fun p hp=>(List.mem_append.mp hp).elim (fun z=>I.pin p (List.mem_append_right _ z)) fun z=>by
  obtain ⟨hb,e⟩:=aMj z
  obtain ⟨f0,f1,f2,_⟩:=hf p.1 hb
  obtain ⟨o,e',d⟩:=ho p.1 hb
  rw [e] at e';cases e'
  exact ⟨e,f0,f1,f2,d⟩
theorem Inv.unpinned{pins pl:List (Addr × Obj)}{σ:St}{H:Hp}{s:Shared}(I:Inv X (pins++pl) σ H s):Inv X pins σ H s:=I.pins_of fun p hp=>I.pin p (List.mem_append_right _ (List.mem_append_left _ hp))
theorem aVk{iter:Expr}{body:List Stmt}{wi:TI}{g:TG}{tb:TS}{pos:Pos}(hp:PassesOwn (model X.prog X.w) X.A X.env X.xe)(hc:X.calm=true)(hi:PI X tg iter wi)(hg:PG X tg g)(hb:PSs X body tb)
  (hs:∀ x,foldedSetIterable iter X.env x=pure x:=by intro _;rfl):PS X (.For tg iter body [] pos) (bD0 wi g tb):=by
 intro pins s σ H D I h
 refine wpAny_For (thn (hi pins s σ H _ I h) fun v s1 h1=>thn h1 fun itv s2 h2=>?_) hs
 obtain ⟨it,fp,tn,J,H2,e,I2,T,st2,f2,W,⟨m0,w0⟩,turn⟩:=h2
 subst e
 have stat:∀ {H':Hp},(∀ b∈fp,H' b=none)->∀ b∈fp,xT X pins H' b:=fun hn b hb=>⟨hn b hb,(f2 b hb).2⟩
 refine codeAny_forLoop_any (fun n s'=>∃ i σ' H',Inv X pins σ' H' s'/\tn i s'.heap/\(∀ b∈fp,H' b=none)/\W i n σ' H') ?_ m0 ⟨0,σ,H2,I2,st2,fun b hb=>(f2 b hb).1,w0⟩
 rintro n s3 ⟨i,σ3,H3,I3,st3,fr3,w3⟩
 rcases turn i n σ3 H3 w3 with ⟨stop,qn⟩ | ⟨go,N,hN,step⟩
 ·refine wpAny_passesOwn hp (thn (T.done X rfl rfl rfl hc i pins s3 σ3 H3 X.xe I3 (stat fr3) st3 stop) fun r s4 ⟨hr,I4⟩=>?_)
  subst hr
  exact wpAny_execs_nil ⟨σ3,H3,I4,qn⟩
 ·refine wpAny_passesOwn hp (thn (T.item X rfl rfl rfl hc i pins s3 σ3 H3 X.xe I3 (stat fr3) st3 go) fun r s4 ⟨u,hr,h4⟩=>?_)
  subst hr
  refine wpAny_passesOwn hp (thn h4 fun _ s5 ⟨x,H5,I5,r5,y5,st5,fr5⟩=>?_)
  have I5':=I5.pinned (stat fr5) (T.obj _ _ st5)
  refine wpAny_passesOwn hp (thn (hg _ s5 σ3 H5 x u _ I5' r5 (step x H5 y5)) fun _ s6 ⟨σ6,H6,I6,q6⟩=>?_)
  refine wpAny_passesOwn hp (thn (hb _ s6 σ6 H6 _ I6 q6) fun f s7 q7=>?_)
  have again:∀ {σ7:St} {H7:Hp},Inv X (pins++aF4 fp s5.heap) σ7 H7 s7->N σ7 H7->∃ m,m < n/\∃ i σ' H',Inv X pins σ' H' s7/\tn i s7.heap/\(∀ b∈fp,H' b=none)/\W i m σ' H':=fun {σ7 H7} I7 n7=>by
   obtain ⟨m',hm,w7⟩:=hN σ7 H7 n7
   refine ⟨m',hm,i+1,σ7,H7,I7.unpinned,T.keep _ _ _ st5 fun b hb o e=>(I7.pin (b,o) (List.mem_append_right _ (List.mem_append_right _ (rJ hb e)))).1,fun b hb=>?_,w7⟩
   obtain ⟨o,e,d⟩:=T.obj _ _ st5 b hb
   exact (I7.pin (b,o) (List.mem_append_right _ (List.mem_append_right _ (rJ hb e)))).2.1
  cases f with
  | next=>obtain ⟨σ7,H7,I7,n7⟩:=q7;exact again I7 n7
  | cont=>obtain ⟨σ7,H7,I7,n7⟩:=q7;exact again I7 n7
  | brk=>obtain ⟨σ7,H7,I7,q7⟩:=q7;exact ⟨σ7,H7,I7.unpinned,q7⟩
  | ret v=>obtain ⟨x7,σ7,H7,I7,r7,q7⟩:=q7;exact ⟨x7,σ7,H7,I7.unpinned,r7,q7⟩
end
end L2
namespace L2
open PySem PySem.Spec PyProof.Rows
abbrev R2:=V->V->Hp->VK->Prop
def OpR(X:Cx)(f:Value->Value->Sem Value)(r:R2):Prop :=
 ∀ (pins:List (Addr × Obj)) (s:Shared) (σ:St) (H:Hp) (x y:V) (v u:Value) (Q:VK),Inv X pins σ H s->RelV x v->RelV y u->r x y H Q ->
  wpAny (model X.prog X.w) X.A (f v u) (EP X pins σ Q) X.xe s
def UnR(X:Cx)(f:Value->Sem Value)(r:V->Hp->VK->Prop):Prop :=
 ∀ (pins:List (Addr × Obj)) (s:Shared) (σ:St) (H:Hp) (x:V) (v:Value) (Q:VK),Inv X pins σ H s->RelV x v->r x H Q ->
  wpAny (model X.prog X.w) X.A (f v) (EP X pins σ Q) X.xe s
def oO(X:Cx)(f:Value)(r:List V->Hp->VK->Prop):Prop :=
 ∀ (pins:List (Addr × Obj)) (s:Shared) (σ:St) (H:Hp) (xs:List V) (us:List Value) (Q:VK),Inv X pins σ H s->Vals xs us->r xs H Q ->
  wpAny (model X.prog X.w) X.A (call f us) (EP X pins σ Q) X.xe s
def tOp(r:R2)(ta tb:TE):TE:=fun σ H Q=>ta σ H fun x H1=>tb σ H1 fun y H2=>r x y H2 Q
def tUn(r:V->Hp->VK->Prop)(ta:TE):TE:=fun σ H Q=>ta σ H fun x H1=>r x H1 Q
def rI(C:Int->Int->Prop)(g:Int->Int->V):R2:=fun x y H Q=>∃ i j,x = .int i/\y = .int j/\C i j/\Q (g i j) H
def rI0(g:Int->Int->V):R2:=fun x y H Q=>∃ i j,x = .int i/\y = .int j/\Q (g i j) H
def rU(g:Int->V):V->Hp->VK->Prop:=fun x H Q=>∃ i,x = .int i/\Q (g i) H
section
variable{X:Cx}{a b c:Expr}{ta tb tc:TE}{pos:Pos}
theorem aVl(ha:PE X a ta)(hb:PE X b tb){pins:List (Addr × Obj)}{s:Shared}{σ:St}{H:Hp}{R:V->V->Hp->Prop}(I:Inv X pins σ H s)
  (h:ta σ H fun x H1=>tb σ H1 fun y H2=>R x y H2) {Q:Value->Shared->Prop} {f:Value->Value->Sem Value}
  (hf:∀ v u s2 x y H2,Inv X pins σ H2 s2->RelV x v->RelV y u->R x y H2->wpAny (model X.prog X.w) X.A (f v u) Q X.xe s2) :
  wpAny (model X.prog X.w) X.A (eval a X.env) (fun v s₁=>wpAny (model X.prog X.w) X.A (eval b X.env) (fun u s₂=>wpAny (model X.prog X.w) X.A (f v u) Q X.xe s₂) X.xe s₁) X.xe s:=by
 refine thn (ha pins s σ H _ I h) fun v s1 ⟨x,H1,I1,r1,q1⟩=>?_
 refine thn (hb pins s1 σ H1 _ I1 q1) fun u s2 ⟨y,H2,I2,r2,q2⟩=>?_
 exact hf v u s2 x y H2 I2 r1 r2 q2
theorem aTy{op:Operator}{r:R2}(ho:OpR X (binaryOp op) r)(ha:PE X a ta)(hb:PE X b tb):PE X (.BinOp a op b pos) (tOp r ta tb):=by
 intro pins s σ H Q I h
 exact wpAny_BinOp (aVl ha hb I h fun v u s2 x y H2 I2 rx ry q=>ho pins s2 σ H2 x y v u Q I2 rx ry q)
theorem aZ9{op:UnaryOp}{r:V->Hp->VK->Prop}(ho:UnR X (unaryOp op) r)(ha:PE X a ta):PE X (.UnaryOp op a pos) (tUn r ta):=by
 intro pins s σ H Q I h
 exact UnaryOp_ (thn (ha pins s σ H _ I h) fun v s1 ⟨x,H1,I1,r1,q1⟩=>ho pins s1 σ H1 x v Q I1 r1 q1)
theorem opI{f:Value->Value->Sem Value}{C:Int->Int->Prop}{g:Int->Int->Int}
  (rule:∀ (i j:Int) (t u:Tok) (s:Shared) (Q:Value->Shared->Prop) (E:Value->Shared->Prop),C i j->Q (.int (g i j) s.toks) { s with toks:=s.toks+1 }->wpAny (model X.prog X.w) X.A (f (.int i t) (.int j u)) Q E s) :
  OpR X f (rI C fun i j => .int (g i j)):=by
 intro pins s σ H x y v u Q I rx ry h
 obtain ⟨i,j,rfl,rfl,hc,q⟩:=h
 obtain ⟨t,rfl⟩:=rx
 obtain ⟨t',rfl⟩:=ry
 exact rule i j t t' s _ _ hc ⟨.int (g i j),H,I.tok _,⟨_,rfl⟩,q⟩
theorem aRg{f:Value->Value->Sem Value}{g:Int->Int->Int}
  (rule:∀ (i j:Int) (t u:Tok) (s:Shared) (Q:Value->Shared->Prop) (E:Value->Shared->Prop),Q (.int (g i j) s.toks) { s with toks:=s.toks+1 }->wpAny (model X.prog X.w) X.A (f (.int i t) (.int j u)) Q E s) :
  OpR X f (rI0 fun i j => .int (g i j)):=by
 intro pins s σ H x y v u Q I rx ry h
 obtain ⟨i,j,rfl,rfl,q⟩:=h
 obtain ⟨t,rfl⟩:=rx
 obtain ⟨t',rfl⟩:=ry
 exact rule i j t t' s _ _ ⟨.int (g i j),H,I.tok _,⟨_,rfl⟩,q⟩
theorem aRh{f:Value->Value->Sem Value}{g:Int->Int->Bool}
  (rule:∀ (i j:Int) (t u:Tok) (s:Shared) (Q:Value->Shared->Prop) (E:Value->Shared->Prop),Q (.bool (g i j)) s->wpAny (model X.prog X.w) X.A (f (.int i t) (.int j u)) Q E s) :
  OpR X f (rI0 fun i j => .bl (g i j)):=by
 intro pins s σ H x y v u Q I rx ry h
 obtain ⟨i,j,rfl,rfl,q⟩:=h
 obtain ⟨t,rfl⟩:=rx
 obtain ⟨t',rfl⟩:=ry
 exact rule i j t t' s _ _ ⟨.bl (g i j),H,I,rfl,q⟩
def bD1(i j:Int):Prop:=0 < j/\j < 1073741824
def aZa(i j:Int):Prop:=0<=j/\j<=1000000/\i.natAbs < 2 ^ 64
def aO7(i j:Int):Prop:=(-(2 ^ 64) < i/\i < 2 ^ 64)\/(-(2 ^ 64) < j/\j < 2 ^ 64)
theorem aO7.ok{i j:Int}(h:aO7 i j):IntMulOk i j:=by
 rcases h with ⟨h1,h2⟩ | ⟨h1,h2⟩
 ·exact .of_left (intBits_le_64 h1 h2)
 ·exact .of_right (intBits_le_64 h1 h2)
theorem aIu(k:Nat):(0:Int)<=2 ^ k:=by
 rw [two_pow_cast]
 exact Int.natCast_nonneg _
theorem aVm:OpR X (binaryOp .Add) (rI0 fun i j => .int (i+j)):=aRg fun _ _ _ _ _ _ _ q=>add_int q
theorem aVn:OpR X (binaryOp .Sub) (rI0 fun i j => .int (i - j)):=aRg fun _ _ _ _ _ _ _ q=>sub_int q
theorem aVo:OpR X (binaryOp .Mult) (rI aO7 fun i j => .int (i * j)):=opI fun _ _ _ _ _ _ _ hc q=>mul_int q hc.ok
theorem aRi:OpR X (binaryOp .FloorDiv) (rI bD1 fun i j => .int (i / j)):=opI fun i j _ _ _ _ _ hc q=>by
 have h1:(0:Int) < j:=hc.1
 have h2:j < 1073741824:=hc.2
 exact floordiv_int (by omega) (by rw [Int.fdiv_eq_ediv_of_nonneg i (by omega)];exact q) (.inl (PyProof.noPylong_small (by omega)))
theorem aO8:OpR X (binaryOp .Mod) (rI (fun _ j=>0 < j) fun i j => .int (i % j)):=opI fun i j _ _ _ _ _ hc q=>by
 have h1:(0:Int) < j:=hc
 exact mod_int' (by omega) (by rw [Int.fmod_eq_emod_of_nonneg i (by omega)];exact q)
theorem aVp:OpR X (binaryOp .Pow) (rI aZa fun i j => .int (i ^ j.toNat)):=opI fun _ _ _ _ _ _ _ hc q=>pow_int_small hc.1 hc.2.1 hc.2.2 q
theorem aVq:OpR X (binaryOp .LShift) (rI aZa fun i j => .int (i * 2 ^ j.toNat)):=opI fun _ _ _ _ _ _ _ hc q=>lshift_int_small hc.1 hc.2.1 hc.2.2 q
theorem aVr:OpR X (binaryOp .RShift) (rI (fun _ j=>0<=j) fun i j => .int (i / 2 ^ j.toNat)):=opI fun i j _ _ _ _ _ hc q =>
 rshift_int hc (by rw [Int.fdiv_eq_ediv_of_nonneg i (aIu _)];exact q)
theorem aVs:OpR X (binaryOp .BitAnd) (rI0 fun i j => .int (Builtin.bitAnd i j)):=aRg fun _ _ _ _ _ _ _ q=>and_int q
theorem aZb:OpR X (binaryOp .BitOr) (rI0 fun i j => .int (Builtin.bitOr i j)):=aRg fun _ _ _ _ _ _ _ q=>or_int q
theorem unI{f:Value->Sem Value}{g:Int->Int}
  (rule:∀ (i:Int) (t:Tok) (s:Shared) (Q:Value->Shared->Prop) (E:Value->Shared->Prop),Q (.int (g i) s.toks) { s with toks:=s.toks+1 }->wpAny (model X.prog X.w) X.A (f (.int i t)) Q E s) :
  UnR X f (rU fun i => .int (g i)):=by
 intro pins s σ H x v Q I rx h
 obtain ⟨i,rfl,q⟩:=h
 obtain ⟨t,rfl⟩:=rx
 exact rule i t s _ _ ⟨.int (g i),H,I.tok _,⟨_,rfl⟩,q⟩
theorem aVt:UnR X (unaryOp .USub) (rU fun i => .int (-i)):=unI fun _ _ _ _ _ q=>neg_int q
end
section
variable{X:Cx}{a b c:Expr}{ta tb tc:TE}{pos:Pos}
theorem aO9{pins:List (Addr × Obj)}{σ:St}{H:Hp}{s:Shared}{Q:VK}{k k':Bool}(I:Inv X pins σ H s)(q:Q (.bl k) H)(e:k=k'):EP X pins σ Q (.bool k') s:=by
 subst e
 exact ⟨.bl k,H,I,rfl,q⟩
theorem aKi:OpR X (compareOp .Lt) (rI0 fun i j => .bl (decide (i < j))):=aRh fun _ _ _ _ _ _ _ q=>lt_int q
theorem aZc:OpR X (compareOp .LtE) (rI0 fun i j => .bl (decide (i<=j))):=aRh fun _ _ _ _ _ _ _ q=>le_int q
theorem aGn:OpR X (compareOp .Gt) (rI0 fun i j => .bl (decide (j < i))):=aRh fun _ _ _ _ _ _ _ q=>gt_int q
theorem aOa:OpR X (compareOp .GtE) (rI0 fun i j => .bl (decide (j<=i))):=aRh fun _ _ _ _ _ _ _ q=>ge_int q
theorem aMk:OpR X (compareOp .In) (fun x y H Q=>∃ i j,x = .str i/\y = .str j/\Q (.bl (!(Builtin.Str.occurrences j i 0 j.length 1).isEmpty)) H):=by
 intro pins s σ H x y v u Q I rx ry h
 obtain ⟨i,j,rfl,rfl,q⟩:=h
 obtain ⟨t,rfl⟩:=rx
 obtain ⟨t',rfl⟩:=ry
 exact in_str (aO9 I q rfl)
theorem aF5:OpR X (compareOp .NotIn) (fun x y H Q=>∃ i j,x = .str i/\y = .str j/\Q (.bl (!(!(Builtin.Str.occurrences j i 0 j.length 1).isEmpty))) H):=by
 intro pins s σ H x y v u Q I rx ry h
 obtain ⟨i,j,rfl,rfl,q⟩:=h
 obtain ⟨t,rfl⟩:=rx
 obtain ⟨t',rfl⟩:=ry
 exact notIn_str (aO9 I q rfl)
theorem OpR.or{f:Value->Value->Sem Value}{r r':R2}(h:OpR X f r)(h':OpR X f r'):OpR X f (fun x y H Q=>r x y H Q\/r' x y H Q):=by
 intro pins s σ H x y v u Q I rx ry q
 rcases q with q | q
 ·exact h pins s σ H x y v u Q I rx ry q
 ·exact h' pins s σ H x y v u Q I rx ry q
theorem cG(b:Expr){op:CmpOp}(h:op ≠ .In:=by decide)(h2:op ≠ .NotIn:=by decide):behindInMarks op b=false:=by
 have e1:(op==CmpOp.In)=false:=by cases op<;>first | rfl | exact absurd rfl h
 have e2:(op==CmpOp.NotIn)=false:=by cases op<;>first | rfl | exact absurd rfl h2
 cases b<;>simp [behindInMarks,e1,e2]
theorem aKj{op:CmpOp}{r:R2}(ho:OpR X (compareOp op) r)(ha:PE X a ta)(hb:PE X b tb)(hm:behindInMarks op b=false):PE X (.Compare a [op] [b] pos) (tOp r ta tb):=by
 intro pins s σ H Q I h
 exact wpAny_Compare1 (aVl ha hb I h fun v u s2 x y H2 I2 rx ry q=>ho pins s2 σ H2 x y v u Q I2 rx ry q) hm
def aZd(t:TE):TT:=fun σ H Q=>t σ H fun x H'=>∃ k,x = .bl k/\Q k H'
theorem aRj{op:CmpOp}{r:R2}(ho:OpR X (compareOp op) r)(ha:PE X a ta)(hb:PE X b tb)(hm:behindInMarks op b=false):PT X (.Compare a [op] [b] pos) (aZd (tOp r ta tb)):=by
 intro pins s σ H Q I h
 refine wpAny_isTrue_Compare1 (thn (ha pins s σ H _ I h) fun v s1 ⟨x,H1,I1,r1,q1⟩=>thn (hb pins s1 σ H1 _ I1 q1) fun u s2 ⟨y,H2,I2,r2,q2⟩ =>
  thn (ho pins s2 σ H2 x y v u _ I2 r1 r2 q2) fun c s3 ⟨z,H3,I3,r3,k,e,q3⟩=>?_) hm
 subst e
 cases r3
 exact wpAny_truthy_bool ⟨H3,I3,q3⟩
theorem zL:(sizeLine:Nat) < 2 ^ 63:=by rw [sizeLine_eq];decide
theorem aIv:OpR X (binaryOp .Add) (fun x y H Q=>∃ i j,x = .str i/\y = .str j/\i.length+j.length<=sizeLine/\Q (.str (i++j)) H):=by
 intro pins s σ H x y v u Q I rx ry h
 obtain ⟨i,j,rfl,rfl,hz,q⟩:=h
 obtain ⟨t,rfl⟩:=rx
 obtain ⟨t',rfl⟩:=ry
 exact add_str (fun t' tk=>⟨.str (i++j),H,I.tok _,⟨_,rfl⟩,q⟩) hz
theorem vals1{x:V}{us:List Value}(r:Vals [x] us):∃ u,us=[u]/\RelV x u:=by
 cases r with
 | cons r1 r2=>cases r2;exact ⟨_,rfl,r1⟩
end
end L2
namespace L2
open PySem PySem.Spec PyProof.Rows
structure ObjM(h:Heap)(x dx C:Addr)(mA:Str->Option Value):Prop where
 obj:h.get? x=some (PySem.W.instObj C dx)
 ns:h.Ns1 dx mA
 ne:dx≠x
theorem aMl{h:Heap}{dx:Addr}{mA:Str->Option Value}(n:h.Ns1 dx mA):∃ od,h.get? dx=some od/\∀ name,PySem.W.lookIn name od=some (mA name):=by
 obtain ⟨o,es,ep,ho,hd,hk,_,hm⟩:=n
 refine ⟨o,ho,fun name=>?_⟩
 have e:=hm name
 unfold nsFind findBy at e
 rw [<-Array.find?_toList] at e
 unfold PySem.W.lookIn
 rw [hd]
 dsimp only
 split
 ·rename_i y q
  rw [q] at e
  exact congrArg some e
 ·rename_i q
  rw [q] at e
  have a:es.toList.any (·.refKey)=false:=by
   rw [List.any_eq_false]
   intro y hy
   obtain ⟨z,t,hkey⟩:=hk y (Array.mem_toList_iff.mp hy)
   simp [DictEntry.refKey,hkey]
  have a':¬ es.toList.any (·.refKey)=true:=by rw [a];exact Bool.false_ne_true
  rw [if_neg a']
  exact congrArg some e
theorem ObjM.look{h:Heap}{x dx C:Addr}{mA:Str->Option Value}(I:ObjM h x dx C mA):∃ od,PySem.W.InstAt h x (PySem.W.instObj C dx) C (some od)/\∀ name,PySem.W.lookIn name od=some (mA name) :=
 let ⟨od,ho,hl⟩:=aMl I.ns
 ⟨od,⟨I.obj,rfl,rfl,ho⟩,hl⟩
section
variable{prog:Program}{w:World}{A:Around}{E:Value->Shared->Prop}{s:Shared}{K:PySem.W.Frag}{x dx C f:Addr}{mA:Str->Option Value}{name:Str}{v:Value}
theorem aRk{expr:Bool}{Q:Value->Shared->Prop}(X:K.In s.heap)(I:ObjM s.heap x dx C mA)(hg:PySem.W.plainGet K C name=true)(hh:PySem.W.hasDictIn K C=true)
  (ha:PySem.W.findIn K (.ref C) name=some none) (hv:mA name=some v) (hv':PySem.W.handedIn v=true) (h:Q v { s with toks:=s.toks+1 }) :
  wpAny (model prog w) A (getAttr (.ref x) name expr) Q E s:=by
 obtain ⟨od,J,hl⟩:=I.look
 exact PySem.W.get_value X J (PySem.W.plainGet_of hg).1 (PySem.W.findObj_own hh ha rfl (by rw [hl,hv])) hv' h
theorem aOb{pl:Sem Bool}{Q:Value × List Value->Shared->Prop}(X:K.In s.heap)(I:ObjM s.heap x dx C mA)(hg:PySem.W.plainGet K C name=true)
  (hf:PySem.W.findIn K (.ref C) name=some (some (.ref f))) (ht:PySem.W.isFn K (.ref f)=true) (hv:mA name=none) (h:Q (.ref f,[.ref x]) s) :
  wpAny (model prog w) A (getMethod (.ref x) name pl) Q E s:=by
 obtain ⟨od,J,hl⟩:=I.look
 exact PySem.W.method_fn X J (PySem.W.plainGet_of hg).1 (PySem.W.plainGet_of hg).2 hf (beq_iff_eq.mp ht) (by show (PySem.W.lookIn name od).map (·.isSome)=some false;rw [hl,hv];rfl) h
theorem aRl{ns:List Str}{Q:Unit->Shared->Prop}(X:K.In s.heap)(I:ObjM s.heap x dx C mA)
  (hs:PySem.W.findIn K (.ref C) "__setattr__" = some (some (.builtin "object.__setattr__"))) (hp:PySem.W.plainOver K C=true) (ht:PySem.W.takerIn K C name=some none) (hh:PySem.W.hasDictIn K C=true)
  (hw:PySem.Within mA ns) (hsz:ns.length<=sizeLine)
  (h:∀ h',ObjM h' x dx C (fun y=>if y=name then some v else mA y)->Heap.SameBut dx s.heap h'->Q () { s with heap:=h',toks:=s.toks+2 }) :
  wpAny (model prog w) A (setAttr (.ref x) name v) Q E s:=by
 obtain ⟨od,J,hl⟩:=I.look
 refine PySem.W.set_plain X J hs (PySem.W.osa_open (s:={ s with toks:=s.toks+1 }) (r:=none) X J hp ht fun b=>?_)
 obtain ⟨cd,hc,hd'⟩:=PySem.W.any_some hh
 have hx:s.heap.get? x=some ⟨.ref C,some dx,.plain, #[]⟩:=I.obj
 refine wpAny_bind (wpAny_pure (wpAny_bind (wpAny_bind (wpAny_loadPart hx (wpAny_bind (PySem.W.Looks.here (s:={ s with toks:=s.toks+1 }) (PySem.W.looks_clsIn X hc) ?_))))))
 rw [hd']
 refine wpAny_pure (a:=some dx) (wpAny_bind (wpAny_pure (wpAny_bind ?_)))
 refine wpAny_nsSet1 (s:={ s with toks:=s.toks+1 }) I.ns fun h' hn2 hs2=>?_
 obtain ⟨oD,esD,epD,hoD,hdD,hcD⟩:=hn2.count (PySem.Within.cons name v hw)
 refine wpAny_bind (wpAny_lookBehind hoD (by rw [hdD];exact pastItsLine_dict (Nat.le_trans hcD (by rw [List.length_cons];omega))) ?_)
 exact wpAny_pure (h _ ⟨(hs2.2 _ (Ne.symm I.ne)).trans I.obj,hn2,I.ne⟩ hs2)
theorem aOc{R:Result->Shared->Prop}{vs:List Value}{kw:List (Str × Value)}(X:K.In s.heap)(hm:PySem.W.makesIn K C=true)
  (hi:PySem.W.findIn K (.ref C) "__init__" = some (some (.ref f))) (hf:PySem.W.typeIn K (.ref f)=some (.type "function"))
  (h:codeAny (model prog w) (A.under (.builtin "type.__call__" ⟨.ref C :: vs,kw⟩)) (.call (.ref f) ⟨.ref (s.heap.objs.size+1) :: vs,kw⟩) (PySem.W.InitBack (s.heap.objs.size+1) R)
   { s with heap:=(s.heap.push PySem.W.emptyDict).push (PySem.W.instObj C s.heap.objs.size) }) :
  codeAny (model prog w) A (.call (.ref C) ⟨vs,kw⟩) R s:=by
 obtain ⟨hh,g,d,t,os⟩:=s
 exact PySem.W.make_core (PySem.W.makes_of X hm) (PySem.W.looks_findIn X hi) (fun self=>PySem.W.bind_fn X self hf) (.inl rfl) h
end
def tM(f:Str)(v:V):List (Str × V)->List (Str × V)
 | []=>[(f,v)]
 | (g,x) :: r=>if g=f then (g,v) :: r else (g,x) :: tM f v r
theorem aAa(f g:Str)(v:V):∀ fs:List (Str × V),(tM f v fs).lookup g=if g=f then some v else fs.lookup g
 | []=>by
  show List.lookup g [(f,v)]=_
  by_cases h:g=f
  ·have hb:(g==f)=true:=beq_iff_eq.mpr h
   simp only [List.lookup,hb,if_pos h]
  ·have hb:(g==f)=false:=beq_eq_false_iff_ne.mpr h
   simp only [List.lookup,hb,if_neg h]
 | (k,x) :: r=>by
  have ih:=aAa f g v r
  rw [show tM f v ((k,x) :: r)=(if k=f then (k,v) :: r else (k,x) :: tM f v r) from rfl]
  by_cases hk:k=f
  ·rw [if_pos hk]
   by_cases h:g=k
   ·have hb:(g==k)=true:=beq_iff_eq.mpr h
    simp only [List.lookup,hb,if_pos (h.trans hk)]
   ·have hb:(g==k)=false:=beq_eq_false_iff_ne.mpr h
    simp only [List.lookup,hb,if_neg (fun e:g=f=>h (e.trans hk.symm))]
  ·rw [if_neg hk]
   by_cases h:g=k
   ·have hb:(g==k)=true:=beq_iff_eq.mpr h
    simp only [List.lookup,hb,if_neg (fun e:g=f=>hk (h.symm.trans e))]
   ·have hb:(g==k)=false:=beq_eq_false_iff_ne.mpr h
    simp only [List.lookup,hb]
    exact ih
theorem zM(f:Str)(v:V):∀ fs:List (Str × V),f∈(tM f v fs).map (·.1)/\∀ g,g∈fs.map (·.1)->g∈(tM f v fs).map (·.1)
 | []=>⟨by simp [tM],fun g h=>by simp at h⟩
 | (k,x) :: r=>by
  obtain ⟨i1,i2⟩:=zM f v r
  rw [show tM f v ((k,x) :: r)=(if k=f then (k,v) :: r else (k,x) :: tM f v r) from rfl]
  by_cases hk:k=f
  ·rw [if_pos hk]
   subst hk
   exact ⟨by simp,fun g h=>by simpa using h⟩
  ·rw [if_neg hk]
   refine ⟨?_,fun g h=>?_⟩
   ·rw [List.map_cons]
    exact List.mem_cons_of_mem _ i1
   ·rw [List.map_cons] at h ⊢
    rcases List.mem_cons.mp h with e | e
    ·exact List.mem_cons.mpr (.inl e)
    ·exact List.mem_cons_of_mem _ (i2 g e)
theorem aAb(f:Str)(v:V):∀ fs:List (Str × V),(tM f v fs).length<=fs.length+1
 | []=>by simp [tM]
 | (k,x) :: r=>by
  have ih:=aAb f v r
  rw [show tM f v ((k,x) :: r)=(if k=f then (k,v) :: r else (k,x) :: tM f v r) from rfl]
  by_cases hk:k=f
  ·rw [if_pos hk,List.length_cons,List.length_cons];omega
  ·rw [if_neg hk,List.length_cons,List.length_cons];omega
theorem rH.some_of{v:V}{o:Option Value}(r:rH (some v) o):∃ u,o=some u/\RelV v u:=by
 cases o with
 | none=>exact (show False from r).elim
 | some u=>exact ⟨u,rfl,r⟩
theorem rH.none_of{o:Option Value}(r:rH none o):o=none:=by
 cases o with
 | none=>rfl
 | some u=>exact (show False from r).elim
theorem aMm{v:V}{u:Value}(r:RelV v u):PySem.W.handedIn u=true:=by
 cases v with
 | non=>cases (show u=Value.none from r);rfl
 | bl b=>cases (show u=Value.bool b from r);rfl
 | int i=>obtain ⟨t,e⟩:=(show ∃ t,u=Value.int i t from r);cases e;rfl
 | str x=>obtain ⟨t,e⟩:=(show ∃ t,u=Value.str x t from r);cases e;rfl
 | byt b=>obtain ⟨t,e⟩:=(show ∃ t,u=Value.bytes b t from r);cases e;rfl
 | flt b=>obtain ⟨t,e⟩:=(show ∃ t,u=Value.float b t from r);cases e;rfl
 | ref a=>cases (show u=Value.ref a from r);rfl
 | ty n=>cases (show u=Value.type n from r);rfl
section
variable{P:Program}{w:World}{H H':Hp}{h h':Heap}{a C dx:Addr}{fs fs':List (Str × V)}
theorem aF6(hok:HOk P w H h)(e:H a=some (.ins C dx fs)):∃ mA,ObjM h a dx C mA/\(∀ f,rH (fs.lookup f) (mA f))/\PySem.Within mA (fs.map (·.1))/\fs.length<=1000/\H dx=some (.own a):=by
 obtain ⟨d,z,ne,ob,mA,n,r,q⟩:=(show jD P w H h a (.ins C dx fs) from hok a _ e)
 exact ⟨mA,⟨ob,n,ne⟩,r,q,z,d⟩
end
structure Cls(K:PySem.W.Frag)(C:Addr):Prop where
 pg:PySem.W.plainGet K C Str.empty=true
 hd:PySem.W.hasDictIn K C=true
 po:PySem.W.plainOver K C=true
 sa:PySem.W.findIn K (.ref C) "__setattr__" = some (some (.builtin "object.__setattr__"))
theorem Cls.get{K:PySem.W.Frag}{C:Addr}(c:Cls K C)(f:Str):PySem.W.plainGet K C f=true:=c.pg
def dM(K:PySem.W.Frag)(C:Addr)(f:Str):Prop:=PySem.W.findIn K (.ref C) f=some none
theorem dM.taker{K:PySem.W.Frag}{C:Addr}{f:Str}(n:dM K C f):PySem.W.takerIn K C f=some none:=by
 unfold PySem.W.takerIn
 rw [show PySem.W.findIn K (.ref C) f=some none from n]
 rfl
structure Meth(K:PySem.W.Frag)(C:Addr)(m:Str)(f:Addr):Prop where
 at_:PySem.W.findIn K (.ref C) m=some (some (.ref f))
 fn:PySem.W.isFn K (.ref f)=true
 kp:PySem.W.keepIn K (.ref f)=true
section
variable{X:Cx}{pins:List (Addr × Obj)}{σ:St}{H:Hp}{s:Shared}{a C dx:Addr}{fs:List (Str × V)}{f:Str}{v:V}{A:Around}{E:Value->Shared->Prop}
theorem aIw{b:Bool}{Q:Value->Shared->Prop}(I:Inv X pins σ H s)(e:H a=some (.ins C dx fs))(c:Cls X.K C)(n:dM X.K C f)(l:fs.lookup f=some v)
  (h:∀ u s',Inv X pins σ H s'->RelV v u->Q u s'):wpAny (model X.prog X.w) A (getAttr (.ref a) f b) Q E s:=by
 obtain ⟨mA,O,r,_,_,_⟩:=aF6 I.hok e
 obtain ⟨u,hu,ru⟩:=rH.some_of (v:=v) (o:=mA f) (by rw [<-l];exact r f)
 exact aRk I.kIn O (c.get f) c.hd n hu (aMm ru) (h u _ (I.tok _) ru)
theorem aBl{m:Str}{g:Addr}{pl:Sem Bool}{Q:Value × List Value->Shared->Prop}(I:Inv X pins σ H s)(e:H a=some (.ins C dx fs))(c:Cls X.K C)(k:Meth X.K C m g)(l:fs.lookup m=none)
  (h:Q (.ref g,[.ref a]) s):wpAny (model X.prog X.w) A (getMethod (.ref a) m pl) Q E s:=by
 obtain ⟨mA,O,r,_,_,_⟩:=aF6 I.hok e
 have hn:mA m=none:=rH.none_of (by rw [<-l];exact r m)
 exact aOb I.kIn O (c.get m) k.at_ k.fn hn h
theorem aIx{y:V}{u:Value}{Q:Unit->Shared->Prop}(I:Inv X pins σ H s)(e:H a=some (.ins C dx fs))(c:Cls X.K C)(n:dM X.K C f)(hl:fs.length < 1000)(ry:RelV y u)
  (h:∀ s',Inv X pins σ (upd H a (.ins C dx (tM f y fs))) s'->Q () s'):wpAny (model X.prog X.w) A (setAttr (.ref a) f u) Q E s:=by
 obtain ⟨mA,O,r,wi,_,ho⟩:=aF6 I.hok e
 have hz:(fs.map (·.1)).length<=sizeLine:=by rw [List.length_map,sizeLine_eq];omega
 refine aRl I.kIn O c.sa c.po n.taker c.hd wi hz fun h' O' sb=>h _ ?_
 have hd:∃ o,h'.get? dx=some o:=let ⟨o,_,_,e',_⟩:=O'.ns;⟨o,e'⟩
 refine I.write (x:=a) (e:=dx) (by rw [e];exact True.intro) (.inr ho) (fun b q hb z=>(sb.2 b hb).trans z) hd ?_
 refine ⟨by rw [bW O.ne];exact ho,?_,O.ne,O'.obj,_,O'.ns,fun g=>?_,fun g hg=>?_⟩
 ·have:=aAb f y fs;omega
 ·show rH ((tM f y fs).lookup g) (if g=f then some u else mA g)
  rw [aAa]
  by_cases q:g=f
  ·rw [if_pos q,if_pos q];exact ry
  ·rw [if_neg q,if_neg q];exact r g
 ·by_cases q:g=f
  ·rw [q];exact (zM f y fs).1
  ·refine (zM f y fs).2 g (wi g fun z=>hg ?_)
   show (if g=f then some u else mA g)=none
   rw [if_neg q];exact z
theorem Inv.made(I:Inv X pins σ H s):Inv X pins σ (upd (upd H s.heap.objs.size (.own (s.heap.objs.size+1))) (s.heap.objs.size+1) (.ins C s.heap.objs.size []))
  { s with heap:=(s.heap.push PySem.W.emptyDict).push (PySem.W.instObj C s.heap.objs.size) }:=by
 have e1:(s.heap.push PySem.W.emptyDict).get? s.heap.objs.size=some PySem.W.emptyDict:=Heap.get?_push_size s.heap rfl
 have e2:((s.heap.push PySem.W.emptyDict).push (PySem.W.instObj C s.heap.objs.size)).get? (s.heap.objs.size+1)=some (PySem.W.instObj C s.heap.objs.size):=by
  have:=Heap.get?_push_size (s.heap.push PySem.W.emptyDict) (o:=PySem.W.instObj C s.heap.objs.size) rfl
  rwa [Heap.size_push] at this
 have e3:(s.heap.push PySem.W.emptyDict).Ns s.heap.objs.size (fun _=>none):=⟨PySem.W.emptyDict, #[],_,e1,rfl,(fun e he=>absurd he (by simp)),fun _=>rfl⟩
 have I1:=I.laid (a:=s.heap.objs.size) (o := .own (s.heap.objs.size+1)) (h':=s.heap.push PySem.W.emptyDict) (t':=s.toks) (fun b u q=>Heap.get?_push_of_some _ q) (Nat.le_refl _) ⟨_,e1⟩
 refine I1.laid (a:=s.heap.objs.size+1) (o := .ins C s.heap.objs.size []) (t':=s.toks) (fun b u q=>Heap.get?_push_of_some _ q) (Nat.le_of_eq (Heap.size_push _ _)) ?_
 have ne:s.heap.objs.size≠s.heap.objs.size+1:=Nat.ne_of_lt (Nat.lt_succ_self _)
 refine ⟨by rw [bW ne,cH],Nat.zero_le _,ne,e2,fun _=>none,(Heap.Ns1.of_empty e3).at fun o q=>Heap.get?_push_of_some _ q,fun _=>True.intro,fun y hy=>absurd rfl hy⟩
theorem aRm{prog:Program}{w:World}{env:Env}{e:Expr}{f:Str}{pos:Pos}{s:Shared}{Q:Value->Shared->Prop}(hb:attributeBase e f env (eval e env)=eval e env)
  (h:wpAny (model prog w) A (eval e env) (fun o s₁=>wpAny (model prog w) A (getAttr o f true) Q E s₁) E s):wpAny (model prog w) A (eval (.Attribute e f pos) env) Q E s :=
 Attribute_any_ h (by rw [arm_eval_Attribute,hb])
end
def bD2(K:PySem.W.Frag)(ta:TE)(f:Str):TE:=fun σ H Q=>ta σ H fun x H1=>∃ a C dx fs v,x = .ref a/\H1 a=some (.ins C dx fs)/\Cls K C/\dM K C f/\fs.lookup f=some v/\Q v H1
def bD3(K:PySem.W.Frag)(ta tv:TE)(f:Str):TS:=fun D σ H=>tv σ H fun y H1=>ta σ H1 fun x H2=>∃ a C dx fs,x = .ref a/\H2 a=some (.ins C dx fs)/\Cls K C/\dM K C f/\fs.length < 1000 /\
 D.nx σ (upd H2 a (.ins C dx (tM f y fs)))
section
variable{X:Cx}{o e value:Expr}{f:Str}{pos pos' tpos:Pos}{ta tv:TE}
theorem aVu(he:PE X e ta)(hb:attributeBase e f X.env (eval e X.env)=eval e X.env):PE X (.Attribute e f pos) (bD2 X.K ta f):=by
 intro pins s σ H Q I h
 refine aRm hb (thn (he pins s σ H _ I h) fun u s1 ⟨x,H1,I1,rx,a,C,dx,fs,v,ex,ea,c,n,l,q⟩=>?_)
 subst ex
 obtain rfl:u=Value.ref a:=rx
 exact aIw I1 ea c n l fun u' s2 I2 ru=>⟨v,H1,I2,ru,q⟩
theorem aVv(ha:PE X o ta)(hv:PE X value tv)(hs:swapsWith value (some (.Attribute o f pos')) pos.line X.env=pure false):PS X (.Assign [.Attribute o f pos'] value pos) (bD3 X.K ta tv f):=by
 intro pins s σ H D I h
 refine plainObj_wpAny_Assign_Attribute (thn (hv pins s σ H _ I h) fun u s1 ⟨y,H1,I1,ry,q⟩=>thn (ha pins s1 σ H1 _ I1 q) fun ov s2 ⟨x,H2,I2,rx,a,C,dx,fs,ex,ea,c,n,l,q2⟩=>?_) hs
 subst ex
 obtain rfl:ov=Value.ref a:=rx
 exact aIx I2 ea c n l ry fun s3 I3=>⟨σ,_,I3,q2⟩
end
section
variable{X:Cx}{pins:List (Addr × Obj)}{σ:St}{H:Hp}{s:Shared}{A:Around}{E:Value->Shared->Prop}{Q:Value->Shared->Prop}{c:Value}{b:Bool}
inductive TyOf (K:PySem.W.Frag) (H:Hp):V->Value->Prop where
 | non:TyOf K H .non (.type "NoneType")
 | bl (x:Bool):TyOf K H (.bl x) (.type "bool")
 | int (i:Int):TyOf K H (.int i) (.type "int")
 | str (x:Str):TyOf K H (.str x) (.type "str")
 | flt (x:UInt64):TyOf K H (.flt x) (.type "float")
 | lst {a:Addr} {xs:List V} (e:H a=some (.lst xs)):TyOf K H (.ref a) (.type "list")
 | frz {a:Addr} {o:Obj} {xs:List V} (e:H a=some (.frz o (.lst xs))):TyOf K H (.ref a) (.type "list")
 | tup {a:Addr} {xs:List V} (e:H a=some (.tup xs)):TyOf K H (.ref a) (.type "tuple")
 | dK {a:Addr} {kvs:List (Key × V)} (e:H a=some (.dK kvs)):TyOf K H (.ref a) (.type "dict")
 | dT {a:Addr} {kvs:List (List Key × V)} (e:H a=some (.dT kvs)):TyOf K H (.ref a) (.type "dict")
 | ins {a C dx:Addr} {fs:List (Str × V)} (e:H a=some (.ins C dx fs)) (cl:Cls K C) (ha:PySem.W.findIn K (.ref C) "__class__" = some (some (.builtin "object.__class__")))
   (hn:PySem.W.specialIn K (.builtin "object.__class__") "__get__" = some (some (.builtin "getset_descriptor.__get__"))) (htk:PySem.W.takesIn K (.builtin "object.__class__")=some true)
   (hm:PySem.W.mroIn K C (.type "object")=some true):TyOf K H (.ref a) (.ref C)
end
end L2
namespace L2
open PySem PySem.Spec PyProof.Rows
structure Room(k:Nat)(A:Around):Prop where
 hd:A.handled=none
 dp:A.depth+3 * k+5 < recursionLimit
 un:A.units+16 * k+200 < cLine
theorem Room.mono{j k:Nat}{A:Around}(r:Room k A)(h:j<=k):Room j A:=⟨r.hd,by have:=r.dp;omega,by have:=r.un;omega⟩
theorem Room.deeper{k:Nat}{A:Around}(r:Room (k+1) A)(env:Env):Room k (A.deeper env) :=
 ⟨r.hd,by have:=r.dp;show A.depth+1+3 * k+5 < _;omega,by have:=r.un;show A.units+3+16 * k+200 < _;omega⟩
theorem aIy{A:Around}{C:Addr}{us:List Value}{kw:List (Str × Value)}:(A.under (.builtin "type.__call__" ⟨.ref C :: us,kw⟩)).depth=A.depth+1:=by
 first | rfl | simp [Around.under,Code.weight,Code.isCreation,Code.isGuard,Code.isCaller,Code.frames,Code.isFrame,guardIds]
theorem aIz{A:Around}{C:Addr}{us:List Value}{kw:List (Str × Value)}:(A.under (.builtin "type.__call__" ⟨.ref C :: us,kw⟩)).units=A.units+1:=by
 first | rfl | simp [Around.under,Code.cUnits,Code.frames,Code.isFrame]
theorem Room.make{k:Nat}{A:Around}(r:Room (k+1) A)(C:Addr)(us:List Value)(kw:List (Str × Value)):Room k (A.under (.builtin "type.__call__" ⟨.ref C :: us,kw⟩)) :=
 ⟨r.hd,by have:=r.dp;rw [aIy];omega,by have:=r.un;rw [aIz];omega⟩
theorem Room.depth{k:Nat}{A:Around}(r:Room k A):A.depth < recursionLimit:=by have:=r.dp;omega
theorem Room.units{k:Nat}{A:Around}(r:Room k A):A.units+64 < cLine:=by have:=r.un;omega
def bD4:TA:=fun _ H Q=>Q [] H
def aZe(ta:TE)(tr:TA):TA:=fun σ H Q=>ta σ H fun x H1=>tr σ H1 fun xs H2=>Q (x :: xs) H2
section
variable{X:Cx}{e:Expr}{es:List Expr}{te:TE}{t:TA}{pos:Pos}
theorem kY:PA X [] bD4:=fun _ _ _ _ H Q I h=>Calls.spliced_nil ⟨[],H,I,.nil,h⟩
theorem fG(ha:PE X e te)(hr:PA X es t)(hs:starEach (e :: es) X.env=(false,eval e X.env) :: starEach es X.env:=by rfl):PA X (e :: es) (aZe te t):=by
 intro pos pins s σ H Q I h
 rw [hs]
 show wpAny _ _ (spliced ((false,eval e X.env) :: backTo pos (starEach es X.env))) _ _ s
 refine Calls.spliced_cons (thn (ha pins s σ H _ I h) fun u s1 ⟨x,H1,I1,r1,q1⟩=>?_)
 exact thn (hr pos pins s1 σ H1 _ I1 q1) fun us s2 ⟨xs,H2,I2,r2,q2⟩=>⟨x :: xs,H2,I2,.cons r1 r2,q2⟩
def bD5(t:TA):TE:=fun σ H Q=>t σ H fun xs H1=>xs.length<=sizeLine/\∀ p,H1 p=none->Q (.ref p) (upd H1 p (.tup xs))
def bD6(t:TA):TE:=fun σ H Q=>t σ H fun xs H1=>xs.length<=sizeLine/\∀ p,H1 p=none->Q (.ref p) (upd H1 p (.lst xs))
theorem aVw{x1}(h:PA X es t):PE X (.Tuple es x1 pos) (bD5 t):=by
 intro pins s σ H Q I hq
 refine wpAny_Tuple_spliced (thn (h pos pins s σ H _ I hq) fun us s1 ⟨xs,H1,I1,r,z,q⟩=>⟨by rw [<-r.length];exact z,?_⟩)
 have hf:H1 s1.heap.objs.size=none:=I1.hok.fresh (Nat.le_refl _)
 refine ⟨.ref s1.heap.objs.size,upd H1 s1.heap.objs.size (.tup xs),I1.laid (t':=s1.toks) (fun b u e=>Heap.get?_push_of_some _ e) (Nat.le_refl _) ?_,rfl,q _ hf⟩
 exact ⟨z,us,r,⟨_,Heap.get?_push_size _ rfl,rfl,_,rfl⟩⟩
theorem aOd(h:PA X es t):PE X (.List es pos) (bD6 t):=by
 intro pins s σ H Q I hq
 refine wpAny_List_spliced (thn (h pos pins s σ H _ I hq) fun us s1 ⟨xs,H1,I1,r,z,q⟩=>⟨by rw [<-r.length];exact z,?_⟩)
 have hf:H1 s1.heap.objs.size=none:=I1.hok.fresh (Nat.le_refl _)
 refine ⟨.ref s1.heap.objs.size,upd H1 s1.heap.objs.size (.lst xs),I1.laid (t':=s1.toks) (fun b u e=>Heap.get?_push_of_some _ e) (Nat.le_refl _) ?_,rfl,q _ hf⟩
 exact ⟨z,us,0,r,Heap.get?_push_size _ rfl⟩
end
abbrev Sp:=List V->Hp->VK->XK->Prop
abbrev CXT:=List Env->Hp->Shared->XK->Value->Shared->Prop
structure Env0(P:Program)(w:World)(K:PySem.W.Frag)(mg:Str->Option Value)(base:Heap)(A:Around)(outer:List Env)(s:Shared)(H:Hp):Prop where
 frames:A.frames=some outer
 mod:Mod K mg base
 bs:∀ b o,base.get? b=some o->s.heap.get? b=some o/\H b=none
 bsz:base.objs.size<=s.heap.objs.size
 funs:s.heap.FunFrames base outer
 frf:∀ b∈frs outer,H b=none
 hok:HOk P w H s.heap
 bare:AllBare s.gens
def CE(outer:List Env)(P:Program)(w:World)(H:Hp)(s:Shared)(Q:VK)(u:Value)(s':Shared):Prop :=
 ∃ v H',s'.os=s.os/\AllBare s'.gens/\Un (frs outer) [] H H' s.heap s'.heap/\HOk P w H' s'.heap/\RelV v u/\Q v H'
def CR(CX:CXT)(outer:List Env)(P:Program)(w:World)(H:Hp)(s:Shared)(Q:VK)(E:XK)(r:Result)(s':Shared):Prop :=
 match r with
 | .ok (.ret u)=>CE outer P w H s Q u s'
 | .ok _=>False
 | .error e=>CX outer H s E e s'
structure FnOk(P:Program)(w:World)(K:PySem.W.Frag)(mg:Str->Option Value)(base:Heap)(CX:CXT)(k:Nat)(f:Addr)(fd:FuncData)(ps:List Str)(sp:Sp):Prop where
 len:∀ vs H Q E,sp vs H Q E->vs.length=ps.length
 run:∀ (A:Around) (outer:List Env) (s:Shared) (H:Hp) (args:Args) (us:List Value) (vs:List V) (Q:VK) (E:XK),Room k A->Env0 P w K mg base A outer s H->BindsTo s fd args (ps.zip us)->Vals vs us->sp vs H Q E ->
  codeAny (model P w) A (.call (.ref f) args) (CR CX outer P w H s Q E) s
theorem Env0.make{P:Program}{w:World}{K:PySem.W.Frag}{mg:Str->Option Value}{base:Heap}{A:Around}{outer:List Env}{s:Shared}{H:Hp}(e:Env0 P w K mg base A outer s H)(C:Addr)(us:List Value)(kw:List (Str × Value)) :
  Env0 P w K mg base (A.under (.builtin "type.__call__" ⟨.ref C :: us,kw⟩)) outer s H:=⟨by first | exact e.frames | (simpa [Around.under,Code.envs,Code.isFrame,pushEnvs] using e.frames),e.mod,e.bs,e.bsz,e.funs,e.frf,e.hok,e.bare⟩
section
variable{X:Cx}{pins:List (Addr × Obj)}{σ:St}{H:Hp}{s s':Shared}
theorem Inv.env0(I:Inv X pins σ H s):Env0 X.prog X.w X.K X.mg X.base X.A X.stack s H :=
 ⟨I.ok.frames,I.ok.mod,I.bs,Nat.le_trans I.ok.bsz I.sz,I.stack,I.stkFree,I.hok,I.bare⟩
theorem Inv.after{Q:VK}{u:Value}(I:Inv X pins σ H s)(h:CE X.stack X.prog X.w H s Q u s'):EP X pins σ Q u s':=by
 obtain ⟨v,H',os,bare,un,hok,r,q⟩:=h
 obtain ⟨hh,g,d,t,os'⟩:=s'
 obtain rfl:os'=s.os:=os
 exact ⟨v,H',I.call (h':=hh) (g':=g) (d':=d) (t':=t) (ch:=[]) un hok bare (fun b z=>absurd z (by simp)),r,q⟩
end
def aZf(sp:Sp)(dvs:List V)(E:XK)(t:TA):TE:=fun σ H Q=>t σ H fun vs H1=>sp (vs++dvs) H1 Q E
def aZg(C:Addr)(m:Str)(sp:Sp)(dvs:List V)(E:XK)(ta:TE)(t:TA):TE:=fun σ H Q=>ta σ H fun x H1=>∃ a dx fs,x = .ref a/\H1 a=some (.ins C dx fs)/\fs.lookup m=none /\
 t σ H1 fun vs H2=>sp (x :: (vs++dvs)) H2 Q E
def aZh(C:Addr)(sp:Sp)(dvs:List V)(E:XK)(t:TA):TE:=fun σ H Q=>t σ H fun vs H1=>∀ x dx,H1 x=none->H1 dx=none->dx≠x ->
 sp (.ref x :: (vs++dvs)) (upd (upd H1 dx (.own x)) x (.ins C dx [])) (fun v H2=>v = .non/\Q (.ref x) H2) E
def Binds(K:PySem.W.Frag)(fd:FuncData)(ps:List Str)(ds:List Value):Prop :=
 ∀ (s:Shared) (us:List Value),K.In s.heap->(us++ds).length=ps.length->BindsTo s fd ⟨us,[]⟩ (ps.zip (us++ds))
theorem Binds.all{K:PySem.W.Frag}{fd:FuncData}{ps:List Str}(h:∀ us:List Value,us.length=ps.length->bindArgs fd ⟨us,[]⟩=pure (ps.zip us)):Binds K fd ps []:=fun s us _ hl=>by
 rw [List.append_nil] at hl ⊢
 exact .of_eq (h us hl)
def zN(CX:CXT)(X:Cx)(E:XK):Prop:=∀ (pins:List (Addr × Obj)) (σ:St) (H:Hp) (s:Shared) (e:Value) (s':Shared),Inv X pins σ H s->CX X.stack H s E e s'->X.xe e s'
section
variable{X:Cx}{CX:CXT}{k:Nat}{f C:Addr}{fd:FuncData}{ps:List Str}{sp:Sp}{dvs:List V}{ds:List Value}{E:XK}{x m:Str}{p pos apos:Pos}{e o:Expr}{es:List Expr}{ta:TE}{t:TA}
theorem aOe{pins:List (Addr × Obj)}{σ:St}{H:Hp}{s:Shared}{Q:VK}{us:List Value}{vs:List V}(F:FnOk X.prog X.w X.K X.mg X.base CX k f fd ps sp)(hr:Room k X.A)(hb:Binds X.K fd ps ds)(hd:Vals dvs ds)(hx:zN CX X E)
  (I:Inv X pins σ H s) (r:Vals vs us) (h:sp (vs++dvs) H Q E):wpAny (model X.prog X.w) X.A (call (.ref f) us) (EP X pins σ Q) X.xe s:=by
 have r2:Vals (vs++dvs) (us++ds):=r.append hd
 have hl:(us++ds).length=ps.length:=by rw [<-r2.length];exact F.len _ _ _ _ h
 refine wpAny_call (codeAny_mono (F.run X.A X.stack s H ⟨us,[]⟩ (us++ds) (vs++dvs) Q E hr I.env0 (hb s us I.kIn hl) r2 h) fun r s' hq=>?_)
 cases r with
 | error e=>exact hx pins σ H s e s' I hq
 | ok fl =>
  cases fl with
  | ret u=>exact I.after hq
  | next=>exact False.elim hq
  | brk=>exact False.elim hq
  | cont=>exact False.elim hq
theorem aRn(F:FnOk X.prog X.w X.K X.mg X.base CX k f fd ps sp)(hr:Room k X.A)(hg:Gl X x)(hm:X.mg x=some (.ref f))(hk:PySem.W.keepIn X.K (.ref f)=true)(hb:Binds X.K fd ps ds)(hd:Vals dvs ds)(hx:zN CX X E)
  (ha:PA X (e :: es) t) (hdb:(x==("__debug__" : Str))=false:=by decide) (he:starEach (e :: es) X.env=(false,eval e X.env) :: starEach es X.env:=by rfl) (hpl:(backTo pos (starEach es X.env)).any (·.1)=false:=by rfl) :
  PE X (.Call (.Name x p) (e :: es) [] pos) (aZf sp dvs E t):=by
 intro pins s σ H Q I h
 refine wpAny_Call_Name_kw (xR I hg hm ?_ hdb)
 refine PySem.W.callWith_K (h₀:=X.base) I.ok.mod.kin hk (thn (ha pos pins s σ H _ I h) fun us s1 ⟨vs,H1,I1,r,q⟩=>⟨I1.kIn,?_⟩) he hpl
 exact aOe F hr hb hd hx I1 r q
theorem aKk{pl:Sem Bool}(he:PE X o ta)(c:Cls X.K C)(hm:Meth X.K C m f)(F:FnOk X.prog X.w X.K X.mg X.base CX k f fd ps sp)(hr:Room k X.A)(hb:Binds X.K fd ps ds)(hd:Vals dvs ds)(hx:zN CX X E)(ha:PA X (e :: es) t)
  (hst:starEach (e :: es) X.env=(false,eval e X.env) :: starEach es X.env:=by rfl) (hpl:(backTo pos (starEach es X.env)).any (·.1)=false:=by rfl)
  (ht:eval (.Call (.Attribute o m apos) (e :: es) [] pos) X.env=(do
   let ov <- eval o X.env
   standAt apos.atName
   let (f,first) <- holding [ov] (getMethod ov m pl)
   callWith pos f first (backTo pos (starEach (e :: es) X.env)) (backToKw pos (keywordEach [] X.env))):=by rfl) :
  PE X (.Call (.Attribute o m apos) (e :: es) [] pos) (aZg C m sp dvs E ta t):=by
 intro pins s σ H Q I h
 refine PySem.W.methodCall_KW (pl:=pl) (thn (he pins s σ H _ I h) fun u s1 ⟨x,H1,I1,rx,a,dx,fs,ex,ea,l,q⟩=>?_) ht
 subst ex
 obtain rfl:u=Value.ref a:=rx
 refine aBl I1 ea c hm l ?_
 refine PySem.W.callWith_K (first:=[.ref a]) (h₀:=X.base) I.ok.mod.kin hm.kp (thn (ha pos pins s1 σ H1 _ I1 q) fun us s2 ⟨vs,H2,I2,r,q2⟩=>⟨I2.kIn,?_⟩) hst hpl
 exact aOe (us := .ref a :: us) (vs := .ref a :: vs) F hr hb hd hx I2 (.cons rfl r) q2
structure Mk(K:PySem.W.Frag)(C f:Addr):Prop where
 makes:PySem.W.makesIn K C=true
 init:PySem.W.findIn K (.ref C) "__init__" = some (some (.ref f))
 fn:PySem.W.isFn K (.ref f)=true
 kp:PySem.W.keepIn K (.ref C)=true
theorem aOf{pins:List (Addr × Obj)}{σ:St}{H:Hp}{s:Shared}{Q:VK}{us:List Value}{vs:List V}(M:Mk X.K C f)(F:FnOk X.prog X.w X.K X.mg X.base CX k f fd ps sp)(hr:Room (k+1) X.A)(hb:Binds X.K fd ps ds)(hd:Vals dvs ds)
  (hx:zN CX X E) (I:Inv X pins σ H s) (r:Vals vs us)
  (h:∀ x dx,H x=none->H dx=none->dx≠x->sp (.ref x :: (vs++dvs)) (upd (upd H dx (.own x)) x (.ins C dx [])) (fun v H2=>v = .non/\Q (.ref x) H2) E) :
  wpAny (model X.prog X.w) X.A (call (.ref C) us) (EP X pins σ Q) X.xe s:=by
 have hq:=h (s.heap.objs.size+1) s.heap.objs.size (I.hok.fresh (Nat.le_succ _)) (I.hok.fresh (Nat.le_refl _)) (Nat.ne_of_lt (Nat.lt_succ_self _))
 have I2:=Inv.made (C:=C) I
 have r2:Vals (V.ref (s.heap.objs.size+1) :: (vs++dvs)) (Value.ref (s.heap.objs.size+1) :: (us++ds)) := .cons rfl (r.append hd)
 have hl:(Value.ref (s.heap.objs.size+1) :: us++ds).length=ps.length:=by
  have e:=r2.length
  rw [F.len _ _ _ _ hq] at e
  exact e.symm
 refine wpAny_call (aOc (f:=f) I.kIn M.makes M.init (beq_iff_eq.mp M.fn) (codeAny_mono (F.run _ X.stack _ _ ⟨Value.ref (s.heap.objs.size+1) :: us,[]⟩ (Value.ref (s.heap.objs.size+1) :: (us++ds)) _ _ E (hr.make C us [])
  (I2.env0.make C us []) (hb _ (Value.ref (s.heap.objs.size+1) :: us) I2.kIn hl) r2 hq) fun r s' hq' => ?_))
 cases r with
 | error e=>exact hx pins σ _ _ e s' I2 hq'
 | ok fl =>
  cases fl with
  | ret u =>
   obtain ⟨v,H',I3,rv,ev,q3⟩:=I2.after hq'
   subst ev
   exact ⟨rv,⟨V.ref (s.heap.objs.size+1),H',I3,rfl,q3⟩⟩
  | next=>exact False.elim hq'
  | brk=>exact False.elim hq'
  | cont=>exact False.elim hq'
theorem aRo(M:Mk X.K C f)(F:FnOk X.prog X.w X.K X.mg X.base CX k f fd ps sp)(hr:Room (k+1) X.A)(hg:Gl X x)(hm:X.mg x=some (.ref C))(hb:Binds X.K fd ps ds)(hd:Vals dvs ds)(hx:zN CX X E)
  (ha:PA X (e :: es) t) (hdb:(x==("__debug__" : Str))=false:=by decide) (he:starEach (e :: es) X.env=(false,eval e X.env) :: starEach es X.env:=by rfl) (hpl:(backTo pos (starEach es X.env)).any (·.1)=false:=by rfl) :
  PE X (.Call (.Name x p) (e :: es) [] pos) (aZh C sp dvs E t):=by
 intro pins s σ H Q I h
 refine wpAny_Call_Name_kw (xR I hg hm ?_ hdb)
 refine PySem.W.callWith_K (h₀:=X.base) I.ok.mod.kin M.kp (thn (ha pos pins s σ H _ I h) fun us s1 ⟨vs,H1,I1,r,q⟩=>⟨I1.kIn,?_⟩) he hpl
 exact aOf M F hr hb hd hx I1 r q
end
section
variable{X:Cx}{CX:CXT}{k:Nat}{f C:Addr}{fd:FuncData}{ps ks:List Str}{sp:Sp}{E:XK}{x m:Str}{p pos apos kpos:Pos}{e o:Expr}{es:List Expr}{kws:List Keyword}{te ta:TE}{t tk:TA}{nm:Option Str}
variable{g:List Value->List Value->List Value}{gV:List V->List V->List V}
end
structure FnScope(N P:List Str)(sc:Scope):Prop where
 kind:sc.kind = .function
 co:sc.isCoroutine=false
 gen:sc.isGenerator=false
 nd:N.Nodup
 pre:N.take P.length=P
 par:∀ x∈P,sc.names.lookup x=some .local\/sc.names.lookup x=some .cell
 nofree:∀ y∈sc.names,y.2 ≠ .free
theorem aDr{kindOf:Str->Option NameKind}{x:Str}:∀ {binds:List (Str × Value)} {m:Str->Option Value},(∀ v,(x,v) ∉ binds)->bindL kindOf binds m x=m x
 | [],_,_=>rfl
 | (n,v) :: r,m,h=>by
  unfold bindL
  rw [aDr fun w hw=>h w (List.mem_cons_of_mem _ hw)]
  split
  ·have:x≠n:=by rintro rfl;exact h v List.mem_cons_self
   simp [this]
  ·rfl
theorem aDs{kindOf:Str->Option NameKind}{x:Str}:∀ {binds:List (Str × Value)} {m:Str->Option Value},(∀ v,(x,v) ∉ binds)->bindC kindOf binds m x=m x
 | [],_,_=>rfl
 | (n,v) :: r,m,h=>by
  unfold bindC
  rw [aDs fun w hw=>h w (List.mem_cons_of_mem _ hw)]
  split
  ·rfl
  ·have:x≠n:=by rintro rfl;exact h v List.mem_cons_self
   simp [this]
theorem aDt{kindOf:Str->Option NameKind}{x:Str}{v:Value}:∀ {P:List Str} {vs:List Value} {i:Nat} {m:Str->Option Value},P.Nodup->P[i]?=some x->vs[i]?=some v->kindOf x=some .local ->
  bindL kindOf (P.zip vs) m x=some v
 | [],_,_,_,_,h,_,_=>by simp at h
 | _ :: _,[],_,_,_,_,h,_=>by simp at h
 | p :: P,w :: vs,0,m,nd,h1,h2,hk=>by
  simp at h1 h2;subst h1;subst h2
  show bindL kindOf ((p,w) :: P.zip vs) m p=_
  unfold bindL
  rw [aDr fun v hv=>(List.nodup_cons.mp nd).1 (List.of_mem_zip hv).1,if_pos hk]
  simp
 | p :: P,w :: vs,i+1,m,nd,h1,h2,hk=>by
  show bindL kindOf ((p,w) :: P.zip vs) m x=_
  unfold bindL
  exact aDt (i:=i) (List.nodup_cons.mp nd).2 (by simpa using h1) (by simpa using h2) hk
theorem aDu{kindOf:Str->Option NameKind}{x:Str}{v:Value}:∀ {P:List Str} {vs:List Value} {i:Nat} {m:Str->Option Value},P.Nodup->P[i]?=some x->vs[i]?=some v->kindOf x≠some .local ->
  bindC kindOf (P.zip vs) m x=some v
 | [],_,_,_,_,h,_,_=>by simp at h
 | _ :: _,[],_,_,_,_,h,_=>by simp at h
 | p :: P,w :: vs,0,m,nd,h1,h2,hk=>by
  simp at h1 h2;subst h1;subst h2
  show bindC kindOf ((p,w) :: P.zip vs) m p=_
  unfold bindC
  rw [aDs fun v hv=>(List.nodup_cons.mp nd).1 (List.of_mem_zip hv).1,if_neg hk]
  simp
 | p :: P,w :: vs,i+1,m,nd,h1,h2,hk=>by
  show bindC kindOf ((p,w) :: P.zip vs) m x=_
  unfold bindC
  exact aDu (i:=i) (List.nodup_cons.mp nd).2 (by simpa using h1) (by simpa using h2) hk
def start(N:List Str)(vs:List V):St:=vs.map some++List.replicate (N.length - vs.length) none
def zO(CX:CXT)(P:Program)(w:World)(K:PySem.W.Frag)(mg:Str->Option Value)(base:Heap)(N:List Str)(qual:Str)(scope:Scope)(f:Addr)(cd:Value)(A:Around)(outer:List Env)(s:Shared)(H:Hp)(E:XK):Cx where
 prog:=P
 w:=w
 K:=K
 mg:=mg
 base:=base
 A:=A.deeper (envOfC qual scope s.heap.objs.size f cd)
 N:=N
 s₀:=s
 H₀:=H
 env:=envOfC qual scope s.heap.objs.size f cd
 outer:=outer
 stack:=envOfC qual scope s.heap.objs.size f cd :: outer
 ex:=[]
 calm:=true
 fn:=fun _=>true
 pn:=[]
 xe:=fun e s'=>wpAny (model P w) (A.deeper (envOfC qual scope s.heap.objs.size f cd)) (leaving (envOfC qual scope s.heap.objs.size f cd) e) (fun _ s''=>CX outer H s E e s'') (fun e' s''=>CX outer H s E e' s'') s'
theorem aGo{sc:Scope}{n:Nat}{x:Str}(h:sc.names.lookup x=some .cell):∃ c,(cellsFrom n sc.names []).lookup x=some c:=by
 have q:=PySem.W.cellsFrom_some sc.names n [] (.inl h)
 exact Option.isSome_iff_exists.mp q
theorem aMn{CX:CXT}{P:Program}{w:World}{K:PySem.W.Frag}{mg:Str->Option Value}{base:Heap}{N ps:List Str}{qual:Str}{scope:Scope}{f:Addr}{cd:Value}{A:Around}{outer:List Env}{s s1:Shared}{H:Hp}{E:XK}{us:List Value}{vs:List V}
  (S:FnScope N ps scope) (hd:A.handled=none) (e0:Env0 P w K mg base A outer s H) (hl:vs.length=ps.length) (r:Vals vs us)
  (x:InCallC s s.heap.objs.size (bindL (envOfC qual scope s.heap.objs.size f cd).kindOf (ps.zip us) fun _=>none) (cellsFrom (s.heap.objs.size+1) scope.names []) (bindC (envOfC qual scope s.heap.objs.size f cd).kindOf (ps.zip us) fun _=>none) s1) :
  Inv (zO CX P w K mg base N qual scope f cd A outer s H E) [] (start N vs) H s1:=by
 have hpl:ps.length<=N.length:=by have:=congrArg List.length S.pre;rw [List.length_take] at this;omega
 obtain ⟨h1,tk,rfl,hk⟩:=x.done
 have noA:∀ b:Addr,b ∉ (zO CX P w K mg base N qual scope f cd A outer s H E).ex:=fun b z=>absurd (show b∈([]:List Addr) from z) (by simp)
 refine ⟨⟨e0.mod,S.kind,rfl,rfl,Nat.le_refl _,fun y z c h1 h2=>?_,fun y hy=>?_,fun y c _ h=>?_,fun _=>hd,Around.frames_deeper e0.frames,.inr ⟨rfl,rfl⟩,fun b z=>absurd z (noA b),e0.bs,e0.bsz,fun b _ _=>noA b,fun b z=>absurd z (noA b),e0.funs,e0.frf⟩,
  rfl,e0.bare,Un.kept hk,⟨_,x.toInCall.ns,fun i y v h1 h2 h3=>?_⟩,fun y c h=>⟨_,x.cell y c h⟩,e0.hok.fresh (Nat.le_refl _),fun y c h=>?_,fun p hp=>absurd (show p∈([]:List (Addr × Obj)) from hp) (by simp),e0.hok.kept hk,?_⟩
 ·exact name_of_addr x.apart (PySem.mem_of_lookup h1) (PySem.mem_of_lookup h2)
 ·have hy:scope.names.lookup y=some .cell\/scope.names.lookup y=some .free:=hy
  rcases hy with hy | hy
  ·exact aGo hy
  ·exact absurd rfl (S.nofree _ (PySem.mem_of_lookup hy))
 ·exact Nat.le_of_lt (x.above y c (PySem.mem_of_lookup h))
 ·have hi:i < vs.length:=by
   unfold start at h2
   by_cases hi:i < vs.length
   ·exact hi
   ·rw [List.getElem?_append_right (by simpa using hi)] at h2
    rw [List.getElem?_replicate] at h2
    split at h2<;>cases h2
  have ha:vs[i]?=some v:=by
   unfold start at h2
   rw [List.getElem?_append_left (by simpa using hi),List.getElem?_map] at h2
   cases e:vs[i]? with
   | none=>rw [e] at h2;cases h2
   | some a=>rw [e] at h2;cases h2;rfl
  obtain ⟨u,hu,rv⟩:=r.get ha
  have hp:ps[i]?=some y:=by
   rw [<-S.pre,List.getElem?_take_of_lt (by omega)];exact h1
  have ndP:ps.Nodup:=by rw [<-S.pre];exact S.nd.sublist (List.take_sublist _ _)
  refine ⟨u,rv,?_⟩
  rcases S.par y (List.mem_of_getElem? hp) with k | k
  ·exact .inl ⟨k,aDt ndP hp hu k⟩
  ·obtain ⟨c,e⟩:=aGo (n:=s.heap.objs.size+1) k
   refine .inr ⟨.inl k,c,e,?_⟩
   have q:=x.cell y c e
   rw [aDu ndP hp hu (by show scope.names.lookup y≠_;rw [k];decide)] at q
   exact q
 ·exact e0.hok.fresh (Nat.le_of_lt (x.above y c (PySem.mem_of_lookup h)))
 ·unfold start
  show _=N.length
  rw [List.length_append,List.length_map,List.length_replicate]
  omega
theorem aOg{CX:CXT}{P:Program}{w:World}{K:PySem.W.Frag}{mg:Str->Option Value}{base:Heap}{k:Nat}{f:Addr}{name qual:Str}{params:Arguments}{body:List Stmt}{scope:Scope}{dV kV doc pm cdv ct oc:Value}{an od:Option Addr}
  {osl:Array (Option Value)} {N ps:List Str} {sp:Sp} (lk:K.lookup f=some ⟨oc,od,.func (PySem.W.fnOf name qual params body scope dV kV doc pm an cdv ct),osl⟩) (hcd:PySem.W.codeIn K cdv qual=true) (S:FnScope N ps scope)
  (len:∀ vs H Q E,sp vs H Q E->vs.length=ps.length)
  (hbody:∀ (A:Around) (outer:List Env) (s:Shared) (H:Hp) (vs:List V) (Q:VK) (E:XK),Room k (A.deeper (envOfC qual scope s.heap.objs.size f cdv))->sp vs H Q E ->
   ∃ t,PSs (zO CX P w K mg base N qual scope f cdv A outer s H E) body t/\t { nx:=fun _ H'=>Q .non H',rt:=Q } (start N vs) H) :
  FnOk P w K mg base CX (k+1) f (PySem.W.fnOf name qual params body scope dV kV doc pm an cdv ct) ps sp:=by
 refine ⟨len,fun A outer s H args us vs Q E hr e0 hb r hsp=>?_⟩
 have hl:=len _ _ _ _ hsp
 have KX:K.In s.heap:=e0.mod.kin.keeps fun b o e=>(e0.bs b o e).1
 have lim:s.heap.NoLimit:=e0.mod.nolimit.keeps fun b o e=>(e0.bs b o e).1
 have hkind:∀ y∈ps.zip us,scope.names.lookup y.1=some .local\/(scope.names.lookup y.1=some .cell/\((cellsFrom (s.heap.objs.size+1) scope.names []).lookup y.1).isSome=true):=fun ⟨n,v⟩ hy=>by
  rcases S.par n (List.of_mem_zip hy).1 with q | q
  ·exact .inl q
  ·exact .inr ⟨q,PySem.W.cellsFrom_some _ _ _ (.inl q)⟩
 refine codeAny_call_function hr.depth (KX _ _ lk) rfl S.co S.gen rfl (PySem.W.codeRec_of KX hcd) (hb _ _ _ _ ?_)
 refine wpAny_newFunctionEnv_cells S.kind hkind fun env he s1 x=>?_
 subst he
 refine ⟨lim.keeps x.toInCall.keep,codeAny_func ?_⟩
 obtain ⟨t,ht,hq⟩:=hbody A outer s H vs Q E (hr.deeper _) hsp
 have I:Inv (zO CX P w K mg base N qual scope f cdv A outer s H E) [] (start N vs) H s1:=aMn S hr.hd e0 hl r x
 refine wpAny_mono (ht [] s1 (start N vs) H _ I hq) (fun fl s' hs=>?_) fun e s' hs=>hs
 have fin:∀ {σ':St} {H':Hp} {v:V} {u:Value},Inv (zO CX P w K mg base N qual scope f cdv A outer s H E) [] σ' H' s'->RelV v u->Q v H'->CE outer P w H s Q u s' :=
  fun {σ' H' v u} J rv q=>⟨v,H',J.os,J.bare,J.base,J.hok,rv,q⟩
 cases fl with
 | ret u =>
  obtain ⟨v,σ',H',J,rv,q⟩:=hs
  exact fin J rv q
 | next =>
  obtain ⟨σ',H',J,q⟩:=hs
  exact fin (v:=V.non) (u:=Value.none) J rfl q
 | brk =>
  obtain ⟨_,_,_,q⟩:=hs
  exact False.elim q
 | cont =>
  obtain ⟨_,_,_,q⟩:=hs
  exact False.elim q
end L2
namespace L2
open PySem PySem.Spec PyProof.Rows
section
variable{X:Cx}{x:Str}{p pos:Pos}{e:Expr}{es:List Expr}{t:TA}{id T:String}{r:List V->Hp->VK->Prop}
def tCB(r:List V->Hp->VK->Prop)(t:TA):TE:=fun σ H Q=>t σ H fun vs H1=>r vs H1 Q
theorem tX(hc:oO X (.builtin id) r)(hg:Gl X x)(hm:X.mg x=none)(hv:bootBuiltins x=some (.builtin id))(ha:PA X (e :: es) t)(hn:x ≠ "__name__" := by decide)(hdb:(x==("__debug__" : Str))=false:=by decide)
  (he:starEach (e :: es) X.env=(false,eval e X.env) :: starEach es X.env:=by rfl) (hpl:(backTo pos (starEach es X.env)).any (·.1)=false:=by rfl):PE X (.Call (.Name x p) (e :: es) [] pos) (tCB r t):=by
 intro pins s σ H Q I h
 refine wpAny_Call_Name_kw (wM I hg hm hv ?_ hn hdb)
 exact PyProof.Rows.callWith_builtin1 (thn (ha pos pins s σ H _ I h) fun us s1 ⟨vs,H1,I1,r1,q1⟩=>hc pins s1 σ H1 vs us Q I1 r1 q1) he hpl
theorem aDv(hc:oO X (.type T) r)(hg:Gl X x)(hm:X.mg x=none)(hv:bootBuiltins x=some (.type T))(ha:PA X (e :: es) t)(hn:x ≠ "__name__" := by decide)(hdb:(x==("__debug__" : Str))=false:=by decide)
  (he:starEach (e :: es) X.env=(false,eval e X.env) :: starEach es X.env:=by rfl) (hpl:(backTo pos (starEach es X.env)).any (·.1)=false:=by rfl):PE X (.Call (.Name x p) (e :: es) [] pos) (tCB r t):=by
 intro pins s σ H Q I h
 refine wpAny_Call_Name_kw (wM I hg hm hv ?_ hn hdb)
 exact PyProof.Rows.callWith_type1 (thn (ha pos pins s σ H _ I h) fun us s1 ⟨vs,H1,I1,r1,q1⟩=>hc pins s1 σ H1 vs us Q I1 r1 q1) he hpl
end
end L2
namespace HT
open PySem PyProof.Rows
section
open PySem.SeqAt
open PySem.AutoSeq1 (wpAny_loadPart')
open PySem.MeetsSeq PySem.MeetsSeq2 PySem.MeetsSeq3
end
section
variable{prog:Program}{w:World}{A:Around}{E:Value->Shared->Prop}{s:Shared}
def sIx(n d:Nat):Option Int->Nat
 | none=>d
 | some v=>if v < 0 then (v+(n:Int)).toNat else min v.toNat n
theorem sIx_none(n d:Nat):sIx n d none=d:=rfl
theorem sIx_nat(n d k:Nat):sIx n d (some (k:Int))=min k n:=by
 show (if (k:Int) < 0 then ((k:Int)+(n:Int)).toNat else min (k:Int).toNat n)=min k n
 rw [if_neg (by omega),Int.toNat_natCast]
end
end HT
namespace L2
open PySem PySem.Spec PyProof.Rows
abbrev TO:=St->Hp->(Option Int->Hp->Prop)->Prop
def PO(X:Cx)(e:Option Expr)(t:TO):Prop :=
 ∀ (pins:List (Addr × Obj)) (s:Shared) (σ:St) (H:Hp) (Q:Option Int->Hp->Prop),Inv X pins σ H s->t σ H Q ->
  wpAny (model X.prog X.w) X.A (evalPart e X.env) (fun u s'=>∃ o H',Inv X pins σ H' s'/\IsPart u o/\Q o H') X.xe s
def aRp:TO:=fun _ H Q=>Q none H
def aZi(t:TE):TO:=fun σ H Q=>t σ H fun x H1=>∃ i,x = .int i/\Q (some i) H1
section
variable{X:Cx}{e:Expr}{te:TE}{lo hi:Option Expr}{tl th:TO}{pos p2:Pos}
theorem aRq:PO X none aRp:=by
 intro pins s σ H Q I h
 rw [evalPart_none]
 exact wpAny_pure ⟨none,H,I,.none,h⟩
theorem aRr(h:PE X e te):PO X (some e) (aZi te):=by
 intro pins s σ H Q I hw
 rw [evalPart_some]
 refine thn (h pins s σ H _ I hw) fun u s1 ⟨x,H1,I1,r1,q1⟩=>?_
 obtain ⟨i,rfl,q⟩:=q1
 obtain ⟨t,rfl⟩:=r1
 exact ⟨some i,H1,I1,.int i t,q⟩
def SlR(X:Cx)(r:V->Option Int->Option Int->Hp->VK->Prop):Prop :=
 ∀ (pins:List (Addr × Obj)) (s:Shared) (σ:St) (H:Hp) (x:V) (v vl vu:Value) (lo hi:Option Int) (sl:Addr) (Q:VK),Inv X pins σ H s->RelV x v->s.heap.IsSliceOf sl vl vu .none->IsPart vl lo->IsPart vu hi->r x lo hi H Q ->
  ∃ T id,typeLookup (.type T) "__getitem__" = pure (some (.builtin id))/\s.TypeIs v T/\wpAny (model X.prog X.w) X.A (getItem v (.ref sl)) (EP X pins σ Q) X.xe s
theorem SlR.or{r r':V->Option Int->Option Int->Hp->VK->Prop}(h:SlR X r)(h':SlR X r'):SlR X (fun x lo hi H Q=>r x lo hi H Q\/r' x lo hi H Q):=by
 intro pins s σ H x v vl vu lo hi sl Q I rx hs pl pu q
 rcases q with q | q
 ·exact h pins s σ H x v vl vu lo hi sl Q I rx hs pl pu q
 ·exact h' pins s σ H x v vl vu lo hi sl Q I rx hs pl pu q
def tSl(r:V->Option Int->Option Int->Hp->VK->Prop)(te:TE)(tl th:TO):TE:=fun σ H Q=>te σ H fun x H1=>tl σ H1 fun l H2=>th σ H2 fun u H3=>r x l u H3 Q
theorem aGp{r:V->Option Int->Option Int->Hp->VK->Prop}(hr:SlR X r)(he:PE X e te)(hl:PO X lo tl)(hu:PO X hi th):PE X (.Subscript e (.Slice lo hi none p2) pos) (tSl r te tl th):=by
 intro pins s σ H Q I h
 refine Subscript_ (thn (he pins s σ H _ I h) fun v s1 ⟨x,H1,I1,r1,q1⟩=>?_)
 refine wpAny_Slice (thn (hl pins s1 σ H1 _ I1 q1) fun vl s2 ⟨l,H2,I2,pl,q2⟩=>thn (hu pins s2 σ H2 _ I2 q2) fun vu s3 ⟨u,H3,I3,pu,q3⟩=>?_)
 rw [evalPart_none]
 refine wpAny_pure ?_
 have I4:Inv X pins σ H3 { s3 with heap:=s3.heap.push { cls := .type "slice", data := .fields #[vl,vu,.none] } }:=I3.kept (t':=s3.toks) fun b ob q=>Heap.get?_push_of_some _ q
 obtain ⟨T,id,hT,ht,hg⟩:=hr pins { s3 with heap:=s3.heap.push { cls := .type "slice", data := .fields #[vl,vu,.none] } } σ H3 x v vl vu l u s3.heap.objs.size Q I4 r1 (Heap.IsSliceOf.new ..) pl pu q3
 show wpAny (model X.prog X.w) X.A (subscriptTail e (.Slice lo hi none p2) v (.ref s3.heap.objs.size)) (EP X pins σ Q) X.xe { s3 with heap:=s3.heap.push { cls := .type "slice", data := .fields #[vl,vu,.none] } }
 exact tail_any (ops:=[.ref s3.heap.objs.size,v]) ht hT hg (by with_unfolding_all rfl)
def aMo(xs:List V)(lo hi:Option Int):List V:=(xs.drop (HT.sIx xs.length 0 lo)).take (HT.sIx xs.length xs.length hi - HT.sIx xs.length 0 lo)
theorem aGq(xs:List V)(lo hi:Option Int):(aMo xs lo hi).length<=xs.length:=by
 unfold aMo
 rw [List.length_take,List.length_drop]
 omega
end
end L2
namespace L2
open PySem PySem.Spec PyProof.Rows
def ixN(n:Nat)(i:Int):Option Nat:=if 0<=i then (if i < n then some i.toNat else none) else if -(n:Int)<=i then some (i+n).toNat else none
def atI{α:Type}(xs:List α)(i:Int):Option α:=(ixN xs.length i).bind fun j=>xs[j]?
theorem aKl{n:Nat}{i:Int}{j:Nat}(h:ixN n i=some j):seqIndex? i n=some j/\j < n /\ -(n:Int)<=i/\i < n:=by
 unfold ixN at h
 by_cases h0:0<=i
 ·rw [if_pos h0] at h
  by_cases h1:i < n
  ·rw [if_pos h1] at h
   have e:i.toNat=j:=Option.some.inj h
   exact ⟨by rw [seqIndex_of h0 h1,e],by omega,by omega,h1⟩
  ·rw [if_neg h1] at h;cases h
 ·rw [if_neg h0] at h
  by_cases h1 : -(n:Int)<=i
  ·rw [if_pos h1] at h
   have e:(i+n).toNat=j:=Option.some.inj h
   exact ⟨by rw [seqIndex_neg (by omega) h1,e],by omega,h1,by omega⟩
  ·rw [if_neg h1] at h;cases h
theorem aF7{α:Type}{xs:List α}{i:Int}{v:α}(h:atI xs i=some v):∃ j,seqIndex? i xs.length=some j/\xs[j]?=some v/\j < xs.length /\ -(xs.length:Int)<=i/\i < xs.length:=by
 unfold atI at h
 cases e:ixN xs.length i with
 | none=>rw [e] at h;cases h
 | some j =>
  rw [e] at h
  obtain ⟨h1,h2,h3,h4⟩:=aKl e
  exact ⟨j,h1,h,h2,h3,h4⟩
theorem atI_nat{α:Type}{xs:List α}{j:Nat}{v:α}(h:xs[j]?=some v):atI xs (j:Int)=some v:=by
 have hj:j < xs.length:=(List.getElem?_eq_some_iff.mp h).1
 have e:ixN xs.length (j:Int)=some j:=by
  unfold ixN
  rw [if_pos (by omega),if_pos (by omega)];simp
 unfold atI;rw [e];exact h
theorem atI_last{α:Type}(xs:List α)(v:α):atI (xs++[v]) (-1)=some v:=by
 have hl:(xs++[v]).length=xs.length+1:=by simp
 have e:ixN (xs++[v]).length (-1)=some xs.length:=by
  unfold ixN
  rw [hl,if_neg (by decide),if_pos (by omega)]
  congr 1
  omega
 unfold atI
 rw [e]
 show (xs++[v])[xs.length]?=some v
 simp
def aF8(b:Expr):Prop:=∀ o i,subscripted b false o i=operate [o,i] (getItem o i)
def IxR(X:Cx)(r:R2):Prop :=
 ∀ (value slice:Expr) (pins:List (Addr × Obj)) (s:Shared) (σ:St) (H:Hp) (x y:V) (v u:Value) (Q:VK),Inv X pins σ H s->RelV x v->RelV y u->r x y H Q ->
  subscripted slice false v u=operate [v,u] (getItem v u)->wpAny (model X.prog X.w) X.A (subscriptTail value slice v u) (EP X pins σ Q) X.xe s
def MtR(X:Cx)(id:String)(r:V->List V->Hp->VK->Prop):Prop :=
 ∀ (pins:List (Addr × Obj)) (s:Shared) (σ:St) (H:Hp) (x:V) (xs:List V) (v:Value) (us:List Value) (Q:VK),Inv X pins σ H s->RelV x v->Vals xs us->r x xs H Q ->
  wpAny (model X.prog X.w) X.A (call (.builtin id) (v :: us)) (EP X pins σ Q) X.xe s
section
variable{X:Cx}{a b:Expr}{ta tb:TE}{pos:Pos}
theorem IxR.or{r r':R2}(h:IxR X r)(h':IxR X r'):IxR X (fun x y H Q=>r x y H Q\/r' x y H Q):=by
 intro value slice pins s σ H x y v u Q I rx ry q hs
 rcases q with q | q
 ·exact h value slice pins s σ H x y v u Q I rx ry q hs
 ·exact h' value slice pins s σ H x y v u Q I rx ry q hs
theorem aTz{r:R2}(hr:IxR X r)(ha:PE X a ta)(hb:PE X b tb)(hs:aF8 b):PE X (.Subscript a b pos) (tOp r ta tb):=by
 intro pins s σ H Q I h
 exact Subscript_ (aVl ha hb I h fun v u s2 x y H2 I2 rx ry q=>hr a b pins s2 σ H2 x y v u Q I2 rx ry q (hs _ _))
def aZj(K:PySem.W.Frag):R2:=fun x y H Q=>∃ p xs i v,x = .ref p/\y = .int i/\SqL K H p xs/\atI xs i=some v/\Q v H
def aZk(K:PySem.W.Frag):R2:=fun x y H Q=>∃ p xs i v,x = .ref p/\y = .int i/\SqT K H p xs/\atI xs i=some v/\Q v H
def aZl:R2:=fun x y H Q=>∃ z i c,x = .str z/\y = .int i/\z.length<=sizeLine/\atI z.cps.toList i=some c/\Q (.str ⟨#[c]⟩) H
theorem aRs:IxR X (aZj X.K):=by
 intro value slice pins s σ H x y v u Q I rx ry h hs
 obtain ⟨p,xs,i,z,rfl,rfl,hq,he,q⟩:=h
 cases rx
 obtain ⟨t,rfl⟩:=ry
 obtain ⟨its,r,pl,hz⟩:=I.list hq
 obtain ⟨j,h1,h2,h3,h4,h5⟩:=aF7 he
 obtain ⟨w,ew,rw'⟩:=r.get h2
 have hl:=r.length
 have hn:=zL
 have fin:EP X pins σ Q w s:=⟨z,H,I,rw',q⟩
 by_cases h0:0<=i
 ·have hj:i.toNat=j:=by
   rw [seqIndex_of h0 h5] at h1
   exact Option.some.inj h1
  exact item_listR pl.isList h0 (by omega) (by rw [hj];simpa using ew) fin hs
 ·have hj:(i+(its.toArray.size:Int)).toNat=j:=by
   rw [seqIndex_neg (by omega) h4] at h1
   rw [List.size_toArray,<-hl]
   exact Option.some.inj h1
  exact subscriptTail_builtinR (x:=w) pl.isList.typeIs slot_list_getitem.lookup
   (wpAny_getItem_list_neg (Q:=fun r s'=>r=w/\EP X pins σ Q r s') pl.isList (by omega) (by rw [List.size_toArray] <;> omega) (by omega) (by rw [hj];simpa using ew) ⟨rfl,fin⟩) hs
theorem aVx:IxR X (aZk X.K):=by
 intro value slice pins s σ H x y v u Q I rx ry h hs
 obtain ⟨p,xs,i,z,rfl,rfl,hq,he,q⟩:=h
 cases rx
 obtain ⟨t,rfl⟩:=ry
 obtain ⟨its,r,pl,hz⟩:=I.tuple hq
 obtain ⟨j,h1,h2,h3,h4,h5⟩:=aF7 he
 obtain ⟨w,ew,rw'⟩:=r.get h2
 have hl:=r.length
 have hn:=zL
 have fin:EP X pins σ Q w s:=⟨z,H,I,rw',q⟩
 exact subscriptTail_builtinR (x:=w) pl.typeIs slot_tuple_getitem.lookup
  (getItem_tuple (j:=j) (Q:=fun r s'=>r=w/\EP X pins σ Q r s') pl (by omega) (by omega) (by rw [List.size_toArray,<-hl];exact h1) (by simpa using ew) ⟨rfl,fin⟩) hs
theorem aVy:IxR X aZl:=by
 intro value slice pins s σ H x y v u Q I rx ry h hs
 obtain ⟨z,i,c,rfl,rfl,hz,he,q⟩:=h
 obtain ⟨t,rfl⟩:=rx
 obtain ⟨t',rfl⟩:=ry
 obtain ⟨j,h1,h2,h3,h4,h5⟩:=aF7 he
 have hl:z.cps.toList.length=z.length:=by simp [Str.length]
 rw [hl] at h1 h4 h5
 have hn:=zL
 exact tail_any (typeIs_str s z t) slot_str_getitem.lookup (getItem_str (c:=c) (by
  have e1:decide (i < -(2 ^ 63:Int))=false:=decide_eq_false (by omega)
  have e2:decide (i ≥ 2 ^ 63)=false:=decide_eq_false (by omega)
  rw [e1,e2,Bool.or_false]) (by rw [h1];simpa using h2) ⟨.str ⟨#[c]⟩,H,I.tok _,⟨_,rfl⟩,q⟩) hs
def rIx(K:PySem.W.Frag):R2:=fun x y H Q=>aZj K x y H Q\/aZk K x y H Q\/aZl x y H Q
theorem aOh:IxR X (rIx X.K):=aRs.or (aVx.or aVy)
theorem aJ0(its:List Value)(n j:Nat)(u:Value):Obj.mapSeq (·.setIfInBounds j u) { cls := .type "list", data := .seq its.toArray n }={ cls := .type "list", data := .seq (its.set j u).toArray n }:=by
 simp [Obj.mapSeq]
theorem Inv.lst{pins:List (Addr × Obj)}{σ:St}{H:Hp}{s:Shared}{p:Addr}{xs:List V}(I:Inv X pins σ H s)(h:H p=some (.lst xs)) :
  ∃ (its:List Value) (n:Nat),Vals xs its/\s.heap.get? p=some { cls := .type "list", data := .seq its.toArray n }/\xs.length<=sizeLine:=by
 obtain ⟨z,its,n,r,e⟩:=I.hok p _ h
 exact ⟨its,n,r,e,z⟩
theorem Inv.lstUpd{pins:List (Addr × Obj)}{σ:St}{H:Hp}{s:Shared}{p:Addr}{xs ys:List V}{its its':List Value}{n n':Nat}{f:Obj->Obj}(I:Inv X pins σ H s)(h:H p=some (.lst xs))
  (ho:s.heap.get? p=some { cls := .type "list", data := .seq its.toArray n }) (hf:f { cls := .type "list", data := .seq its.toArray n }={ cls := .type "list", data := .seq its'.toArray n' }) (r:Vals ys its') (hz:ys.length<=sizeLine) (t:Nat) :
  Inv X pins σ (upd H p (.lst ys)) { s with heap:=s.heap.update p f,toks:=t }:=by
 have e:(s.heap.update p f).get? p=some { cls := .type "list", data := .seq its'.toArray n' }:=by
  rw [Heap.get?_update_self f ho (by rw [hf] <;> rfl),hf]
 refine I.write (x:=p) (e:=p) (by rw [h];trivial) (.inl rfl) (fun b u hb q=>(Heap.get?_update_other _ _ (Ne.symm hb)).trans q) ⟨_,e⟩ ?_
 exact ⟨hz,its',n',r,e⟩
def aZm:V->V->V->Hp->(Hp->Prop)->Prop:=fun o i v H Q=>∃ p xs k j,o = .ref p/\i = .int k/\H p=some (.lst xs)/\ixN xs.length k=some j/\Q (upd H p (.lst (xs.set j v)))
theorem set_list:aVh X aZm:=by
 intro pins s σ H o i v ov iv u Q I ro ri rv h
 obtain ⟨p,xs,k,j,rfl,rfl,hp,hj,q⟩:=h
 cases ro
 obtain ⟨t,rfl⟩:=ri
 obtain ⟨its,n,r,ho,hz⟩:=I.lst hp
 obtain ⟨h1,h2,h3,h4⟩:=aKl hj
 have hl:=r.length
 have hn:=zL
 have I':Inv X pins σ (upd H p (.lst (xs.set j v))) { s with heap:=s.heap.update p (Obj.mapSeq (·.setIfInBounds j u)) } :=
  I.lstUpd hp ho (aJ0 its n j u) (r.set rv j) (by rw [List.length_set];exact hz) s.toks
 by_cases h0:0<=k
 ·have hk:k.toNat=j:=by
   rw [seqIndex_of h0 h4] at h1
   exact Option.some.inj h1
  exact PySem.W.ki_setAt ho h0 (by omega) (by rw [List.size_toArray,<-hl];exact h4) (by rw [hk];exact ⟨_,I',q⟩)
 ·have hk:(k+(its.toArray.size:Int)).toNat=j:=by
   rw [seqIndex_neg (by omega) h3] at h1
   rw [List.size_toArray,<-hl]
   exact Option.some.inj h1
  exact PySem.W.ki_setBack ho (by omega) (by rw [List.size_toArray,<-hl];exact h3) (by omega) (by rw [hk];exact ⟨_,I',q⟩)
theorem aF9(lo hi:Option Int)(n:Nat):(sliceBounds lo hi none n).1=((HT.sIx n 0 lo:Nat):Int)/\(sliceBounds lo hi none n).2.1=((HT.sIx n n hi:Nat):Int)/\(sliceBounds lo hi none n).2.2=1:=by
 refine ⟨?_,?_,rfl⟩
 ·cases lo with
  | none=>simp [sliceBounds,HT.sIx]
  | some i =>
   simp only [sliceBounds,HT.sIx,Option.getD_none,show (1:Int) > 0 by decide,if_true]
   by_cases h:i < 0
   ·simp only [h,if_true] <;> omega
   ·simp only [h,if_false] <;> omega
 ·cases hi with
  | none=>simp [sliceBounds,HT.sIx]
  | some i =>
   simp only [sliceBounds,HT.sIx,Option.getD_none,show (1:Int) > 0 by decide,if_true]
   by_cases h:i < 0
   ·simp only [h,if_true] <;> omega
   ·simp only [h,if_false] <;> omega
theorem aDf(its:List Value)(lo hi:Option Int):slicePick its.toArray lo hi none=((its.drop (HT.sIx its.length 0 lo)).take (HT.sIx its.length its.length hi - HT.sIx its.length 0 lo)).toArray:=by
 obtain ⟨h1,h2,h3⟩:=aF9 lo hi its.toArray.size
 unfold slicePick
 rw [h1,h2,h3]
 simp only [sliceRange_one,pick_run,List.size_toArray] <;> rfl
def bD7(K:PySem.W.Frag):V->Option Int->Option Int->Hp->VK->Prop:=fun x lo hi H Q=>∃ a xs,x = .ref a/\SqL K H a xs/\∀ p,H p=none->Q (.ref p) (upd H p (.lst (aMo xs lo hi)))
theorem aKm:SlR X (bD7 X.K):=by
 intro pins s σ H x v vl vu lo hi sl Q I rx hs pl pu h
 obtain ⟨a,xs,rfl,hx,q⟩:=h
 cases rx
 obtain ⟨its,r,ht,hz⟩:=I.list hx
 have hlen:=r.length
 refine ⟨"list", _,slot_list_getitem.lookup,ht.isList.typeIs,?_⟩
 refine wpAny_getItem_list_slice ht.isList hs pl pu .none (by simp) ?_ (by rw [List.size_toArray] <;> omega)
 rw [aDf,<-hlen]
 refine ⟨.ref s.heap.objs.size,_,I.laid (t':=s.toks) (o := .lst (aMo xs lo hi)) (fun b ob q=>Heap.get?_push_of_some _ q) (Nat.le_refl _) ?_,rfl,q _ (I.hok.fresh (Nat.le_refl _))⟩
 exact ⟨Nat.le_trans (aGq xs lo hi) hz,_,0,(r.drop (HT.sIx xs.length 0 lo)).take (HT.sIx xs.length xs.length hi - HT.sIx xs.length 0 lo),Heap.get?_push_size _ rfl⟩
theorem aFa:oO X (.builtin "len") (fun xs H Q=>∃ p ys,xs=[.ref p]/\(SqL X.K H p ys\/SqT X.K H p ys)/\Q (.int ys.length) H):=by
 intro pins s σ H xs us Q I r h
 obtain ⟨p,ys,rfl,hq,q⟩:=h
 obtain ⟨u,rfl,rx⟩:=vals1 r
 cases rx
 have hn:=zL
 rcases hq with hq | hq
 ·obtain ⟨its,r',pl,hz⟩:=I.list hq
  have hlen:=r'.length
  exact Calls.call_len_list pl.isList (by simp only [List.size_toArray] <;> omega) ⟨.int ys.length,H,I.tok _,⟨s.toks+1,by rw [List.size_toArray,hlen]⟩,q⟩
 ·obtain ⟨its,r',pl,hz⟩:=I.tuple hq
  have hlen:=r'.length
  exact len_tuple pl (by simp only [List.size_toArray] <;> omega) ⟨.int ys.length,H,I.tok _,⟨s.toks+1,by rw [List.size_toArray,hlen]⟩,q⟩
theorem aFb:oO X (.builtin "len") (fun xs H Q=>∃ z,xs=[.str z]/\z.length<=sizeLine/\Q (.int z.length) H):=by
 intro pins s σ H xs us Q I r h
 obtain ⟨z,rfl,hz,q⟩:=h
 obtain ⟨u,rfl,t,rfl⟩:=vals1 r
 have hn:=zL
 exact len_str (by omega) ⟨.int z.length,H,I.tok _,⟨_,rfl⟩,q⟩
theorem oO.or{f:Value}{r r':List V->Hp->VK->Prop}(h:oO X f r)(h':oO X f r'):oO X f (fun xs H Q=>r xs H Q\/r' xs H Q):=by
 intro pins s σ H xs us Q I rs q
 rcases q with q | q
 ·exact h pins s σ H xs us Q I rs q
 ·exact h' pins s σ H xs us Q I rs q
def tyV(K:PySem.W.Frag)(T:String)(x:V)(H:Hp):Prop:=match x with
 | .str _=>T = "str"
 | .int _=>T = "int"
 | .ref p=>(T = "list" /\ ∃ xs,SqL K H p xs)\/(T = "tuple" /\ ∃ o,K.lookup p=some o/\o.cls = .type "tuple" /\ o.dict=none) \/
   (T = "dict" /\ ((∃ kvs,H p=some (.dK kvs))\/∃ kvs,H p=some (.dT kvs)))\/(T = "set" /\ ∃ S n,H p=some (.set S n))
 | _=>False
theorem aOi{pins:List (Addr × Obj)}{σ:St}{H:Hp}{s:Shared}{T:String}{x:V}{v:Value}(I:Inv X pins σ H s)(r:RelV x v)(ty:tyV X.K T x H) :
  s.TypeIs v T/\∀ a,v = .ref a->∃ ob,s.heap.get? a=some ob/\ob.dict=none:=by
 cases x with
 | str z =>
  obtain ⟨t,rfl⟩:=r
  cases (show T = "str" from ty)
  exact ⟨typeIs_str s z t,fun _ e=>nomatch e⟩
 | int i =>
  obtain ⟨t,rfl⟩:=r
  cases (show T = "int" from ty)
  exact ⟨typeIs_int s i t,fun _ e=>nomatch e⟩
 | ref p =>
  cases r
  rcases ty with ⟨rfl,xs,hq⟩ | ⟨rfl,o,hk,hc,hd⟩ | ⟨rfl,hk⟩ | ⟨rfl,S,n,hk⟩
  ·obtain ⟨its,_,pl,_⟩:=I.list hq
   refine ⟨pl.isList.typeIs,fun a e=>?_⟩
   cases e
   obtain ⟨o,n,e,c,hd,_⟩:=pl
   exact ⟨o,e,hd⟩
  ·refine ⟨⟨o,I.kIn p o hk,hc⟩,fun a e=>?_⟩
   cases e
   exact ⟨o,I.kIn _ o hk,hd⟩
  ·have z:∃ o,s.heap.get? p=some o/\o.ExactDict:=by
    rcases hk with ⟨kvs,hk⟩ | ⟨kvs,hk⟩
    ·obtain ⟨_,_,_,_,o,_,_,e,ex,_⟩:=I.hok p _ hk
     exact ⟨o,e,ex⟩
    ·obtain ⟨_,_,_,_,o,_,_,e,ex,_⟩:=I.hok p _ hk
     exact ⟨o,e,ex⟩
   obtain ⟨o,e,ex⟩:=z
   refine ⟨⟨o,e,ex.1⟩,fun a e2=>?_⟩
   cases e2
   exact ⟨o,e,ex.2.1⟩
  ·obtain ⟨o,_,_,_,e,ex,_⟩:=I.hok p _ hk
   refine ⟨⟨o,e,ex.1⟩,fun a e2=>?_⟩
   cases e2
   exact ⟨o,e,ex.2.1⟩
 | _=>exact False.elim ty
def bD8(K:PySem.W.Frag)(T:String)(r:V->List V->Hp->VK->Prop)(to:TE):TE:=fun σ H Q=>to σ H fun x H1=>tyV K T x H1/\r x [] H1 Q
def tBM(K:PySem.W.Frag)(T:String)(r:V->List V->Hp->VK->Prop)(to:TE)(t:TA):TE:=fun σ H Q=>to σ H fun x H1=>tyV K T x H1/\t σ H1 fun xs H2=>r x xs H2 Q
variable{o e:Expr}{es:List Expr}{to:TE}{t:TA}{name:Str}{apos cpos:Pos}{T id:String}{r:V->List V->Hp->VK->Prop}
theorem aVz(pa:PlainAttrs T)(slot:Slot T name id)(hty:typeOf (.builtin id)=pure (.type "method_descriptor"))(hm:MtR X id r)(ho:PE X o to)
  (hbase:attributeBase o name X.env (eval o X.env)=eval o X.env:=by rfl) (hline:(apos.endLine==cpos.line)=true:=by rfl):PE X (.Call (.Attribute o name apos) [] [] cpos) (bD8 X.K T r to):=by
 intro pins s σ H Q I h
 refine wpAny_Call_method0_late hbase hline (thn (ho pins s σ H _ I h) fun v s1 ⟨x,H1,I1,r1,ty,q1⟩=>?_)
 obtain ⟨h1,h2⟩:=aOi I1 r1 ty
 exact ⟨T,id,pa,slot,hty,h1,h2,Calls.callWith_builtin rfl (PySem.evalArgs_none (hm pins s1 σ H1 x [] v [] Q I1 r1 .nil q1))⟩
theorem aKn(pa:PlainAttrs T)(slot:Slot T name id)(hty:typeOf (.builtin id)=pure (.type "method_descriptor"))(hm:MtR X id r)(ho:PE X o to)(ha:PA X (e :: es) t)
  (hbase:attributeBase o name X.env (eval o X.env)=eval o X.env:=by rfl)
  (hfew:((backTo cpos (starEach (e :: es) X.env)).all (fun x => !x.1)&&(backToKw cpos (keywordEach [] X.env)).all (fun x=>x.1.isSome)
   && decide ((e :: es).length+([]:List Keyword).length+(if ([]:List Keyword).isEmpty then 0 else 1) < 30))=true:=by rfl)
  (hline:(apos.endLine==cpos.line)=true:=by rfl) (hs:starEach (e :: es) X.env=(false,eval e X.env) :: starEach es X.env:=by rfl) (hplain:(backTo cpos (starEach es X.env)).any (·.1)=false:=by rfl) :
  PE X (.Call (.Attribute o name apos) (e :: es) [] cpos) (tBM X.K T r to t):=by
 intro pins s σ H Q I h
 refine wpAny_Call_method_late hbase hfew hline rfl (thn (ho pins s σ H _ I h) fun v s1 ⟨x,H1,I1,r1,ty,q1⟩=>?_)
 obtain ⟨h1,h2⟩:=aOi I1 r1 ty
 refine ⟨T,id,pa,slot,hty,h1,h2,?_⟩
 have hA:=ha cpos pins s1 σ H1 _ I1 q1
 rw [hs] at hA ⊢
 refine Calls.callWith_builtin (by show (false||(backTo cpos (starEach es X.env)).any (·.1))=false;rw [hplain] <;> rfl) (Calls.evalArgs_plain ?_)
 exact thn hA fun us s2 ⟨vs,H2,I2,r2,q2⟩=>hm pins s2 σ H2 x vs v us Q I2 r1 r2 q2
end
end L2
namespace L2
open PySem PySem.Spec PyProof.Rows
def MtM(X:Cx)(id:String)(r:V->List V->Hp->VK->Prop):Prop :=
 ∀ (pins:List (Addr × Obj)) (s:Shared) (σ:St) (H:Hp) (x:V) (xs:List V) (v:Value) (us:List Value) (Q:VK),Inv X pins σ H s->RelV x v->Vals xs us->r x xs H Q ->
  wpAny (model X.prog X.w) X.A (call (.builtin id) (v :: us)) (EP X pins σ Q) X.xe s
theorem Vals.one:∀ {x:V} {us:List Value},Vals [x] us->∃ u,us=[u]/\RelV x u
 | _,_,.cons r .nil=>⟨_,rfl,r⟩
theorem Vals.two:∀ {x y:V} {us:List Value},Vals [x,y] us->∃ u v,us=[u,v]/\RelV x u/\RelV y v
 | _,_,_,.cons r (.cons q .nil)=>⟨_,_,rfl,r,q⟩
theorem Vals.zero:∀ {us:List Value},Vals [] us->us=[]
 | _,.nil=>rfl
section
variable{X:Cx}{pins:List (Addr × Obj)}{σ:St}{H:Hp}{s:Shared}{l b:Addr}{xs ys zs:List V}
theorem Inv.lset{its its':List Value}{n:Nat}{f:Array Value->Array Value}{t':Nat}(I:Inv X pins σ H s)(hH:H l=some (.lst xs))
  (e:s.heap.get? l=some { cls := .type "list", data := .seq its.toArray n }) (hf:f its.toArray=its'.toArray) (hv:Vals ys its') (hz:ys.length<=sizeLine) :
  Inv X pins σ (upd H l (.lst ys)) { s with heap:=s.heap.update l (Obj.mapSeq f),toks:=t' }:=by
 have q:=PySem.IsL.update e f
 rw [hf] at q
 refine I.write (x:=l) (e:=l) (by rw [hH];exact trivial) (.inl rfl) (fun b' u hb hu=>(Heap.get?_update_other s.heap (Obj.mapSeq f) (Ne.symm hb)).trans hu) ⟨_,q⟩ ?_
 exact ⟨hz,its',_,hv,q⟩
theorem Inv.lnew{its:List Value}{t':Nat}(I:Inv X pins σ H s)(hv:Vals ys its)(hz:ys.length<=sizeLine) :
  Inv X pins σ (upd H s.heap.objs.size (.lst ys)) { s with heap:=s.heap.push { cls := .type "list", data := .seq its.toArray },toks:=t' } :=
 I.laid (fun _ _ q=>Heap.get?_push_of_some _ q) (Nat.le_refl _) ⟨hz,its,0,hv,Heap.get?_push_size _ rfl⟩
theorem Inv.fresh(I:Inv X pins σ H s):H s.heap.objs.size=none:=I.hok.fresh (Nat.le_refl _)
theorem Inv.lstM(I:Inv X pins σ H s)(hH:H l=some (.lst xs)):xs.length<=sizeLine/\∃ (its:List Value) (n:Nat),Vals xs its/\xs.length=its.length/\s.heap.get? l=some { cls := .type "list", data := .seq its.toArray n }:=by
 obtain ⟨z,its,n,r,e⟩:=I.hok l _ hH
 exact ⟨z,its,n,r,r.length,e⟩
theorem aOj{n:Nat}(h:n<=sizeLine):Builtin.List.listTooLong n=false:=by
 unfold Builtin.List.listTooLong
 exact decide_eq_false (by omega)
end
section
variable{X:Cx}
def aRt:V->List V->Hp->VK->Prop:=fun x vs H Q=>∃ l xs y,x = .ref l/\vs=[y]/\H l=some (.lst xs)/\xs.length < sizeLine/\Q .non (upd H l (.lst (xs++[y])))
theorem aMp:MtM X "list.append" aRt:=by
 intro pins s σ H x vs v us Q I rx rv h
 obtain ⟨l,xs,y,rfl,rfl,hH,hz,q⟩:=h
 cases rx
 obtain ⟨u,rfl,ru⟩:=rv.one
 obtain ⟨z,its,n,r,hl,e⟩:=I.lstM hH
 refine call_meets F.slot_list_append ⟨_,e,rfl⟩ F.entry_list_append (F.args_list_append_2 _ _) (PySem.list_append l its.toArray n u (by rw [List.size_toArray];omega)) ⟨e,?_⟩
 refine ⟨.non,_,I.lset (its':=its++[u]) hH e (by simp) (r.append (.cons ru .nil)) ?_,rfl,q⟩
 rw [List.length_append,List.length_singleton]
 omega
def aRu:V->List V->Hp->VK->Prop:=fun x vs H Q=>∃ l b xs zs,x = .ref l/\vs=[.ref b]/\H l=some (.lst xs)/\H b=some (.lst zs)/\xs.length+zs.length<=sizeLine/\Q .non (upd H l (.lst (xs++zs)))
theorem aMq:MtM X "list.extend" aRu:=by
 intro pins s σ H x vs v us Q I rx rv h
 obtain ⟨l,b,xs,zs,rfl,rfl,hH,hB,hz,q⟩:=h
 cases rx
 obtain ⟨u,rfl,ru⟩:=rv.one
 cases ru
 obtain ⟨z,its,n,r,hl,e⟩:=I.lstM hH
 obtain ⟨z2,its2,n2,r2,hl2,e2⟩:=I.lstM hB
 have hsz:its.toArray.size+its2.toArray.size<=sizeLine:=by rw [List.size_toArray,List.size_toArray];omega
 have hlong:¬ (!its.toArray.isEmpty&&Builtin.List.listTooLong (its.toArray.size+its2.toArray.size))=true:=by
  rw [aOj hsz,Bool.and_false]
  exact Bool.false_ne_true
 refine call_meets F.slot_list_extend ⟨_,e,rfl⟩ F.entry_list_extend (F.args_list_extend_2 _ _)
  (AutoSeq1.list_extend_list_list_0 l its.toArray n b its2.toArray n2 hlong (by rw [List.size_toArray];omega) (by omega)) ⟨e,e2,?_⟩
 refine ⟨.non,_,I.lset (its':=its++its2) hH e (by simp) (r.append r2) ?_,rfl,q⟩
 rw [List.length_append]
 omega
end
section
variable{prog:Program}{w:World}{A:Around}{E:Value->Shared->Prop}{s:Shared}
end
section
variable{X:Cx}
end
end L2
namespace Att
open PySem PySem.W PySem.Calls PyProof.Rows
theorem aB0{P:Params}{h:Heap}:∀ (ns:List Int) (vs:List Value),WellAll P h vs (ns.map WData.int)->IntsAre vs ns:=by
 intro ns
 induction ns with
 | nil =>
  intro vs w
  rw [List.map_nil] at w
  cases w
  exact .nil
 | cons n ns ih =>
  intro vs w
  rw [List.map_cons] at w
  cases w with
  | cons a b =>
   cases a
   exact .cons _ _ (ih _ b)
theorem aMr{l:OpenLaw}{n:Nat}(hn:l.most=some n){P:Params}{h:Heap}{args:List WData}{vals:List Value}
  (hpre:l.row.toRowW.claim.pre args=true) (hwl:WellAll P h vals args) :
  ∃ a vs ns,vals=[Value.ref a]/\args=[WData.list (ns.map WData.int)]/\h.get? a=some { cls := .type "list", data := .seq vs.toArray }/\IntsAre vs ns/\ns.length<=n:=by
 have hsh:WShape.hasAll [] args [.list .int]=true:=(pre_splitW hpre).1
 have hc:l.pre.holds [] { args:=args }=true:=(pre_splitW hpre).2
 obtain ⟨d,r,rfl,h1,h2⟩:=hasAllW_cons hsh
 obtain rfl:=hasAllW_nil h2
 obtain ⟨xs,rfl,h3⟩:=hasW_list h1
 obtain ⟨ns,rfl⟩:=items_int h3
 have hlen:ns.length<=n:=by
  unfold OpenLaw.pre at hc
  have h4:(WTm.not (.lt (.lit (.int (n:Int))) (.len (.arg 0)))).holds [] { args:=[.list (ns.map .int)] }=true:=by
   have h4:=(holds_andW hc).1
   rw [hn] at h4
   exact h4
  have h5:=condW_of h4 (w_not (w_lt w_lit (w_len_list (w_arg rfl))))
  rw [List.length_map] at h5
  refine Nat.le_of_not_lt fun q=>?_
  have q':(n:Int) < ((ns.length:Nat):Int):=by omega
  first
   | (rw [decide_eq_true q'] at h5;exact absurd h5 (by decide))
   | (simp at h5;omega)
 cases hwl with
 | cons w1 w2 =>
  cases w2
  cases w1 with
  | list ho hall=>exact ⟨_,_,ns,rfl,rfl,ho,aB0 ns _ hall,hlen⟩
theorem aMs(l:OpenLaw)(args:List WData):l.row.toRowW.claim.post args (.bool true) args=true :=
 postW_of (r:=l.row.toRowW) (X:=(true==true))
  (show WShape.has [] (.bool true) .bool=true by first | rfl | decide | simp [WShape.has,WShape.arms,WShape.armsAll])
  (show (WTm.eq .res (.lit (.bool true))).value [] { args:=args,res:=some (.bool true),after:=args }=some (.bool (true==true)) from w_eq_bool (w_res rfl) w_lit) rfl
theorem attach_call{l:OpenLaw}{n:Nat}{q:Program}{loose:List Str}{XP:(Str->Option Value)->Heap->Prop}{YP:World->Heap->Prop}{d:DefRec}
  (hn:l.most=some n) (hdf:d.params.defaults=[])
  (call:∀ (w:World) (s₀ s₁:Shared) (mg mb:Str->Option Value) (fa:Addr) (o:Obj) (pm cd doc:Value) (a:Addr) (vs:List Value) (ns:List Int),
   Ground q loose [] XP w s₀ mg mb s₁.heap->YP w s₁.heap ->
   s₁.heap.get? fa=some o->o.data = .func (docDef d.name d.params d.body d.scope pm cd doc)->s₁.heap.CodeRec cd d.name->mg d.name=some (.ref fa) ->
   s₁.heap.get? a=some { cls := .type "list", data := .seq vs.toArray }->IntsAre vs ns->ns.length<=n->s₁.gens = #[] ->
   codeAny (model l.prog w) callerA (.call (.ref fa) ⟨[.ref a],[]⟩) (fun r s'=>r = .ok (.ret (.bool true))/\OldK s₁.heap s'.heap/\s'.os=s₁.os/\AllBare s'.gens) s₁) :
  WalkO q loose XP YP l.row.toRowW d [] (fun f vs=>PySem.call f vs):=by
 intro w s₀ s₁ mg mb G Y fa o pm cd doc dV kV ho hd hcd hD hmg hg args vals as hpre hlay hrd hwl hlo
 obtain rfl:dV = .none:=Dflts.none hD hdf
 obtain rfl:kV = .none:=Dflts.noKw hD
 obtain ⟨a,vs,ns,rfl,rfl,hobj,hints,hlen⟩:=aMr hn hpre hwl
 refine enter_call (codeAny_mono (call w s₀ s₁ mg mb fa o pm cd doc a vs ns G Y ho (fd_plain hd) hcd hmg hobj hints hlen hg) fun r s' hq=>?_)
 obtain ⟨rfl,h2,h3,h4⟩:=hq
 exact ⟨.inl ⟨.bool true,.bool true,[],rfl,fun _=>rfl,.bool true,aMs l _,fun _=>⟨List.Pairwise.nil,fun _ hm=>(nomatch hm)⟩⟩,h2,h3,h4⟩
section
variable{prog:Program}{w:World}{A:Around}{E:Value->Shared->Prop}{s:Shared}{K:Frag}
end
end Att
namespace L2
open PySem PySem.Spec PyProof.Rows
theorem vals_ints:∀ {vs:List Value} {ns:List Int},IntsAre vs ns->Vals (ns.map V.int) vs
 | _,_,.nil => .nil
 | _,_,.cons n t h => .cons ⟨t,rfl⟩ (vals_ints h)
def Only(H:Hp):Prop:=∀ b,H b=none\/∃ o xs,H b=some (.frz o (.lst xs))
theorem aOk{P:Program}{w:World}{K:PySem.W.Frag}{mg mb:Str->Option Value}{CX:CXT}{k:Nat}{fa a:Addr}{fd:FuncData}{x:Str}{sp:Sp}{s₁:Shared}{vs:List Value}{ns:List Int}
  (KX:K.In s₁.heap) (hns:s₁.heap.Ns mainGlobals mg) (hb:s₁.heap.Ns builtinsNs mb) (hbb:∀ x:Str,x ≠ "__name__" -> mb x=bootBuiltins x) (hlim:s₁.heap.NoLimit) (hg:s₁.gens = #[])
  (ha:s₁.heap.get? a=some { cls := .type "list", data := .seq vs.toArray }) (hi:IntsAre vs ns) (hl:ns.length<=sizeLine) (hr:Room k callerA)
  (F:∀ base:Heap,K.In base->base.Ns mainGlobals mg->FnOk P w K mg base CX k fa fd [x] sp) (hbind:∀ (s:Shared) (u:Value),BindsTo s fd ⟨[u],[]⟩ [(x,u)])
  (hsp:∀ H:Hp,Only H->SqL K H a (ns.map V.int)->sp [.ref a] H (fun v _=>v = .bl true) fun _ _ _=>False)
  (hCX:∀ H e s',CX [] H s₁ (fun _ _ _=>False) e s'->False) :
  codeAny (model P w) callerA (.call (.ref fa) ⟨[.ref a],[]⟩) (fun r s'=>r = .ok (.ret (.bool true))/\OldK s₁.heap s'.heap/\s'.os=s₁.os/\AllBare s'.gens) s₁:=by
 have rv:=vals_ints hi
 have lenV:=hi.length
 have core:∀ H:Hp,Only H->SqL K H a (ns.map V.int)->HOk P w H s₁.heap->(∀ b,H b≠none->b=a)->(H a≠none->K.lookup a=none) ->
   codeAny (model P w) callerA (.call (.ref fa) ⟨[.ref a],[]⟩) (fun r s'=>r = .ok (.ret (.bool true))/\OldK s₁.heap s'.heap/\s'.os=s₁.os/\AllBare s'.gens) s₁:=by
  intro H hO hS hok hA hK
  have base_of:∀ {b:Addr} {o:Obj},s₁.heap.get? b=some o->H b=none->(aF1 s₁.heap H).get? b=some o:=fun e n=>aO2 e n
  have noA:∀ {b:Addr} {o:Obj} {es:Array DictEntry} {ep:Nat},s₁.heap.get? b=some o->o.data = .dict es ep->H b=none:=fun {b o es ep} e d=>by
   cases q:H b with
   | none=>rfl
   | some u =>
    have e':b=a:=hA b (by rw [q];simp)
    subst e'
    rw [ha] at e;cases e
    have d':Data.seq vs.toArray _=Data.dict es ep:=d
    cases d'
  have nsK:∀ {b:Addr} {m:Str->Option Value},s₁.heap.Ns b m->(aF1 s₁.heap H).Ns b m:=fun {b m} ⟨o,es,ep,e,d,r⟩=>⟨o,es,ep,base_of e (noA e d),d,r⟩
  have hKb:K.In (aF1 s₁.heap H):=fun b o e=>base_of (KX b o e) (by
   cases q:H b with
   | none=>rfl
   | some u =>
    have e':b=a:=hA b (by rw [q];simp)
    subst e'
    rw [hK (by rw [q];simp)] at e;cases e)
  have hM:Mod K mg (aF1 s₁.heap H):=⟨hKb,nsK hns,⟨mb,nsK hb,hbb⟩,let ⟨mc,h1,h2⟩:=hlim;⟨mc,nsK h1,h2⟩⟩
  have e0:Env0 P w K mg (aF1 s₁.heap H) callerA [] s₁ H:=⟨rfl,hM,fun b o e=>aRa e,Nat.le_of_eq (aMf _ _),trivial,fun b hb=>absurd (show b∈([]:List Addr) from hb) (by simp),hok,.of_eq hg⟩
  refine codeAny_mono ((F _ hKb (nsK hns)).run callerA [] s₁ H ⟨[.ref a],[]⟩ [.ref a] [.ref a] _ _ hr e0 (hbind s₁ (.ref a)) (.cons rfl .nil) (hsp H hO hS)) fun r s' h=>?_
  cases r with
  | error e=>exact (hCX H e s' h).elim
  | ok fl =>
   cases fl with
   | next=>exact False.elim h
   | brk=>exact False.elim h
   | cont=>exact False.elim h
   | ret u =>
    obtain ⟨v,H',os,bare,un,hok',r',q⟩:=h
    have q':v = .bl true:=q
    subst q'
    obtain rfl:u=Value.bool true:=r'
    refine ⟨rfl,OldK.of_keep fun b o e=>?_,os,bare⟩
    cases q:H b with
    | none=>exact un.keep b o e q (by intro z;exact absurd (show b∈([]:List Addr) from z) (by simp)) (by simp)
    | some u =>
     rcases hO b with z | ⟨ob,xs,z⟩
     ·rw [q] at z;cases z
     ·have z2:=un.frzs b ob _ z
      obtain ⟨e1,_⟩:=hok b _ z
      obtain ⟨e2,_⟩:=hok' b _ z2
      rw [e] at e1;cases e1
      exact e2
 cases hk:K.lookup a with
 | some o =>
  have e:=KX a o hk
  rw [ha] at e
  cases e
  refine core (fun _=>none) (fun _ => .inl rfl) (.inr ⟨_,vs.toArray,_,hk,rfl,rfl,rfl,by rw [List.size_toArray,lenV];exact hl,by simpa using rv⟩) (fun b u z=>by have z':(none:Option HO)=some u:=z;cases z') (fun b z=>absurd rfl z) fun z=>absurd rfl z
 | none =>
  refine core (fun b=>if b=a then some (.frz { cls := .type "list", data := .seq vs.toArray } (.lst (ns.map V.int))) else none) (fun b=>?_) (.inl (.inr ⟨{ cls := .type "list", data := .seq vs.toArray },if_pos rfl⟩)) (fun b u z=>?_) (fun b z=>?_) fun _=>hk
  ·by_cases hb:b=a
   ·exact .inr ⟨_,_,if_pos hb⟩
   ·exact .inl (if_neg hb)
  ·by_cases hb:b=a
   ·have z':=(if_pos hb).symm.trans z
    cases z'
    subst hb
    exact ⟨ha,by rw [List.length_map];exact hl,vs,_,rv,ha⟩
   ·have z':=(if_neg hb).symm.trans z
    cases z'
  ·by_cases hb:b=a
   ·exact hb
   ·exact absurd (if_neg hb) z
end L2
namespace L2
open PySem PySem.Spec PyProof.Rows
theorem walk_of{l:PySem.W.OpenLaw}{n k:Nat}{q:Program}{loose:List Str}{XP:(Str->Option Value)->Heap->Prop}{YP:World->Heap->Prop}{d:DefRec}{K:Params->PySem.W.Frag}{CX:World->CXT}{sp:World->Sp}{x:Str}
  (hn:l.most=some n) (hn2:n<=sizeLine) (hdf:d.params.defaults=[]) (hr:Room k callerA)
  (hY:∀ (w:World) (h:Heap),YP w h->(K w.params).In h)
  (F:∀ (w:World) (mg:Str->Option Value) (fa:Addr) (h:Heap),(K w.params).In h->h.Ns mainGlobals mg->mg d.name=some (.ref fa) ->
   ∃ fd:FuncData,(∀ (s:Shared) (u:Value),BindsTo s fd ⟨[u],[]⟩ [(x,u)]) /\
    ∀ base:Heap,(K w.params).In base->base.Ns mainGlobals mg->FnOk l.prog w (K w.params) mg base (CX w) k fa fd [x] (sp w))
  (hsp:∀ (w:World) (H:Hp) (a:Addr) (ns:List Int),ns.length<=n->Only H->SqL (K w.params) H a (ns.map V.int)->sp w [.ref a] H (fun v _=>v = .bl true) fun _ _ _=>False)
  (hCX:∀ (w:World) (H:Hp) (s:Shared) (e:Value) (s':Shared),CX w [] H s (fun _ _ _=>False) e s'->False) :
  PySem.W.WalkO q loose XP YP l.row.toRowW d [] (fun f vs=>PySem.call f vs):=by
 refine Att.attach_call hn hdf fun w s₀ s₁ mg mb fa o pm cd doc a vs ns G Y ho hd hcd hmg hobj hints hlen hg=>?_
 have KX:=hY w _ Y
 obtain ⟨fd,hb,hF⟩:=F w mg fa _ KX G.T.g hmg
 exact aOk KX G.T.g G.T.b G.T.builtins G.T.nolimit hg hobj hints (Nat.le_trans hlen hn2) hr hF hb (fun H hO hS=>hsp w H a ns hlen hO hS) fun H e s'=>hCX w H s₁ e s'
end L2
namespace L2
open PySem PySem.Spec PyProof.Rows
def bJ(s:Stmt):Arguments:=match s with
 | .FunctionDef _ a _ _ _ _ _ _ _ _=>a
 | _=>{ posonlyargs:=[],args:=[],vararg:=none,kwonlyargs:=[],kw_defaults:=[],kwarg:=none,defaults:=[] }
def bD(s:Stmt):List Stmt:=match s with
 | .FunctionDef _ _ b _ _ _ _ _ _ _=>b
 | _=>[]
def aF(s:Stmt):Scope:=match s with
 | .FunctionDef _ _ _ _ _ _ sc _ _ _=>sc
 | _=>{ kind := .function,names:=[],isGenerator:=false,isCoroutine:=false }
abbrev CX0:CXT:=fun _ _ _ _ _ _=>False
abbrev E0:XK:=fun _ _ _=>False
theorem aKo{X:Cx}:zN CX0 X E0:=fun _ _ _ _ _ _ _ h=>h.elim
structure Fun(K:PySem.W.Frag)(x qual:Str)(st:Stmt)(f:Addr)(fd:FuncData):Prop where
 ex:∃ (oc:Value) (od:Option Addr) (kV doc pm:Value) (an:Option Addr) (cdv ct:Value) (osl:Array (Option Value)),
  fd=PySem.W.fnOf x qual (bJ st) (bD st) (aF st) .none kV doc pm an cdv ct/\K.lookup f=some ⟨oc,od,.func fd,osl⟩/\PySem.W.codeIn K cdv qual=true
 kp:PySem.W.keepIn K (.ref f)=true
section
variable{P:Program}{w:World}{K:PySem.W.Frag}{mg:Str->Option Value}{base:Heap}
theorem Fun.ok{x qual:Str}{st:Stmt}{f:Addr}{fd:FuncData}{N ps:List Str}{k:Nat}{sp:Sp}(F:Fun K x qual st f fd)(S:FnScope N ps (aF st))(len:∀ vs H Q E,sp vs H Q E->vs.length=ps.length)
  (hbody:∀ (cdv:Value) (A:Around) (outer:List Env) (s:Shared) (H:Hp) (vs:List V) (Q:VK) (E:XK),Room k (A.deeper (envOfC qual (aF st) s.heap.objs.size f cdv))->sp vs H Q E ->
   ∃ t,PSs (zO CX0 P w K mg base N qual (aF st) f cdv A outer s H E).nox (bD st) t/\t { nx:=fun _ H'=>Q .non H',rt:=Q } (start N vs) H):FnOk P w K mg base CX0 (k+1) f fd ps sp:=by
 obtain ⟨oc,od,kV,doc,pm,an,cdv,ct,osl,rfl,lk,hcd⟩:=F.ex
 refine aOg lk hcd S len fun A outer s H vs Q E hr hsp=>?_
 obtain ⟨t,h,q⟩:=hbody cdv A outer s H vs Q E hr hsp
 exact ⟨t,h.nox,q⟩
theorem Fun.binds{x qual:Str}{st:Stmt}{f:Addr}{fd:FuncData}{ps:List Str}(F:Fun K x qual st f fd)
  (h:∀ (kV doc pm:Value) (an:Option Addr) (cdv ct:Value) (us:List Value),us.length=ps.length->bindArgs (PySem.W.fnOf x qual (bJ st) (bD st) (aF st) .none kV doc pm an cdv ct) ⟨us,[]⟩=pure (ps.zip us)):Binds K fd ps []:=by
 obtain ⟨oc,od,kV,doc,pm,an,cdv,ct,osl,rfl,lk,hcd⟩:=F.ex
 exact .all (h kV doc pm an cdv ct)
theorem aW0{x qual:Str}{st:Stmt}{f:Addr}{oc:Value}{od an:Option Addr}{osl:Array (Option Value)}{kV doc pm cdv ct:Value}(l:K.lookup f=some ⟨oc,od,.func (PySem.W.fnOf x qual (bJ st) (bD st) (aF st) .none kV doc pm an cdv ct),osl⟩)
  (c:PySem.W.codeIn K cdv qual=true) (k:PySem.W.keepIn K (.ref f)=true):Fun K x qual st f (PySem.W.fnOf x qual (bJ st) (bD st) (aF st) .none kV doc pm an cdv ct):=⟨⟨oc,od,kV,doc,pm,an,cdv,ct,osl,rfl,l,c⟩,k⟩
end
section
variable{X:Cx}
end
def bA(H H':Hp):Prop:=∀ b o,H b=some o->H' b=some o
theorem bA.refl(H:Hp):bA H H:=fun _ _ h=>h
theorem bA.trans{H H1 H2:Hp}(a:bA H H1)(b:bA H1 H2):bA H H2:=fun c o h=>b c o (a c o h)
theorem bA.seq{K:PySem.W.Frag}{H H':Hp}{a:Addr}{xs:List V}(e:bA H H')(h:SqL K H a xs):SqL K H' a xs:=by
 rcases h with (h | ⟨o,h⟩) | h
 ·exact .inl (.inl (e _ _ h))
 ·exact .inl (.inr ⟨o,e _ _ h⟩)
 ·exact .inr h
end L2
namespace L2
open PySem PySem.Spec PyProof.Rows
section
variable{κ:Type}[DecidableEq κ]
def xU(kvs:List (κ × V))(k:κ):Option V:=(kvs.find? fun kv=>decide (kv.1=k)).map (·.2)
def putK(kvs:List (κ × V))(k:κ)(v:V):List (κ × V) :=
 if (kvs.any fun kv=>decide (kv.1=k))=true then kvs.map (fun kv=>if kv.1=k then (kv.1,v) else kv) else kvs++[(k,v)]
theorem tY{p:κ × V}{r:List (κ × V)}{k:κ}(e:p.1=k):xU (p :: r) k=some p.2:=by simp [xU,List.find?_cons,e]
theorem tZ{p:κ × V}{r:List (κ × V)}{k:κ}(e:¬ p.1=k):xU (p :: r) k=xU r k:=by simp [xU,List.find?_cons,e]
theorem aGr(k:κ):∀ kvs:List (κ × V),(kvs.any fun kv=>decide (kv.1=k))=(xU kvs k).isSome
 | []=>rfl
 | p :: r=>by
  rw [List.any_cons]
  by_cases e:p.1=k
  ·simp only [tY e,decide_eq_true e,Bool.true_or,Option.isSome_some]
  ·rw [tZ e,decide_eq_false e,Bool.false_or];exact aGr k r
theorem uA(kvs:List (κ × V))(k:κ)(v:V):(putK kvs k v).length<=kvs.length+1:=by
 unfold putK
 split
 ·rw [List.length_map];omega
 ·rw [List.length_append,List.length_cons,List.length_nil];omega
theorem rH.isSome_eq{o:Option V}{u:Option Value}(r:rH o u):o.isSome=u.isSome:=by
 cases o with
 | none=>cases u with
  | none=>rfl
  | some _=>exact (show False from r).elim
 | some _=>cases u with
  | none=>exact (show False from r).elim
  | some _=>rfl
theorem rH.getD{o:Option V}{u:Option Value}{d:V}{d':Value}(r:rH o u)(rd:RelV d d'):RelV (o.getD d) (u.getD d'):=by
 cases o with
 | none=>cases u with
  | none=>exact rd
  | some _=>exact (show False from r).elim
 | some _=>cases u with
  | none=>exact (show False from r).elim
  | some _=>exact r
theorem KV.val{kvs:List (κ × V)}{vs:List (κ × Value)}(r:KV kvs vs)(k:κ):rH (xU kvs k) (valueAt vs k):=by
 unfold KV at r
 induction r with
 | nil=>exact True.intro
 | @cons p q ps qs h t ih =>
  obtain ⟨h1,h2⟩:=h
  by_cases e:p.1=k
  ·have e':q.1=k:=h1.symm.trans e
   have b:valueAt (q :: qs) k=some q.2:=by simp [valueAt,List.find?_cons,e']
   rw [tY e,b];exact h2
  ·have e':¬ q.1=k:=fun z=>e (h1.trans z)
   have b:valueAt (q :: qs) k=valueAt qs k:=by simp [valueAt,List.find?_cons,e']
   rw [tZ e,b];exact ih
theorem KV.any{kvs:List (κ × V)}{vs:List (κ × Value)}(r:KV kvs vs)(k:κ):(kvs.any fun kv=>decide (kv.1=k))=vs.any fun kv=>decide (kv.1=k):=by
 unfold KV at r
 induction r with
 | nil=>rfl
 | cons h t ih=>rw [List.any_cons,List.any_cons,ih,h.1]
theorem KV.repl{kvs:List (κ × V)}{vs:List (κ × Value)}(r:KV kvs vs)(k:κ){y:V}{u:Value}(ry:RelV y u) :
  KV (kvs.map fun kv=>if kv.1=k then (kv.1,y) else kv) (vs.map fun kv=>if kv.1=k then (kv.1,u) else kv):=by
 unfold KV at r ⊢
 induction r with
 | nil=>exact .nil
 | @cons p q ps qs h t ih =>
  rw [List.map_cons,List.map_cons]
  refine .cons ?_ ih
  obtain ⟨h1,h2⟩:=h
  by_cases e:p.1=k
  ·rw [if_pos e,if_pos (h1.symm.trans e)];exact ⟨h1,ry⟩
  ·rw [if_neg e,if_neg (fun z=>e (h1.trans z))];exact ⟨h1,h2⟩
theorem KV.put{kvs:List (κ × V)}{vs:List (κ × Value)}(r:KV kvs vs)(k:κ){y:V}{u:Value}(ry:RelV y u):KV (putK kvs k y) (stored vs k u):=by
 unfold putK stored
 rw [r.any k]
 by_cases e:(vs.any fun kv=>decide (kv.1=k))=true
 ·rw [if_pos e,if_pos e];exact r.repl k ry
 ·rw [if_neg e,if_neg e];exact Paired.snoc r ⟨rfl,ry⟩
theorem KV.length{kvs:List (κ × V)}{vs:List (κ × Value)}(r:KV kvs vs):kvs.length=vs.length:=Paired.length r
end
theorem aBm{P:Program}{w:World}{k:Key}{u:Value}(r:RelV (kV k) u):(dW P w).is k u=true:=by
 cases k with
 | inl i=>obtain ⟨t,e⟩:=(show ∃ t,u=Value.int i t from r);subst e;exact aGi P w i t
 | inr x=>obtain ⟨t,e⟩:=(show ∃ t,u=Value.str x t from r);subst e;exact aGj P w x t
theorem aDw{P:Program}{w:World}:∀ {ks:List Key} {us:List Value},Vals (ks.map kV) us->ItemsAre (dW P w) ks us
 | [],_,r=>by rw [List.map_nil] at r;cases r;exact .nil
 | k :: ks,_,r=>by
  rw [List.map_cons] at r
  cases r with
  | cons h t=>exact .cons (aBm h) (aDw t)
abbrev KT(H:Hp):List (List Key × V)->List (List Key × Addr × Value)->Prop:=Paired fun p q=>p.1=q.1/\H q.2.1=some (.tup (p.1.map kV))/\RelV p.2 q.2.2
theorem KT.val{H:Hp}{kvs:List (List Key × V)}{xs:List (List Key × Addr × Value)}(r:KT H kvs xs)(k:List Key):rH (xU kvs k) ((atKey xs k).map (·.2)):=by
 induction r with
 | nil=>exact True.intro
 | @cons p q ps qs h t ih =>
  obtain ⟨h1,_,h2⟩:=h
  by_cases e:p.1=k
  ·have e':q.1=k:=h1.symm.trans e
   have b:atKey (q :: qs) k=some q.2:=by simp [atKey,List.find?_cons,e']
   rw [tY e,b];exact h2
  ·have e':¬ q.1=k:=fun z=>e (h1.trans z)
   have b:atKey (q :: qs) k=atKey qs k:=by simp [atKey,List.find?_cons,e']
   rw [tZ e,b];exact ih
theorem KT.repl{H:Hp}{kvs:List (List Key × V)}{xs:List (List Key × Addr × Value)}(r:KT H kvs xs)(k:List Key){y:V}{u:Value}(ry:RelV y u) :
  KT H (kvs.map fun kv=>if kv.1=k then (kv.1,y) else kv) (xs.map (putAt k u)):=by
 induction r with
 | nil=>exact .nil
 | @cons p q ps qs h t ih =>
  rw [List.map_cons,List.map_cons]
  refine .cons ?_ ih
  obtain ⟨h1,h2,h3⟩:=h
  unfold putAt
  by_cases e:p.1=k
  ·rw [if_pos e,if_pos (h1.symm.trans e)];exact ⟨h1,h2,ry⟩
  ·rw [if_neg e,if_neg (fun z=>e (h1.trans z))];exact ⟨h1,h2,h3⟩
theorem KT.put{H:Hp}{kvs:List (List Key × V)}{xs:List (List Key × Addr × Value)}(r:KT H kvs xs)(k:List Key){b:Addr}{y:V}{u:Value}(hb:H b=some (.tup (k.map kV)))(ry:RelV y u) :
  KT H (putK kvs k y) (storedH xs k b u):=by
 have e:(kvs.any fun kv=>decide (kv.1=k))=(atKey xs k).isSome:=by
  rw [aGr,(r.val k).isSome_eq,Option.isSome_map]
 unfold putK storedH
 rw [e]
 by_cases q:(atKey xs k).isSome=true
 ·rw [if_pos q,if_pos q];exact r.repl k ry
 ·rw [if_neg q,if_neg q];exact Paired.snoc r ⟨rfl,hb,ry⟩
theorem KT.keeps{H H':Hp}{kvs:List (List Key × V)}{xs:List (List Key × Addr × Value)}(r:KT H kvs xs)(ht:∀ b ys,H b=some (.tup ys)->H' b=some (.tup ys)):KT H' kvs xs :=
 Paired.mapP r fun _ _ z=>⟨z.1,ht _ _ z.2.1,z.2.2⟩
section
variable{P:Program}{w:World}{H:Hp}{h:Heap}{a:Addr}
theorem aU0{u:HO}(ok:HOk P w H h)(e:Rd H a u):jD P w H h a u:=e.ok ok
theorem aAc{kvs:List (Key × V)}(ok:HOk P w H h)(e:Rd H a (.dK kvs)):kvs.length<=sizeLine/\(a==sysModules)=false/\∃ vs,KV kvs vs/\h.DictOf (dW P w) a vs :=
 show jD P w H h a (.dK kvs) from aU0 ok e
theorem aOl{kvs:List (Key × V)}(ok:HOk P w H h)(e:H a=some (.dK kvs)):kvs.length<=sizeLine/\(a==sysModules)=false/\∃ vs,KV kvs vs/\h.DictOf (dW P w) a vs:=aAc ok (.inl e)
theorem zP{ks:List Key}(ok:HOk P w H h)(e:H a=some (.tup (ks.map kV))):(tupleKind (dW P w)).is h ks a:=by
 obtain ⟨_,its,r,o,h1,h2,n,h3⟩:=(show jD P w H h a (.tup (ks.map kV)) from ok a _ e)
 exact ⟨o,its.toArray,n,h1,h2,h3,by simpa using aDw r⟩
theorem aBn{kvs:List (List Key × V)}(ok:HOk P w H h)(e:Rd H a (.dT kvs)):kvs.length<=sizeLine/\(a==sysModules)=false /\
  ∃ xs,KT H kvs xs/\h.DictOfH (tupleKind (dW P w)) a xs:=by
 obtain ⟨z,y,xs,r,o,es,ep,h1,h2,h3,h4,h5⟩:=(show jD P w H h a (.dT kvs) from aU0 ok e)
 refine ⟨z,y,xs,r,o,es,ep,h1,h2,h3,h4,fun x hx=>?_,h5⟩
 have all:∀ {l:List (List Key × V)} {m:List (List Key × Addr × Value)},KT H l m->∀ x∈m,(tupleKind (dW P w)).is h x.1 x.2.1:=by
  intro l m q
  induction q with
  | nil=>intro x hx;exact nomatch hx
  | @cons p q ps qs hq t ih =>
   intro x hx
   rcases List.mem_cons.mp hx with e | hx
   ·subst e
    exact zP ok (by rw [<-hq.1];exact hq.2.1)
   ·exact ih x hx
 exact all r x hx
theorem aZn{kvs:List (List Key × V)}(ok:HOk P w H h)(e:H a=some (.dT kvs)):kvs.length<=sizeLine/\(a==sysModules)=false /\
  ∃ xs,KT H kvs xs/\h.DictOfH (tupleKind (dW P w)) a xs:=aBn ok (.inl e)
end
def vM(H:Hp)(a:Addr)(y:V)(r:Option V):Prop :=
 (∃ kvs k,Rd H a (.dK kvs)/\y=kV k/\r=xU kvs k)\/∃ kvs k b,Rd H a (.dT kvs)/\y = .ref b/\H b=some (.tup (k.map kV))/\r=xU kvs k
def aFc(H:Hp)(a:Addr)(y v:V)(H':Hp):Prop :=
 (∃ kvs k,H a=some (.dK kvs)/\y=kV k/\kvs.length < sizeLine/\H'=upd H a (.dK (putK kvs k v))) \/
 ∃ kvs k b,H a=some (.dT kvs)/\y = .ref b/\H b=some (.tup (k.map kV))/\kvs.length < sizeLine/\H'=upd H a (.dT (putK kvs k v))
theorem vM.k{H:Hp}{a:Addr}{kvs:List (Key × V)}{k:Key}(e:H a=some (.dK kvs)):vM H a (kV k) (xU kvs k) := .inl ⟨kvs,k,.inl e,rfl,rfl⟩
theorem vM.t{H:Hp}{a b:Addr}{kvs:List (List Key × V)}{k:List Key}(e:H a=some (.dT kvs))(eb:H b=some (.tup (k.map kV))):vM H a (.ref b) (xU kvs k) := .inr ⟨kvs,k,b,.inl e,rfl,eb,rfl⟩
theorem aFc.k{H:Hp}{a:Addr}{kvs:List (Key × V)}{k:Key}{v:V}(e:H a=some (.dK kvs))(hl:kvs.length < sizeLine):aFc H a (kV k) v (upd H a (.dK (putK kvs k v))) := .inl ⟨kvs,k,e,rfl,hl,rfl⟩
theorem aFc.t{H:Hp}{a b:Addr}{kvs:List (List Key × V)}{k:List Key}{v:V}(e:H a=some (.dT kvs))(eb:H b=some (.tup (k.map kV)))(hl:kvs.length < sizeLine) :
  aFc H a (.ref b) v (upd H a (.dT (putK kvs k v))) := .inr ⟨kvs,k,b,e,rfl,eb,hl,rfl⟩
section
variable{X:Cx}{pins:List (Addr × Obj)}{σ:St}{H:Hp}{s:Shared}{a:Addr}{y v:V}{u r:Value}{o:Option V}{A:Around}{E:Value->Shared->Prop}
theorem Inv.big(I:Inv X pins σ H s):sysModules < s.heap.objs.size:=by
 have h:mainGlobals < s.heap.objs.size:=(I.mod.glob.keeps I.bk).lt
 exact Nat.lt_trans (by decide) h
theorem aMt{Q:Value->Shared->Prop}(hu:A.units+1 < cLine)(I:Inv X pins σ H s)(g:vM H a y (some v))(ry:RelV y u)(h:∀ w' s',Inv X pins σ H s'->RelV v w'->Q w' s') :
  wpAny (model X.prog X.w) A (getItem (.ref a) u) Q E s:=by
 rcases g with ⟨kvs,k,e,ey,l⟩ | ⟨kvs,k,b,e,ey,eb,l⟩
 ·subst ey
  obtain ⟨z,hd,vs,rel,dd⟩:=aAc I.hok e
  obtain ⟨w',hw,rw'⟩:=rH.some_of (v:=v) (o:=valueAt vs k) (by rw [l];exact rel.val k)
  exact wpAny_getItem_of (aBm ry) dd.mapOf hw (h w' _ (I.tok _) rw')
 ·subst ey
  cases (show u=Value.ref b from ry)
  obtain ⟨z,hd,xs,rel,dd⟩:=aBn I.hok e
  obtain ⟨w',hw,rw'⟩:=rH.some_of (v:=v) (o:=(atKey xs k).map (·.2)) (by rw [l];exact rel.val k)
  obtain ⟨p,hp,hp2⟩:=Option.map_eq_some_iff.mp hw
  refine wpAny_getItem_heap (tupleKind_room_in1 hu) (zP I.hok eb) dd hp ?_
  rw [hp2]
  exact h w' _ (I.tok _) rw'
theorem bD9{Q:Value->Shared->Prop}(hu:A.units+1 < cLine)(I:Inv X pins σ H s)(g:vM H a y o)(ry:RelV y u)(h:∀ s',Inv X pins σ H s'->Q (.bool o.isSome) s') :
  wpAny (model X.prog X.w) A (compareOp .In u (.ref a)) Q E s:=by
 rcases g with ⟨kvs,k,e,ey,l⟩ | ⟨kvs,k,b,e,ey,eb,l⟩
 ·subst ey
  obtain ⟨z,hd,vs,rel,dd⟩:=aAc I.hok e
  refine wpAny_in_of (aBm ry) hd dd.mapOf ?_
  rw [<-(rel.val k).isSome_eq,<-l]
  exact h _ (I.tok _)
 ·subst ey
  cases (show u=Value.ref b from ry)
  obtain ⟨z,hd,xs,rel,dd⟩:=aBn I.hok e
  refine wpAny_in_heap (tupleKind_room_in1 hu) (zP I.hok eb) hd dd ?_
  have q:=(rel.val k).isSome_eq
  rw [Option.isSome_map] at q
  rw [<-q,<-l]
  exact h _ (I.tok _)
theorem aRv{Q:Value->Shared->Prop}(hu:A.units+1 < cLine)(I:Inv X pins σ H s)(g:vM H a y o)(ry:RelV y u)(h:∀ s',Inv X pins σ H s'->Q (.bool (!o.isSome)) s') :
  wpAny (model X.prog X.w) A (compareOp .NotIn u (.ref a)) Q E s:=by
 rcases g with ⟨kvs,k,e,ey,l⟩ | ⟨kvs,k,b,e,ey,eb,l⟩
 ·subst ey
  obtain ⟨z,hd,vs,rel,dd⟩:=aAc I.hok e
  refine wpAny_notIn_of (aBm ry) hd dd.mapOf ?_
  rw [<-(rel.val k).isSome_eq,<-l]
  exact h _ (I.tok _)
 ·subst ey
  cases (show u=Value.ref b from ry)
  obtain ⟨z,hd,xs,rel,dd⟩:=aBn I.hok e
  refine wpAny_notIn_heap (tupleKind_room_in1 hu) (zP I.hok eb) hd dd ?_
  have q:=(rel.val k).isSome_eq
  rw [Option.isSome_map] at q
  rw [<-q,<-l]
  exact h _ (I.tok _)
theorem aFd{h':Heap}{t':Nat}{ob:HO}(I:Inv X pins σ H s)(mu:Mut (H a))(hs:Heap.SameBut a s.heap h')(he:∃ q,h'.get? a=some q)(new:jD X.prog X.w (upd H a ob) h' a ob) :
  Inv X pins σ (upd H a ob) { s with heap:=h',toks:=t' } :=
 I.write (x:=a) (e:=a) mu (.inl rfl) (fun b q hb z=>(hs.2 b hb).trans z) he new
theorem aOm{P:Program}{w:World}{H':Hp}{h':Heap}{kvs:List (Key × V)}{vs:List (Key × Value)}(z:kvs.length<=sizeLine)(hd:(a==sysModules)=false)(rel:KV kvs vs)(dd:h'.DictOf (dW P w) a vs) :
  jD P w H' h' a (.dK kvs):=⟨z,hd,vs,rel,dd⟩
theorem aMu{H':Hp}{Q:Unit->Shared->Prop}(hu:A.units+1 < cLine)(I:Inv X pins σ H s)(g:aFc H a y v H')(ry:RelV y u)(rv:RelV v r)(h:∀ s',Inv X pins σ H' s'->Q () s') :
  wpAny (model X.prog X.w) A (setItem (.ref a) u r) Q E s:=by
 rcases g with ⟨kvs,k,e,ey,l,eH⟩ | ⟨kvs,k,b,e,ey,eb,l,eH⟩
 ·subst ey eH
  obtain ⟨z,hd,vs,rel,dd⟩:=aOl I.hok e
  have hz:vs.length<=sizeLine:=by rw [<-rel.length];exact z
  have hl:(putK kvs k v).length<=sizeLine:=by have:=uA kvs k v;omega
  refine wpAny_setItem_pairs (hsz:=hz) (aBm ry) dd fun h' dd' hs=>h _ ?_
  have he:∃ q,h'.get? a=some q:=let ⟨q,_,_,hq,_⟩:=dd';⟨q,hq⟩
  exact aFd I (by rw [e];exact True.intro) hs he (aOm hl hd (rel.put k rv) dd')
 ·subst ey eH
  cases (show u=Value.ref b from ry)
  obtain ⟨z,hd,xs,rel,dd⟩:=aZn I.hok e
  have hz:xs.length<=sizeLine:=by rw [<-Paired.length rel];exact z
  have hl:(putK kvs k v).length<=sizeLine:=by have:=uA kvs k v;omega
  refine wpAny_setItem_heap (hsz:=hz) (tupleKind_room_in1 hu) (zP I.hok eb) dd fun h' dd' hs=>h _ ?_
  obtain ⟨q,es,ep,hq,h2,h3,h4,_,h5⟩:=dd'
  refine aFd I (by rw [e];exact True.intro) hs ⟨q,hq⟩ ⟨hl,hd,_,(rel.put k eb rv).keeps fun c ys ec=>?_,q,es,ep,hq,h2,h3,h4,h5⟩
  rw [bW (aYx ec e (fun z=>nomatch z))]
  exact ec
end
section
variable{X:Cx}{pins:List (Addr × Obj)}{σ:St}{H:Hp}{s:Shared}{a:Addr}{kvs:List (Key × V)}{k:Key}{u:Value}{A:Around}{E:Value->Shared->Prop}
theorem aZo{Q:Value->Shared->Prop}(I:Inv X pins σ H s)(e:Rd H a (.dK kvs))(h:∀ t s',Inv X pins σ H s'->Q (.int kvs.length t) s'):wpAny (model X.prog X.w) A (call (.builtin "len") [.ref a]) Q E s:=by
 obtain ⟨z,hd,vs,rel,dd⟩:=aAc I.hok e
 refine call_len_dict hd dd (by rw [<-rel.length];rw [sizeLine_eq] at z;omega) ?_
 rw [<-rel.length]
 exact h _ _ (I.tok _)
end
theorem aGs{X:Cx}{pins:List (Addr × Obj)}{σ:St}{H:Hp}{s:Shared}{a:Addr}{y:V}{o:Option V}(I:Inv X pins σ H s)(g:vM H a y o):s.TypeIs (.ref a) "dict" := by
 rcases g with ⟨kvs,k,e,_,_⟩ | ⟨kvs,k,b,e,_,_,_⟩
 ·obtain ⟨_,_,vs,_,dd⟩:=aAc I.hok e
  exact dd.typeIs
 ·obtain ⟨_,_,xs,_,dd⟩:=aBn I.hok e
  exact dd.typeIs
def sDPut(td ty tv:TE):TS:=fun D σ H=>tv σ H fun v H1=>td σ H1 fun x H2=>ty σ H2 fun y H3=>∃ a H4,x = .ref a/\aFc H3 a y v H4/\D.nx σ H4
section
variable{X:Cx}{o i e value:Expr}{pos pos' tpos:Pos}{td ty tv:TE}
end
theorem aGt{P:Program}{w:World}{H:Hp}(h:Heap)(hb:sysModules < h.objs.size):jD P w H (h.push { cls := .type "dict", data := .dict #[] }) h.objs.size (.dK []) :=
 ⟨Nat.zero_le _,beq_eq_false_iff_ne.mpr (Ne.symm (Nat.ne_of_lt hb)),[],.nil,Heap.DictOf.new h⟩
def aW1:TE:=fun _ H Q=>∀ p,H p=none->Q (.ref p) (upd H p (.dK []))
section
variable{X:Cx}{pos:Pos}
theorem aOn:PE X (.Dict [] [] pos) aW1:=fun pins s σ H Q I h =>
 wpAny_Dict_empty ⟨.ref s.heap.objs.size,_,I.laid (a:=s.heap.objs.size) (o := .dK []) (t':=s.toks) (fun _ _ q=>Heap.get?_push_of_some _ q) (Nat.le_refl _) (aGt s.heap I.big),rfl,h _ (I.hok.fresh (Nat.le_refl _))⟩
end
def aJ1:List (TE × TE)->St->Hp->(List (V × V)->Hp->Prop)->Prop
 | [],_,H,Q=>Q [] H
 | (tk,tv) :: r,σ,H,Q=>tk σ H fun x H1=>tv σ H1 fun y H2=>aJ1 r σ H2 fun ps H3=>Q ((x,y) :: ps) H3
abbrev VV:List (V × V)->List (Value × Value)->Prop:=Paired fun p q=>RelV p.1 q.1/\RelV p.2 q.2
def PPs(X:Cx)(pos:Pos)(keys:List (Option Expr))(values:List Expr)(trs:List (TE × TE)):Prop :=
 ∀ (pins:List (Addr × Obj)) (s:Shared) (σ:St) (H:Hp) (Q:List (V × V)->Hp->Prop),Inv X pins σ H s->aJ1 trs σ H Q ->
  wpAny (model X.prog X.w) X.A (evalPairs (pairTrees keys values X.env pos)) (fun vs s'=>∃ ps H',Inv X pins σ H' s'/\VV ps vs/\Q ps H') X.xe s
theorem aRw{X:Cx}{pos:Pos}:PPs X pos [] [] []:=fun pins s σ H Q I h=>pairTrees_nil_walk ⟨[],H,I,.nil,h⟩
theorem aOo{X:Cx}{pos:Pos}{k v:Expr}{ks:List (Option Expr)}{vs:List Expr}{tk tv:TE}{trs:List (TE × TE)}(hk:PE X k tk)(hv:PE X v tv)(hr:PPs X pos ks vs trs) :
  PPs X pos (some k :: ks) (v :: vs) ((tk,tv) :: trs):=fun pins s σ H Q I h =>
 pairTrees_cons_walk (thn (hk pins s σ H _ I h) fun u s1 ⟨x,H1,I1,rx,q1⟩=>thn (hv pins s1 σ H1 _ I1 q1) fun w2 s2 ⟨y,H2,I2,ry,q2⟩ =>
  thn (hr pins s2 σ H2 _ I2 q2) fun ws s3 ⟨ps,H3,I3,rel,q3⟩=>⟨(x,y) :: ps,H3,I3,.cons ⟨rx,ry⟩ rel,q3⟩)
def zQ(kvs more:List (Key × V)):List (Key × V):=more.foldl (fun acc kv=>putK acc kv.1 kv.2) kvs
theorem KV.merge:∀ {more:List (Key × V)} {rs:List (Key × Value)} {kvs:List (Key × V)} {vs:List (Key × Value)},KV more rs->KV kvs vs->KV (zQ kvs more) (merged vs rs):=by
 intro more rs kvs vs r
 unfold KV at r
 induction r generalizing kvs vs with
 | nil=>intro q;exact q
 | @cons p q ps qs h t ih =>
  intro r0
  have e:KV (putK kvs p.1 p.2) (stored vs q.1 q.2):=by
   have:=r0.put p.1 h.2
   rw [<-h.1];exact this
  exact ih e
theorem vO:∀ (more kvs:List (Key × V)),(zQ kvs more).length<=kvs.length+more.length
 | [],kvs=>by show kvs.length<=kvs.length+0;omega
 | p :: r,kvs=>by
  have h1:=vO r (putK kvs p.1 p.2)
  have h2:=uA kvs p.1 p.2
  show (zQ (putK kvs p.1 p.2) r).length<=_
  rw [List.length_cons];omega
theorem aBo{P:Program}{w:World}:∀ {kvs:List (Key × V)} {ws:List (Value × Value)},VV (kvs.map fun kv=>(kV kv.1,kv.2)) ws->∃ rs,Carries (dW P w) ws rs/\KV kvs rs
 | [],_,r=>by rw [List.map_nil] at r;cases r;exact ⟨[],True.intro,.nil⟩
 | p :: kvs,_,r=>by
  rw [List.map_cons] at r
  cases r with
  | @cons a b as bs h t =>
   obtain ⟨rs,c,q⟩:=aBo (P:=P) (w:=w) t
   obtain ⟨b1,b2⟩:=b
   exact ⟨(p.1,b2) :: rs,⟨aBm h.1,rfl,c⟩,.cons ⟨rfl,h.2⟩ q⟩
def aZp(trs:List (TE × TE)):TE:=fun σ H Q=>∀ p,H p=none->aJ1 trs σ (upd H p (.dK [])) fun ps H2=>H2 p=some (.dK [])/\∃ kvs:List (Key × V),ps=kvs.map (fun kv=>(kV kv.1,kv.2))/\kvs.length<=15/\Q (.ref p) (upd H2 p (.dK (zQ [] kvs)))
theorem aRx{X:Cx}{pos:Pos}{keys:List (Option Expr)}{values:List Expr}{trs:List (TE × TE)}(h:PPs X pos keys values trs)(hall:keys.all (·.isSome)=true)(hl:keys.length=values.length)(h0:keys≠[])
  (h15:keys.length<=15):PE X (.Dict keys values pos) (aZp trs):=by
 intro pins s σ H Q I q
 have hn:=I.hok.fresh (Nat.le_refl s.heap.objs.size)
 have I1:=I.laid (a:=s.heap.objs.size) (o := .dK []) (h':=s.heap.push { cls := .type "dict", data := .dict #[] }) (t':=s.toks) (fun _ _ q=>Heap.get?_push_of_some _ q) (Nat.le_refl _) (aGt s.heap I.big)
 refine wpAny_Dict_walk (knd:=dW X.prog X.w) hall hl h0 h15 (thn (h pins _ σ _ _ I1 (q _ hn)) fun ws s2 ⟨ps,H2,I2,rel,e,kvs,ep,lk,q2⟩=>?_)
 subst ep
 obtain ⟨rs,c,rk⟩:=aBo (P:=X.prog) (w:=X.w) rel
 obtain ⟨z,hd,vs0,r0,dd⟩:=aOl I2.hok e
 cases r0
 refine ⟨rs,c,dd,fun h' dd' hs=>⟨.ref s.heap.objs.size,_,?_,rfl,q2⟩⟩
 have hz:(zQ [] kvs).length<=sizeLine:=by
  have h1:=vO kvs []
  rw [List.length_nil] at h1
  rw [sizeLine_eq];omega
 have he:∃ q,h'.get? s.heap.objs.size=some q:=let ⟨q,_,_,hq,_⟩:=dd';⟨q,hq⟩
 exact aFd I2 (by rw [e];exact True.intro) hs he (aOm hz hd (rk.merge .nil) dd')
structure M1(X:Cx)(o:Expr)(m:Str)(apos:Pos)(e:Expr)(cpos:Pos):Prop where
 base:attributeBase o m X.env (eval o X.env)=eval o X.env
 few:((backTo cpos (starEach [e] X.env)).all (fun x => !x.1)&&(backToKw cpos (keywordEach [] X.env)).all (fun x=>x.1.isSome)
  && decide (([e]:List Expr).length+([]:List Keyword).length+(if ([]:List Keyword).isEmpty then 0 else 1) < 30))=true
 line:(apos.endLine==cpos.line)=true
 trees:backTo cpos (starEach [e] X.env)=[(false,eval e X.env)]
def IsD(H:Hp)(a:Addr):Prop:=(∃ kvs,Rd H a (.dK kvs))\/∃ kvs,Rd H a (.dT kvs)
theorem aW2{X:Cx}{pins:List (Addr × Obj)}{σ:St}{H:Hp}{s:Shared}{a:Addr}(I:Inv X pins σ H s)(d:IsD H a) :
  s.TypeIs (.ref a) "dict" /\ (∀ b,Value.ref a = .ref b->∃ ob,s.heap.get? b=some ob/\ob.dict=none)/\(a==sysModules)=false:=by
 rcases d with ⟨kvs,e⟩ | ⟨kvs,e⟩
 ·obtain ⟨_,hd,vs,_,dd⟩:=aAc I.hok e
  refine ⟨dd.typeIs,fun b q=>?_,hd⟩
  cases q
  obtain ⟨ob,_,_,h1,h2,_⟩:=dd
  exact ⟨ob,h1,h2.2.1⟩
 ·obtain ⟨_,hd,xs,_,dd⟩:=aBn I.hok e
  refine ⟨dd.typeIs,fun b q=>?_,hd⟩
  cases q
  obtain ⟨ob,_,_,h1,h2,_⟩:=dd
  exact ⟨ob,h1,h2.2.1⟩
section
variable{X:Cx}{pins:List (Addr × Obj)}{σ:St}{H:Hp}{s:Shared}{a:Addr}{y d:V}{u r:Value}{o:Option V}{A:Around}{E:Value->Shared->Prop}
theorem aW3{Q:Value->Shared->Prop}(hu:A.units+1 < cLine)(I:Inv X pins σ H s)(g:vM H a y o)(ry:RelV y u)(h:∀ w' s',Inv X pins σ H s'->RelV (o.getD .non) w'->Q w' s') :
  wpAny (model X.prog X.w) A (call (.builtin "dict.get") [.ref a,u]) Q E s:=by
 rcases g with ⟨kvs,k,e,ey,l⟩ | ⟨kvs,k,b,e,ey,eb,l⟩
 ·subst ey
  obtain ⟨z,hd,vs,rel,dd⟩:=aAc I.hok e
  refine call_meetsIn PySem.F.slot_dict_get dd.typeIs PySem.F.entry_dict_get (PySem.F.args_dict_get_2 _ _) (meets_dict_get (dW X.prog X.w) a (aBm ry) hd) ⟨_,dd.mapOf,h _ _ (I.tok _) ?_⟩
  rw [l]
  exact (rel.val k).getD rfl
 ·subst ey
  cases (show u=Value.ref b from ry)
  obtain ⟨z,hd,xs,rel,dd⟩:=aBn I.hok e
  refine call_meetsIn PySem.F.slot_dict_get dd.typeIs PySem.F.entry_dict_get (PySem.F.args_dict_get_2 _ _) (meetsH_dict_get (tupleKind (dW X.prog X.w)) a b hd) ⟨tupleKind_room_in1 hu,k,xs,zP I.hok eb,dd,h _ _ (I.tok _) ?_⟩
  rw [l]
  exact (rel.val k).getD rfl
end
def aW4(td ty:TE):TE:=fun σ H Q=>td σ H fun x H1=>∃ a,x = .ref a/\IsD H1 a/\ty σ H1 fun y H2=>∃ o,vM H2 a y o/\Q (o.getD .non) H2
section
variable{X:Cx}{o e f:Expr}{apos cpos:Pos}{td ty tx:TE}
theorem aOp(hu:X.A.units+1 < cLine)(ho:PE X o td)(he:PE X e ty)(m:M1 X o "get" apos e cpos):PE X (.Call (.Attribute o "get" apos) [e] [] cpos) (aW4 td ty):=by
 intro pins s σ H Q I h
 refine wpAny_Call_method m.base m.few m.line PySem.F.plainAttrs_dict PySem.F.slot_dict_get PySem.F.type_dict_get (thn (ho pins s σ H _ I h) fun u s1 ⟨x,H1,I1,rx,a,ex,d,q1⟩=>?_)
 subst ex
 obtain rfl:u=Value.ref a:=rx
 obtain ⟨t1,t2,_⟩:=aW2 I1 d
 refine ⟨t1,t2,?_⟩
 rw [m.trees]
 refine Calls.callWith_builtin rfl (Calls.evalArgs_plain (Calls.spliced_cons (thn (he pins s1 σ H1 _ I1 q1) fun iv s2 ⟨y,H2,I2,ry,ov,g,q2⟩=>Calls.spliced_nil ?_)))
 exact aW3 hu I2 g ry fun w' s3 I3 rw'=>⟨_,H2,I3,rw',q2⟩
end
section
variable{X:Cx}{pins:List (Addr × Obj)}{σ:St}{H:Hp}{s:Shared}{a:Addr}{kvs:List (Key × V)}{A:Around}{E:Value->Shared->Prop}
end
section
variable{X:Cx}{pins:List (Addr × Obj)}{σ:St}{H:Hp}{s:Shared}{a:Addr}{y:V}{u:Value}{A:Around}{E:Value->Shared->Prop}
end
end L2
set_option maxHeartbeats 1000000
namespace Pu
inductive D where
 | non | bl (b:Bool) | int (i:Int) | str (s:List Nat) | tup (xs:List D) | lst (xs:List D)
 | dct (t:Bool) (ks vs:List D)
 | ins (c:String) (ns:List String) (xs:List D)
 | exn (c:String) (ns:List String) (xs:List D)
 | fn (f:String)
inductive R (α:Type) where
 | ok (a:α) | exc (x:D) | bad
@[inline] def R.bind{α β:Type}(r:R α)(f:α->R β):R β:=match r with
 | .ok a=>f a
 | .exc x => .exc x
 | .bad => .bad
theorem R.ok_of{α β:Type}{r:R α}{f:α->R β}{b:β}(h:r.bind f = .ok b):∃ a,r = .ok a/\f a = .ok b:=by
 cases r with
 | ok a=>exact ⟨a,rfl,h⟩
 | exc x=>exact nomatch h
 | bad=>exact nomatch h
noncomputable section
open Classical in
def aH{α:Type}(c:Prop)(r:R α):R α:=if c then r else .bad
theorem aG{α:Type}{c:Prop}{r:R α}(h:c):aH c r=r:=if_pos h
theorem aJ{α:Type}{c:Prop}{r:R α}{a:α}(h:aH c r = .ok a):c/\r = .ok a:=by
 unfold aH at h
 split at h
 ·exact ⟨by assumption,h⟩
 ·exact nomatch h
inductive OK where
 | l | d (t:Bool) (ks:List D) | i (n:Nat) (c:String) (ns:List String)
def ofK:OK->List D->D
 | .l,xs => .lst xs
 | .d t ks,xs => .dct t ks xs
 | .i _ c ns,xs => .ins c ns xs
inductive Sl where
 | v (d:D) | o (k:OK) (xs:List D)
abbrev PSt:=List (Option Sl)
abbrev Ex:=PSt->R D
inductive Fl where
 | nx (st:PSt) | rt (d:D) | bk (st:PSt) | ct (st:PSt)
abbrev Bd:=PSt->R Fl
@[irreducible] def big:Nat:=10000000
theorem nJ:big=10000000:=by unfold big;rfl
theorem aQ{n:Nat}(h:n<=10000000):n<=big:=by rw [nJ];exact h
theorem bC{n:Nat}(h:n < 10000000):n < big:=by rw [nJ];exact h
theorem aO{n:Int}(h:n<=10000000):n<=(big:Int):=by rw [nJ];exact h
theorem aP{n:Int}(h : -10000000<=n) : -(big:Int)<=n:=by rw [nJ];exact h
def sIx(n d:Nat):Option Int->Nat
 | none=>d
 | some v=>if v < 0 then (v+(n:Int)).toNat else min v.toNat n
def ixN(n:Nat)(i:Int):Option Nat:=if 0<=i then (if i < n then some i.toNat else none) else if -(n:Int)<=i then some (i+n).toNat else none
def atI{α:Type}(xs:List α)(i:Int):Option α:=(ixN xs.length i).bind fun j=>xs[j]?
def cut{α:Type}(xs:List α)(lo hi:Option Int):List α:=(xs.drop (sIx xs.length 0 lo)).take (sIx xs.length xs.length hi - sIx xs.length 0 lo)
def ofO{α:Type}:Option α->R α
 | some a => .ok a
 | none => .bad
abbrev Op2:=D->D->R D
def kZ:Op2
 | .int i,.int j => .ok (.int (i+j))
 | .str x,.str y=>aH (x.length+y.length<=big) (.ok (.str (x++y)))
 | .lst x,.lst y=>aH (x.length+y.length<=big) (.ok (.lst (x++y)))
 | _,_ => .bad
def aMv:Op2
 | .int i,.int j => .ok (.int (i - j))
 | _,_ => .bad
def xV:Op2
 | .int i,.int j=>aH (0 < j/\j < 1073741824) (.ok (.int (i / j)))
 | _,_ => .bad
def nY:Op2
 | .int i,.int j=>aH (0 < j) (.ok (.int (i % j)))
 | _,_ => .bad
def aOq:Op2
 | .int i,.int j=>aH (0<=j/\j<=1000000/\i.natAbs < 18446744073709551616) (.ok (.int (i ^ j.toNat)))
 | _,_ => .bad
def aB1:D->R D
 | .int i => .ok (.int (-i))
 | _ => .bad
def aOr:D->Bool
 | .int _=>true
 | .str _=>true
 | _=>false
def keyOk(t:Bool)(d:D):Bool:=match d with
 | .int _ => !t
 | .str _ => !t
 | .tup xs=>t&&xs.all aOr
 | _=>false
mutual
def eqK:D->D->Bool
 | .int i,.int j=>i==j
 | .str x,.str y=>x==y
 | .tup x,.tup y=>aJ2 x y
 | _,_=>false
def aJ2:List D->List D->Bool
 | [],[]=>true
 | a :: x,b :: y=>eqK a b&&aJ2 x y
 | _,_=>false
end
def pA(ks vs:List D)(k:D):Option D:=((ks.zip vs).find? fun p=>eqK p.1 k).map (·.2)
def lO(ks:List D)(k:D):Bool:=ks.any fun x=>eqK x k
def lA(ks:List D)(k:D):List D:=if lO ks k=true then ks else ks++[k]
def oR(ks vs:List D)(k v:D):List D:=if lO ks k=true then (ks.zip vs).map (fun p=>if eqK p.1 k=true then v else p.2) else vs++[v]
def dIx:Op2
 | .dct t ks vs,k=>aH (keyOk t k=true) (ofO (pA ks vs k))
 | .lst x,.int i=>ofO (atI x i)
 | .tup x,.int i=>ofO (atI x i)
 | .str x,.int i=>aH (x.length<=big) (ofO ((atI x i).map fun c => .str [c]))
 | _,_ => .bad
mutual
def eqD:D->D->Bool
 | .non,.non=>true
 | .bl a,.bl b=>a==b
 | .bl a,.int j=>(if a then (1:Int) else 0)==j
 | .int i,.bl b=>i==(if b then (1:Int) else 0)
 | .int i,.int j=>i==j
 | .str x,.str y=>x==y
 | .tup x,.tup y=>eU x y
 | .lst x,.lst y=>eU x y
 | _,_=>false
def eU:List D->List D->Bool
 | [],[]=>true
 | a :: x,b :: y=>eqD a b&&eU x y
 | _,_=>false
end
mutual
def dep:D->Nat
 | .tup x=>dX x+1
 | .lst x=>dX x+1
 | .non=>0
 | .bl _=>0
 | .int _=>0
 | .str _=>0
 | .dct _ _ _=>0
 | .ins _ _ _=>0
 | .exn _ _ _=>0
 | .fn _=>0
def dX:List D->Nat
 | []=>0
 | a :: x=>max (dep a) (dX x)
end
mutual
def plain:D->Bool
 | .tup x=>dC x
 | .lst x=>dC x
 | .non=>true
 | .bl _=>true
 | .int _=>true
 | .str _=>true
 | .dct _ _ _=>false
 | .ins _ _ _=>false
 | .exn _ _ _=>false
 | .fn _=>false
def dC:List D->Bool
 | []=>true
 | a :: x=>plain a&&dC x
end
def dEq:Op2:=fun a b=>aH (dep a<=64/\plain a=true/\plain b=true) (.ok (.bl (eqD a b)))
def dNe:Op2:=fun a b=>aH (dep a<=64/\plain a=true/\plain b=true) (.ok (.bl (!eqD a b)))
def dLe:Op2
 | .int i,.int j => .ok (.bl (decide (i<=j)))
 | _,_ => .bad
def dGt:Op2
 | .int i,.int j => .ok (.bl (decide (j < i)))
 | _,_ => .bad
def dGe:Op2
 | .int i,.int j => .ok (.bl (decide (j<=i)))
 | _,_ => .bad
def dR:D->R D
 | .dct false ks _ => .ok (.int ks.length)
 | .lst x => .ok (.int x.length)
 | .tup x => .ok (.int x.length)
 | .str x=>aH (x.length<=big) (.ok (.int x.length))
 | _ => .bad
def aBp:D->Bool
 | .ins _ _ _=>false
 | .exn _ _ _=>false
 | .fn _=>false
 | _=>true
def isN:D->Bool
 | .non=>true
 | _=>false
def aW5:D->Bool
 | .str _=>true
 | _=>false
def aW6:D->Bool
 | .bl _=>true
 | _=>false
def isIn:D->Bool
 | .bl _=>true
 | .int _=>true
 | _=>false
def aW7:D->Bool
 | .tup _=>true
 | _=>false
def aZq:D->Bool
 | .dct _ _ _=>true
 | _=>false
def aMw:D->Bool
 | .lst _=>true
 | _=>false
def gM(x y:List Nat)(lo:Nat):Option Nat:=(List.range' lo (x.length+1 - lo)).find? fun i=>decide (i+y.length<=x.length)&&((x.drop i).take y.length==y)
def pU:Option Nat->Int
 | some i=>i
 | none => -1
def pW(x y:List Nat):List Nat:=(((x.dropWhile fun c=>y.contains c).reverse).dropWhile fun c=>y.contains c).reverse
abbrev Mop:=D->List D->R D
def aDx:Mop
 | .str x,[.str y] => .ok (.int (pU (gM x y 0)))
 | .str x,[.str y,.int i]=>aH (0<=i) (.ok (.int (pU (gM x y i.toNat))))
 | _,_ => .bad
def uB:Mop
 | .str x,[.str y]=>(ofO (gM x y 0)).bind fun i => .ok (.int i)
 | _,_ => .bad
def aBq:Mop
 | .str x,[.str y]=>aH (x.length<=big) (.ok (.str (pW x y)))
 | _,_ => .bad
def inD(x:D)(ys:List D):Bool:=ys.any fun y=>eqD y x
def dIn:D->D->R D
 | k,.dct t ks _=>aH (keyOk t k=true) (.ok (.bl (lO ks k)))
 | x,.lst ys=>aH (dX ys<=60/\plain x=true/\dC ys=true) (.ok (.bl (inD x ys)))
 | x,.tup ys=>aH (dX ys<=60/\plain x=true/\dC ys=true) (.ok (.bl (inD x ys)))
 | .str x,.str y => .ok (.bl (gM y x 0).isSome)
 | _,_ => .bad
def jF:D->D->R D
 | k,.dct t ks _=>aH (keyOk t k=true) (.ok (.bl (!lO ks k)))
 | x,.lst ys=>aH (dX ys<=60/\plain x=true/\dC ys=true) (.ok (.bl (!inD x ys)))
 | x,.tup ys=>aH (dX ys<=60/\plain x=true/\dC ys=true) (.ok (.bl (!inD x ys)))
 | .str x,.str y => .ok (.bl (!(gM y x 0).isSome))
 | _,_ => .bad
def aB(i:Nat):Ex:=fun st=>match st[i]? with
 | some (some (.v d)) => .ok d
 | _ => .bad
def cZ(i:Nat):Ex:=fun st=>match st[i]? with
 | some (some (.v d)) => .ok d
 | some (some (.o k xs)) => .ok (ofK k xs)
 | _ => .bad
def eC(d:D):Ex:=fun _ => .ok d
def e2(op:Op2)(f g:Ex):Ex:=fun st=>(f st).bind fun x=>(g st).bind fun y=>op x y
def e1(op:D->R D)(f:Ex):Ex:=fun st=>(f st).bind op
def eB(p:D->Bool)(f:Ex):Ex:=fun st=>(f st).bind fun x=>aH (aBp x=true) (.ok (.bl (p x)))
def onB{α:Type}(d:D)(f:Bool->R α):R α:=match d with
 | .bl b=>f b
 | _ => .bad
theorem rK{α:Type}{d:D}{f:Bool->R α}{a:α}(h:onB d f = .ok a):∃ b,d = .bl b/\f b = .ok a:=by
 cases d<;>first | exact ⟨_,rfl,h⟩ | exact nomatch h
def pB(f g:Ex):Ex:=fun st=>(f st).bind fun x=>onB x fun b=>if b=true then g st else .ok (.bl false)
def eOr(f g:Ex):Ex:=fun st=>(f st).bind fun x=>onB x fun b=>if b=true then .ok (.bl true) else g st
def pX(f:Ex):Ex:=fun st=>(f st).bind fun x=>onB x fun b => .ok (.bl (!b))
abbrev Exs:=PSt->R (List D)
def aW:Exs:=fun _ => .ok []
def aC(f:Ex)(r:Exs):Exs:=fun st=>(f st).bind fun x=>(r st).bind fun xs => .ok (x :: xs)
def aJ3(r:Exs):Ex:=fun st=>(r st).bind fun xs=>aH (xs.length<=big) (.ok (.tup xs))
def pY(r:Exs):Ex:=fun st=>(r st).bind fun xs=>aH (xs.length<=big) (.ok (.lst xs))
def aX(p:List D->R D)(r:Exs):Ex:=fun st=>(r st).bind p
def eMt(m:Mop)(f:Ex)(r:Exs):Ex:=fun st=>(f st).bind fun x=>(r st).bind fun xs=>m x xs
def inI(d:D){α:Type}(f:Int->R α):R α:=match d with
 | .int i=>f i
 | _ => .bad
theorem aBr{α:Type}{d:D}{f:Int->R α}{a:α}(h:inI d f = .ok a):∃ i,d = .int i/\f i = .ok a:=by
 cases d<;>first | exact ⟨_,rfl,h⟩ | exact nomatch h
abbrev ExO:=PSt->R (Option Int)
def aDy:ExO:=fun _ => .ok none
def pF(f:Ex):ExO:=fun st=>(f st).bind fun x=>inI x fun i => .ok (some i)
def dSl(x:D)(lo hi:Option Int):R D:=match x with
 | .lst xs => .ok (.lst (cut xs lo hi))
 | .str xs=>aH (xs.length<=big) (.ok (.str (cut xs lo hi)))
 | _ => .bad
def eSl(f:Ex)(lo hi:ExO):Ex:=fun st=>(f st).bind fun x=>(lo st).bind fun l=>(hi st).bind fun h=>dSl x l h
abbrev ItE:=PSt->R (List D)
def itE(f:Ex):ItE:=fun st=>(f st).bind fun x=>match x with
 | .lst xs => .ok xs
 | .tup xs => .ok xs
 | .str xs=>aH (xs.length<=big) (.ok (xs.map fun c => .str [c]))
 | _ => .bad
def fL(lo:Int)(n:Nat):List D:=(List.range n).map fun (k:Nat) => .int (lo+(k:Int))
def tQ(f:Ex):ItE:=fun st=>(f st).bind fun x=>inI x fun j=>aH (-(big:Int)<=j/\j<=(big:Int)) (.ok (fL 0 j.toNat))
def aRy(f g:Ex):ItE:=fun st=>(f st).bind fun x=>(g st).bind fun y=>inI x fun i=>inI y fun j=>aH (-(big:Int)<=i/\i<=(big:Int) /\ -(big:Int)<=j/\j<=(big:Int)) (.ok (fL i (j - i).toNat))
abbrev Tg:=D->PSt->R PSt
def tgN(i:Nat):Tg:=fun d st => .ok (st.set i (some (.v d)))
def pZ:List Nat->List D->PSt->R PSt
 | [],[],st => .ok st
 | i :: is,d :: ds,st=>pZ is ds (st.set i (some (.v d)))
 | _,_,_ => .bad
def tgT(is:List Nat):Tg:=fun d st=>match d with
 | .tup xs=>pZ is xs st
 | .lst xs=>pZ is xs st
 | _ => .bad
def nP(tg:Tg)(c f:Ex)(st:PSt):List D->R (List D)
 | [] => .ok []
 | d :: ds=>(tg d st).bind fun s1=>(c s1).bind fun x=>onB x fun b=>if b=true then (f s1).bind fun y=>(nP tg c f st ds).bind fun ys => .ok (y :: ys) else nP tg c f st ds
def clr(is:List Nat)(st:PSt):PSt:=is.foldl (fun s i=>s.set i none) st
def dU(is:List Nat)(tg:Tg)(it:ItE)(c f:Ex):Ex:=fun st=>(it st).bind fun xs=>aH (xs.length<=big) ((nP tg c f (clr is st) xs).bind fun ys => .ok (.lst ys))
def fH:Ex:=fun _ => .ok (.bl true)
def aDg(r:R Fl)(f:PSt->R Fl):R Fl:=r.bind fun x=>match x with
 | .nx st=>f st
 | .rt d => .ok (.rt d)
 | .bk st => .ok (.bk st)
 | .ct st => .ok (.ct st)
def dN:Bd:=fun st => .ok (.nx st)
def bU(a b:Bd):Bd:=fun st=>aDg (a st) b
def eF(i:Nat)(f:Ex):Bd:=fun st=>(f st).bind fun d => .ok (.nx (st.set i (some (.v d))))
def pG(i:Nat)(f:Ex):Bd:=fun st=>(f st).bind fun d=>match d with
 | .lst xs => .ok (.nx (st.set i (some (.o .l xs))))
 | _ => .bad
def aW8(tg:Tg)(f:Ex):Bd:=fun st=>(f st).bind fun d=>(tg d st).bind fun s1 => .ok (.nx s1)
def zR(i:Nat)(f:Ex):Bd:=fun st=>(f st).bind fun d=>match st[i]? with
 | some (some (.o .l xs))=>aH (xs.length < big) (.ok (.nx (st.set i (some (.o .l (xs++[d]))))))
 | _ => .bad
def aOs(i:Nat)(g f:Ex):Bd:=fun st=>(f st).bind fun d=>(g st).bind fun x=>inI x fun j=>match st[i]? with
 | some (some (.o .l xs))=>(ofO (ixN xs.length j)).bind fun k => .ok (.nx (st.set i (some (.o .l (xs.set k d)))))
 | _ => .bad
def aRz(i:Nat)(f:Ex):Bd:=fun st=>(f st).bind fun d=>match d with
 | .lst ys=>(match st[i]? with
  | some (some (.o .l xs))=>aH (xs.length+ys.length<=big) (.ok (.nx (st.set i (some (.o .l (xs++ys))))))
  | _ => .bad)
 | _ => .bad
def aGu(i:Nat)(t:Bool):Bd:=fun st => .ok (.nx (st.set i (some (.o (.d t []) []))))
def sDPut(i:Nat)(g f:Ex):Bd:=fun st=>(f st).bind fun d=>(g st).bind fun k=>match st[i]? with
 | some (some (.o (.d t ks) vs))=>aH (keyOk t k=true/\vs.length < big) (.ok (.nx (st.set i (some (.o (.d t (lA ks k)) (oR ks vs k d))))))
 | _ => .bad
def aDz(i:Nat)(c f:String)(e:Ex):Bd:=fun st=>(e st).bind fun d=>match st[i]? with
 | some (some (.o (.i n c' ns) xs))=>aH (c'=c/\f ∉ ns/\ns.length < 900) (.ok (.nx (st.set i (some (.o (.i n c' (ns++[f])) (xs++[d]))))))
 | _ => .bad
def jM(c f:String):D->R D
 | .ins c' ns xs=>aH (c'=c) (ofO ((ns.zip xs).lookup f))
 | _ => .bad
def qO(c m:String)(p:List D->R D)(dv:List D)(f:Ex)(r:Exs):Ex:=fun st=>(f st).bind fun x=>(r st).bind fun xs=>match x with
 | .ins c' ns _=>aH (c'=c/\m ∉ ns) (p (x :: (xs++dv)))
 | _ => .bad
def aJ4:Bd:=fun _ => .bad
def fz1(st:PSt)(i:Nat):PSt:=match st[i]? with
 | some (some (.o k xs))=>st.set i (some (.v (ofK k xs)))
 | _=>st
def sFz(is:List Nat)(b:Bd):Bd:=fun st=>b (is.foldl fz1 st)
def cY(f:Ex):Bd:=fun st=>(f st).bind fun d => .ok (.rt d)
def aMx(f:Ex):Bd:=fun st=>(f st).bind fun _ => .ok (.nx st)
def sIf(c:Ex)(a b:Bd):Bd:=fun st=>(c st).bind fun x=>onB x fun q=>if q=true then a st else b st
def forR(tg:Tg)(body:Bd):List D->PSt->R Fl
 | [],st => .ok (.nx st)
 | d :: ds,st=>(tg d st).bind fun s1=>(body s1).bind fun x=>match x with
  | .nx s2=>forR tg body ds s2
  | .ct s2=>forR tg body ds s2
  | .bk s2 => .ok (.nx s2)
  | .rt v => .ok (.rt v)
def qC(tg:Tg)(it:ItE)(body:Bd):Bd:=fun st=>(it st).bind fun xs=>forR tg body xs st
def jG(c:Ex)(body:Bd):Nat->PSt->R Fl
 | 0,_ => .bad
 | n+1,st=>(c st).bind fun x=>onB x fun q=>if q=true then (body st).bind fun x=>(match x with
  | .nx s2=>jG c body n s2
  | .ct s2=>jG c body n s2
  | .bk s2 => .ok (.nx s2)
  | .rt v => .ok (.rt v)) else .ok (.nx st)
def aBs(n:Nat)(c:Ex)(body:Bd):Bd:=fun st=>jG c body n st
def dJ(np n:Nat)(b:Bd)(ds:List D):R D :=
 aH (ds.length=np) ((b (ds.map (fun d=>some (.v d))++List.replicate (n - np) none)).bind fun x=>match x with
  | .nx _ => .ok .non
  | .rt d => .ok d
  | _ => .bad)
def aE0(c:String)(np n:Nat)(b:Bd)(x:Nat)(ds:List D):R D :=
 aH (ds.length=np) ((b (some (.o (.i x c []) []) :: (ds.map (fun d=>some (.v d))++List.replicate (n - np - 1) none))).bind fun (fl:Fl)=>match fl with
  | .nx st=>(match (st[0]?:Option (Option Sl)) with
   | some (some (.o (.i y c' ns) xs))=>aH (y=x) (.ok (.ins c' ns xs))
   | _ => .bad)
  | _ => .bad)
open Classical in
def aFe(c:String)(np n:Nat)(b:Bd)(ds:List D):R D:=if h:∃ d,∀ x,aE0 c np n b x ds = .ok d then .ok (choose h) else .bad
theorem aS0{c:String}{np n:Nat}{b:Bd}{ds:List D}{d:D}(h:∀ x,aE0 c np n b x ds = .ok d):aFe c np n b ds = .ok d:=by
 unfold aFe
 rw [dif_pos ⟨d,h⟩]
 have:=Classical.choose_spec (p:=fun d=>∀ x,aE0 c np n b x ds = .ok d) ⟨d,h⟩ 0
 rw [h 0] at this
 exact this.symm
theorem aKp{c:String}{np n:Nat}{b:Bd}{ds:List D}{d:D}(h:aFe c np n b ds = .ok d)(x:Nat):aE0 c np n b x ds = .ok d:=by
 unfold aFe at h
 split at h
 ·rename_i e
  have:=Classical.choose_spec e x
  rw [this]
  exact h
 ·cases h
end
end Pu
namespace Pu
@[simp] theorem bg0:0<=big:=aQ (by decide)
@[simp] theorem bl0:0 < big:=bC (by decide)
@[simp] theorem bi0:(0:Int)<=(big:Int):=aO (by decide)
@[simp] theorem bj0 : -(big:Int)<=(0:Int):=aP (by decide)
@[simp] theorem bg1:1<=big:=aQ (by decide)
@[simp] theorem bl1:1 < big:=bC (by decide)
@[simp] theorem bi1:(1:Int)<=(big:Int):=aO (by decide)
@[simp] theorem bj1 : -(big:Int)<=(1:Int):=aP (by decide)
@[simp] theorem bg2:2<=big:=aQ (by decide)
@[simp] theorem bl2:2 < big:=bC (by decide)
@[simp] theorem bi2:(2:Int)<=(big:Int):=aO (by decide)
@[simp] theorem bj2 : -(big:Int)<=(2:Int):=aP (by decide)
@[simp] theorem bg3:3<=big:=aQ (by decide)
@[simp] theorem bl3:3 < big:=bC (by decide)
@[simp] theorem bi3:(3:Int)<=(big:Int):=aO (by decide)
@[simp] theorem bj3 : -(big:Int)<=(3:Int):=aP (by decide)
@[simp] theorem bg4:4<=big:=aQ (by decide)
@[simp] theorem bl4:4 < big:=bC (by decide)
@[simp] theorem bi4:(4:Int)<=(big:Int):=aO (by decide)
@[simp] theorem bj4 : -(big:Int)<=(4:Int):=aP (by decide)
@[simp] theorem bg5:5<=big:=aQ (by decide)
@[simp] theorem bl5:5 < big:=bC (by decide)
@[simp] theorem bi5:(5:Int)<=(big:Int):=aO (by decide)
@[simp] theorem bj5 : -(big:Int)<=(5:Int):=aP (by decide)
@[simp] theorem bg6:6<=big:=aQ (by decide)
@[simp] theorem bl6:6 < big:=bC (by decide)
@[simp] theorem bi6:(6:Int)<=(big:Int):=aO (by decide)
@[simp] theorem bj6 : -(big:Int)<=(6:Int):=aP (by decide)
@[simp] theorem bg7:7<=big:=aQ (by decide)
@[simp] theorem bl7:7 < big:=bC (by decide)
@[simp] theorem bi7:(7:Int)<=(big:Int):=aO (by decide)
@[simp] theorem bj7 : -(big:Int)<=(7:Int):=aP (by decide)
@[simp] theorem bg8:8<=big:=aQ (by decide)
@[simp] theorem bl8:8 < big:=bC (by decide)
@[simp] theorem bi8:(8:Int)<=(big:Int):=aO (by decide)
@[simp] theorem bj8 : -(big:Int)<=(8:Int):=aP (by decide)
@[simp] theorem bg9:9<=big:=aQ (by decide)
@[simp] theorem bl9:9 < big:=bC (by decide)
@[simp] theorem bi9:(9:Int)<=(big:Int):=aO (by decide)
@[simp] theorem bj9 : -(big:Int)<=(9:Int):=aP (by decide)
@[simp] theorem bDy:10<=big:=aQ (by decide)
@[simp] theorem bDz:10 < big:=bC (by decide)
@[simp] theorem bE0:(10:Int)<=(big:Int):=aO (by decide)
@[simp] theorem bE1 : -(big:Int)<=(10:Int):=aP (by decide)
@[simp] theorem bE2:11<=big:=aQ (by decide)
@[simp] theorem bE3:11 < big:=bC (by decide)
@[simp] theorem bE4:(11:Int)<=(big:Int):=aO (by decide)
@[simp] theorem bE5 : -(big:Int)<=(11:Int):=aP (by decide)
@[simp] theorem bE6:12<=big:=aQ (by decide)
@[simp] theorem bE7:12 < big:=bC (by decide)
@[simp] theorem bE8:(12:Int)<=(big:Int):=aO (by decide)
@[simp] theorem bE9 : -(big:Int)<=(12:Int):=aP (by decide)
@[simp] theorem bEa:13<=big:=aQ (by decide)
@[simp] theorem bEb:13 < big:=bC (by decide)
@[simp] theorem bEc:(13:Int)<=(big:Int):=aO (by decide)
@[simp] theorem bEd : -(big:Int)<=(13:Int):=aP (by decide)
@[simp] theorem bEe:14<=big:=aQ (by decide)
@[simp] theorem bEf:14 < big:=bC (by decide)
@[simp] theorem bEg:(14:Int)<=(big:Int):=aO (by decide)
@[simp] theorem bEh : -(big:Int)<=(14:Int):=aP (by decide)
@[simp] theorem bEi:15<=big:=aQ (by decide)
@[simp] theorem bEj:15 < big:=bC (by decide)
@[simp] theorem bEk:(15:Int)<=(big:Int):=aO (by decide)
@[simp] theorem bEl : -(big:Int)<=(15:Int):=aP (by decide)
@[simp] theorem bEm:16<=big:=aQ (by decide)
@[simp] theorem bEn:16 < big:=bC (by decide)
@[simp] theorem bEo:(16:Int)<=(big:Int):=aO (by decide)
@[simp] theorem bEp : -(big:Int)<=(16:Int):=aP (by decide)
@[simp] theorem bEq:17<=big:=aQ (by decide)
@[simp] theorem bEr:17 < big:=bC (by decide)
@[simp] theorem bEs:(17:Int)<=(big:Int):=aO (by decide)
@[simp] theorem bEt : -(big:Int)<=(17:Int):=aP (by decide)
@[simp] theorem bEu:18<=big:=aQ (by decide)
@[simp] theorem bEv:18 < big:=bC (by decide)
@[simp] theorem bEw:(18:Int)<=(big:Int):=aO (by decide)
@[simp] theorem bEx : -(big:Int)<=(18:Int):=aP (by decide)
@[simp] theorem bEy:19<=big:=aQ (by decide)
@[simp] theorem bEz:19 < big:=bC (by decide)
@[simp] theorem bF0:(19:Int)<=(big:Int):=aO (by decide)
@[simp] theorem bF1 : -(big:Int)<=(19:Int):=aP (by decide)
@[simp] theorem bF2:20<=big:=aQ (by decide)
@[simp] theorem bF3:20 < big:=bC (by decide)
@[simp] theorem bF4:(20:Int)<=(big:Int):=aO (by decide)
@[simp] theorem bF5 : -(big:Int)<=(20:Int):=aP (by decide)
@[simp] theorem bF6:21<=big:=aQ (by decide)
@[simp] theorem bF7:21 < big:=bC (by decide)
@[simp] theorem bF8:(21:Int)<=(big:Int):=aO (by decide)
@[simp] theorem bF9 : -(big:Int)<=(21:Int):=aP (by decide)
@[simp] theorem bFa:22<=big:=aQ (by decide)
@[simp] theorem bFb:22 < big:=bC (by decide)
@[simp] theorem bFc:(22:Int)<=(big:Int):=aO (by decide)
@[simp] theorem bFd : -(big:Int)<=(22:Int):=aP (by decide)
@[simp] theorem bFe:23<=big:=aQ (by decide)
@[simp] theorem bFf:23 < big:=bC (by decide)
@[simp] theorem bFg:(23:Int)<=(big:Int):=aO (by decide)
@[simp] theorem bFh : -(big:Int)<=(23:Int):=aP (by decide)
@[simp] theorem bFi:24<=big:=aQ (by decide)
@[simp] theorem bFj:24 < big:=bC (by decide)
@[simp] theorem bFk:(24:Int)<=(big:Int):=aO (by decide)
@[simp] theorem bFl : -(big:Int)<=(24:Int):=aP (by decide)
@[simp] theorem bFm:25<=big:=aQ (by decide)
@[simp] theorem bFn:25 < big:=bC (by decide)
@[simp] theorem bFo:(25:Int)<=(big:Int):=aO (by decide)
@[simp] theorem bFp : -(big:Int)<=(25:Int):=aP (by decide)
@[simp] theorem bFq:26<=big:=aQ (by decide)
@[simp] theorem bFr:26 < big:=bC (by decide)
@[simp] theorem bFs:(26:Int)<=(big:Int):=aO (by decide)
@[simp] theorem bFt : -(big:Int)<=(26:Int):=aP (by decide)
@[simp] theorem bFu:27<=big:=aQ (by decide)
@[simp] theorem bFv:27 < big:=bC (by decide)
@[simp] theorem bFw:(27:Int)<=(big:Int):=aO (by decide)
@[simp] theorem bFx : -(big:Int)<=(27:Int):=aP (by decide)
@[simp] theorem bFy:28<=big:=aQ (by decide)
@[simp] theorem bFz:28 < big:=bC (by decide)
@[simp] theorem bG0:(28:Int)<=(big:Int):=aO (by decide)
@[simp] theorem bG1 : -(big:Int)<=(28:Int):=aP (by decide)
@[simp] theorem bG2:29<=big:=aQ (by decide)
@[simp] theorem bG3:29 < big:=bC (by decide)
@[simp] theorem bG4:(29:Int)<=(big:Int):=aO (by decide)
@[simp] theorem bG5 : -(big:Int)<=(29:Int):=aP (by decide)
@[simp] theorem bG6:30<=big:=aQ (by decide)
@[simp] theorem bG7:30 < big:=bC (by decide)
@[simp] theorem bG8:(30:Int)<=(big:Int):=aO (by decide)
@[simp] theorem bG9 : -(big:Int)<=(30:Int):=aP (by decide)
@[simp] theorem bGa:31<=big:=aQ (by decide)
@[simp] theorem bGb:31 < big:=bC (by decide)
@[simp] theorem bGc:(31:Int)<=(big:Int):=aO (by decide)
@[simp] theorem bGd : -(big:Int)<=(31:Int):=aP (by decide)
@[simp] theorem bGe:32<=big:=aQ (by decide)
@[simp] theorem bGf:32 < big:=bC (by decide)
@[simp] theorem bGg:(32:Int)<=(big:Int):=aO (by decide)
@[simp] theorem bGh : -(big:Int)<=(32:Int):=aP (by decide)
@[simp] theorem bGi:33<=big:=aQ (by decide)
@[simp] theorem bGj:33 < big:=bC (by decide)
@[simp] theorem bGk:(33:Int)<=(big:Int):=aO (by decide)
@[simp] theorem bGl : -(big:Int)<=(33:Int):=aP (by decide)
@[simp] theorem bGm:34<=big:=aQ (by decide)
@[simp] theorem bGn:34 < big:=bC (by decide)
@[simp] theorem bGo:(34:Int)<=(big:Int):=aO (by decide)
@[simp] theorem bGp : -(big:Int)<=(34:Int):=aP (by decide)
@[simp] theorem bGq:35<=big:=aQ (by decide)
@[simp] theorem bGr:35 < big:=bC (by decide)
@[simp] theorem bGs:(35:Int)<=(big:Int):=aO (by decide)
@[simp] theorem bGt : -(big:Int)<=(35:Int):=aP (by decide)
@[simp] theorem bGu:36<=big:=aQ (by decide)
@[simp] theorem bGv:36 < big:=bC (by decide)
@[simp] theorem bGw:(36:Int)<=(big:Int):=aO (by decide)
@[simp] theorem bGx : -(big:Int)<=(36:Int):=aP (by decide)
@[simp] theorem bGy:37<=big:=aQ (by decide)
@[simp] theorem bGz:37 < big:=bC (by decide)
@[simp] theorem bH0:(37:Int)<=(big:Int):=aO (by decide)
@[simp] theorem bH1 : -(big:Int)<=(37:Int):=aP (by decide)
@[simp] theorem bH2:38<=big:=aQ (by decide)
@[simp] theorem bH3:38 < big:=bC (by decide)
@[simp] theorem bH4:(38:Int)<=(big:Int):=aO (by decide)
@[simp] theorem bH5 : -(big:Int)<=(38:Int):=aP (by decide)
@[simp] theorem bH6:39<=big:=aQ (by decide)
@[simp] theorem bH7:39 < big:=bC (by decide)
@[simp] theorem bH8:(39:Int)<=(big:Int):=aO (by decide)
@[simp] theorem bH9 : -(big:Int)<=(39:Int):=aP (by decide)
@[simp] theorem bHa:40<=big:=aQ (by decide)
@[simp] theorem bHb:40 < big:=bC (by decide)
@[simp] theorem bHc:(40:Int)<=(big:Int):=aO (by decide)
@[simp] theorem bHd : -(big:Int)<=(40:Int):=aP (by decide)
@[simp] theorem bHe:41<=big:=aQ (by decide)
@[simp] theorem bHf:41 < big:=bC (by decide)
@[simp] theorem bHg:(41:Int)<=(big:Int):=aO (by decide)
@[simp] theorem bHh : -(big:Int)<=(41:Int):=aP (by decide)
@[simp] theorem bHi:42<=big:=aQ (by decide)
@[simp] theorem bHj:42 < big:=bC (by decide)
@[simp] theorem bHk:(42:Int)<=(big:Int):=aO (by decide)
@[simp] theorem bHl : -(big:Int)<=(42:Int):=aP (by decide)
@[simp] theorem bHm:43<=big:=aQ (by decide)
@[simp] theorem bHn:43 < big:=bC (by decide)
@[simp] theorem bHo:(43:Int)<=(big:Int):=aO (by decide)
@[simp] theorem bHp : -(big:Int)<=(43:Int):=aP (by decide)
@[simp] theorem bHq:44<=big:=aQ (by decide)
@[simp] theorem bHr:44 < big:=bC (by decide)
@[simp] theorem bHs:(44:Int)<=(big:Int):=aO (by decide)
@[simp] theorem bHt : -(big:Int)<=(44:Int):=aP (by decide)
@[simp] theorem bHu:45<=big:=aQ (by decide)
@[simp] theorem bHv:45 < big:=bC (by decide)
@[simp] theorem bHw:(45:Int)<=(big:Int):=aO (by decide)
@[simp] theorem bHx : -(big:Int)<=(45:Int):=aP (by decide)
@[simp] theorem bHy:46<=big:=aQ (by decide)
@[simp] theorem bHz:46 < big:=bC (by decide)
@[simp] theorem bI0:(46:Int)<=(big:Int):=aO (by decide)
@[simp] theorem bI1 : -(big:Int)<=(46:Int):=aP (by decide)
@[simp] theorem bI2:47<=big:=aQ (by decide)
@[simp] theorem bI3:47 < big:=bC (by decide)
@[simp] theorem bI4:(47:Int)<=(big:Int):=aO (by decide)
@[simp] theorem bI5 : -(big:Int)<=(47:Int):=aP (by decide)
@[simp] theorem bI6:48<=big:=aQ (by decide)
@[simp] theorem bI7:48 < big:=bC (by decide)
@[simp] theorem bI8:(48:Int)<=(big:Int):=aO (by decide)
@[simp] theorem bI9 : -(big:Int)<=(48:Int):=aP (by decide)
@[simp] theorem bIa:49<=big:=aQ (by decide)
@[simp] theorem bIb:49 < big:=bC (by decide)
@[simp] theorem bIc:(49:Int)<=(big:Int):=aO (by decide)
@[simp] theorem bId : -(big:Int)<=(49:Int):=aP (by decide)
@[simp] theorem bIe:50<=big:=aQ (by decide)
@[simp] theorem bIf:50 < big:=bC (by decide)
@[simp] theorem bIg:(50:Int)<=(big:Int):=aO (by decide)
@[simp] theorem bIh : -(big:Int)<=(50:Int):=aP (by decide)
@[simp] theorem bIi:51<=big:=aQ (by decide)
@[simp] theorem bIj:51 < big:=bC (by decide)
@[simp] theorem bIk:(51:Int)<=(big:Int):=aO (by decide)
@[simp] theorem bIl : -(big:Int)<=(51:Int):=aP (by decide)
@[simp] theorem bIm:52<=big:=aQ (by decide)
@[simp] theorem bIn:52 < big:=bC (by decide)
@[simp] theorem bIo:(52:Int)<=(big:Int):=aO (by decide)
@[simp] theorem bIp : -(big:Int)<=(52:Int):=aP (by decide)
@[simp] theorem bIq:53<=big:=aQ (by decide)
@[simp] theorem bIr:53 < big:=bC (by decide)
@[simp] theorem bIs:(53:Int)<=(big:Int):=aO (by decide)
@[simp] theorem bIt : -(big:Int)<=(53:Int):=aP (by decide)
@[simp] theorem bIu:54<=big:=aQ (by decide)
@[simp] theorem bIv:54 < big:=bC (by decide)
@[simp] theorem bIw:(54:Int)<=(big:Int):=aO (by decide)
@[simp] theorem bIx : -(big:Int)<=(54:Int):=aP (by decide)
@[simp] theorem bIy:55<=big:=aQ (by decide)
@[simp] theorem bIz:55 < big:=bC (by decide)
@[simp] theorem bJ0:(55:Int)<=(big:Int):=aO (by decide)
@[simp] theorem bJ1 : -(big:Int)<=(55:Int):=aP (by decide)
@[simp] theorem bJ2:56<=big:=aQ (by decide)
@[simp] theorem bJ3:56 < big:=bC (by decide)
@[simp] theorem bJ4:(56:Int)<=(big:Int):=aO (by decide)
@[simp] theorem bJ5 : -(big:Int)<=(56:Int):=aP (by decide)
@[simp] theorem bJ6:57<=big:=aQ (by decide)
@[simp] theorem bJ7:57 < big:=bC (by decide)
@[simp] theorem bJ8:(57:Int)<=(big:Int):=aO (by decide)
@[simp] theorem bJ9 : -(big:Int)<=(57:Int):=aP (by decide)
@[simp] theorem bJa:58<=big:=aQ (by decide)
@[simp] theorem bJb:58 < big:=bC (by decide)
@[simp] theorem bJc:(58:Int)<=(big:Int):=aO (by decide)
@[simp] theorem bJd : -(big:Int)<=(58:Int):=aP (by decide)
@[simp] theorem bJe:59<=big:=aQ (by decide)
@[simp] theorem bJf:59 < big:=bC (by decide)
@[simp] theorem bJg:(59:Int)<=(big:Int):=aO (by decide)
@[simp] theorem bJh : -(big:Int)<=(59:Int):=aP (by decide)
@[simp] theorem bJi:60<=big:=aQ (by decide)
@[simp] theorem bJj:60 < big:=bC (by decide)
@[simp] theorem bJk:(60:Int)<=(big:Int):=aO (by decide)
@[simp] theorem bJl : -(big:Int)<=(60:Int):=aP (by decide)
@[simp] theorem bJm:61<=big:=aQ (by decide)
@[simp] theorem bJn:61 < big:=bC (by decide)
@[simp] theorem bJo:(61:Int)<=(big:Int):=aO (by decide)
@[simp] theorem bJp : -(big:Int)<=(61:Int):=aP (by decide)
@[simp] theorem bJq:62<=big:=aQ (by decide)
@[simp] theorem bJr:62 < big:=bC (by decide)
@[simp] theorem bJs:(62:Int)<=(big:Int):=aO (by decide)
@[simp] theorem bJt : -(big:Int)<=(62:Int):=aP (by decide)
@[simp] theorem bJu:63<=big:=aQ (by decide)
@[simp] theorem bJv:63 < big:=bC (by decide)
@[simp] theorem bJw:(63:Int)<=(big:Int):=aO (by decide)
@[simp] theorem bJx : -(big:Int)<=(63:Int):=aP (by decide)
@[simp] theorem bJy:64<=big:=aQ (by decide)
@[simp] theorem bJz:64 < big:=bC (by decide)
@[simp] theorem bK0:(64:Int)<=(big:Int):=aO (by decide)
@[simp] theorem bK1 : -(big:Int)<=(64:Int):=aP (by decide)
@[simp] theorem aN{α β:Type}(a:α)(f:α->R β):(R.ok a).bind f=f a:=rfl
@[simp] theorem aYc{α β:Type}(f:α->R β):(R.bad:R α).bind f = .bad:=rfl
@[simp] theorem qD{α:Type}(b:Bool)(f:Bool->R α):onB (.bl b) f=f b:=rfl
@[simp] theorem bBk{α:Type}(i:Int)(f:Int->R α):inI (.int i) f=f i:=rfl
@[simp] theorem bBl(st:PSt)(f:PSt->R Fl):aDg (.ok (.nx st)) f=f st:=rfl
@[simp] theorem bBm(d:D)(f:PSt->R Fl):aDg (.ok (.rt d)) f = .ok (.rt d):=rfl
@[simp] theorem aKq(i:Nat)(st:PSt):aB i st=(match st[i]? with | some (some (.v d))=>R.ok d | _ => .bad):=rfl
@[simp] theorem aZr(i:Nat)(st:PSt):cZ i st=(match st[i]? with | some (some (.v d))=>R.ok d | some (some (.o k xs)) => .ok (ofK k xs) | _ => .bad):=rfl
@[simp] theorem aOt(d:D)(st:PSt):eC d st = .ok d:=rfl
@[simp] theorem aBt(op:Op2)(f g:Ex)(st:PSt):e2 op f g st=(f st).bind fun x=>(g st).bind fun y=>op x y:=rfl
@[simp] theorem aZs(op:D->R D)(f:Ex)(st:PSt):e1 op f st=(f st).bind op:=rfl
@[simp] theorem bDt(p:D->Bool)(f:Ex)(st:PSt):eB p f st=(f st).bind fun x=>aH (aBp x=true) (.ok (.bl (p x))):=rfl
@[simp] theorem aKr(f g:Ex)(st:PSt):pB f g st=(f st).bind fun x=>onB x fun b=>if b=true then g st else .ok (.bl false):=rfl
@[simp] theorem aW9(f g:Ex)(st:PSt):eOr f g st=(f st).bind fun x=>onB x fun b=>if b=true then .ok (.bl true) else g st:=rfl
@[simp] theorem aKs(f:Ex)(st:PSt):pX f st=(f st).bind fun x=>onB x fun b => .ok (.bl (!b)):=rfl
@[simp] theorem bBn(st:PSt):aW st = .ok []:=rfl
@[simp] theorem aOu(f:Ex)(r:Exs)(st:PSt):aC f r st=(f st).bind fun x=>(r st).bind fun xs => .ok (x :: xs):=rfl
@[simp] theorem bBo(r:Exs)(st:PSt):aJ3 r st=(r st).bind fun xs=>aH (xs.length<=big) (.ok (.tup xs)):=rfl
@[simp] theorem aS1(r:Exs)(st:PSt):pY r st=(r st).bind fun xs=>aH (xs.length<=big) (.ok (.lst xs)):=rfl
@[simp] theorem aOv(p:List D->R D)(r:Exs)(st:PSt):aX p r st=(r st).bind p:=rfl
@[simp] theorem bDa(m:Mop)(f:Ex)(r:Exs)(st:PSt):eMt m f r st=(f st).bind fun x=>(r st).bind fun xs=>m x xs:=rfl
@[simp] theorem aZt(st:PSt):aDy st = .ok none:=rfl
@[simp] theorem aZu(f:Ex)(st:PSt):pF f st=(f st).bind fun x=>inI x fun i => .ok (some i):=rfl
@[simp] theorem aWa(f:Ex)(lo hi:ExO)(st:PSt):eSl f lo hi st=(f st).bind fun x=>(lo st).bind fun l=>(hi st).bind fun h=>dSl x l h:=rfl
@[simp] theorem aS2(f:Ex)(st:PSt):tQ f st=(f st).bind fun x=>inI x fun j=>aH (-(big:Int)<=j/\j<=(big:Int)) (.ok (fL 0 j.toNat)):=rfl
@[simp] theorem bBp(f g:Ex)(st:PSt):aRy f g st=(f st).bind fun x=>(g st).bind fun y=>inI x fun i=>inI y fun j=>aH (-(big:Int)<=i/\i<=(big:Int) /\ -(big:Int)<=j/\j<=(big:Int)) (.ok (fL i (j - i).toNat)):=rfl
@[simp] theorem aZv(tg:Tg)(b:Bd)(st:PSt):forR tg b [] st = .ok (.nx st):=rfl
theorem jQ(tg:Tg)(b:Bd)(d:D)(ds:List D)(st:PSt):forR tg b (d :: ds) st=(tg d st).bind fun s1=>(b s1).bind fun x=>match x with
  | .nx s2=>forR tg b ds s2
  | .ct s2=>forR tg b ds s2
  | .bk s2 => .ok (.nx s2)
  | .rt v => .ok (.rt v):=rfl
theorem pH(c:Ex)(b:Bd)(n:Nat)(st:PSt):jG c b (n+1) st=(c st).bind fun x=>onB x fun q=>if q=true then (b st).bind fun x=>(match x with
  | .nx s2=>jG c b n s2
  | .ct s2=>jG c b n s2
  | .bk s2 => .ok (.nx s2)
  | .rt v => .ok (.rt v)) else .ok (.nx st):=rfl
@[simp] theorem aOw(f:Ex)(st:PSt):itE f st=(f st).bind fun x=>match x with | .lst xs => .ok xs | .tup xs => .ok xs | .str xs=>aH (xs.length<=big) (.ok (xs.map fun c => .str [c])) | _ => .bad:=rfl
@[simp] theorem aE1(n:Nat)(c:Ex)(b:Bd)(st:PSt):aBs n c b st=jG c b n st:=rfl
@[simp] theorem aS3(i:Nat)(f:Ex)(st:PSt):zR i f st=(f st).bind fun d=>match st[i]? with | some (some (.o .l xs))=>aH (xs.length < big) (.ok (.nx (st.set i (some (.o .l (xs++[d])))))) | _ => .bad:=rfl
@[simp] theorem aOx(i:Nat)(f:Ex)(st:PSt):pG i f st=(f st).bind fun d=>match d with | .lst xs => .ok (.nx (st.set i (some (.o .l xs)))) | _ => .bad:=rfl
@[simp] theorem aS4(i:Nat)(g f:Ex)(st:PSt):aOs i g f st=(f st).bind fun d=>(g st).bind fun x=>inI x fun j=>match st[i]? with | some (some (.o .l xs))=>(ofO (ixN xs.length j)).bind fun k => .ok (.nx (st.set i (some (.o .l (xs.set k d))))) | _ => .bad:=rfl
@[simp] theorem aS5(i:Nat)(f:Ex)(st:PSt):aRz i f st=(f st).bind fun d=>match d with | .lst ys=>(match st[i]? with | some (some (.o .l xs))=>aH (xs.length+ys.length<=big) (.ok (.nx (st.set i (some (.o .l (xs++ys)))))) | _ => .bad) | _ => .bad:=rfl
@[simp] theorem aOy(i:Nat)(c f:String)(e:Ex)(st:PSt):aDz i c f e st=(e st).bind fun d=>match st[i]? with | some (some (.o (.i n c' ns) xs))=>aH (c'=c/\f ∉ ns/\ns.length < 900) (.ok (.nx (st.set i (some (.o (.i n c' (ns++[f])) (xs++[d])))))) | _ => .bad:=rfl
@[simp] theorem uC(c f c':String)(ns:List String)(xs:List D):jM c f (.ins c' ns xs)=aH (c'=c) (ofO ((ns.zip xs).lookup f)):=rfl
@[simp] theorem aBu(c m:String)(p:List D->R D)(dv:List D)(f:Ex)(r:Exs)(st:PSt):qO c m p dv f r st=(f st).bind fun x=>(r st).bind fun xs=>match x with | .ins c' ns _=>aH (c'=c/\m ∉ ns) (p (x :: (xs++dv))) | _ => .bad:=rfl
@[simp] theorem aZw(i:Nat)(t:Bool)(st:PSt):aGu i t st = .ok (.nx (st.set i (some (.o (.d t []) [])))):=rfl
@[simp] theorem aZx(i:Nat)(g f:Ex)(st:PSt):sDPut i g f st=(f st).bind fun d=>(g st).bind fun k=>match st[i]? with | some (some (.o (.d t ks) vs))=>aH (keyOk t k=true/\vs.length < big) (.ok (.nx (st.set i (some (.o (.d t (lA ks k)) (oR ks vs k d)))))) | _ => .bad:=rfl
@[simp] theorem bBq(t:Bool)(ks vs:List D)(k:D):dIx (.dct t ks vs) k=aH (keyOk t k=true) (ofO (pA ks vs k)):=by cases k<;>rfl
@[simp] theorem bBr(t:Bool)(ks vs:List D)(k:D):dIn k (.dct t ks vs)=aH (keyOk t k=true) (.ok (.bl (lO ks k))):=by cases k<;>rfl
@[simp] theorem aWb(t:Bool)(ks vs:List D)(k:D):jF k (.dct t ks vs)=aH (keyOk t k=true) (.ok (.bl (!lO ks k))):=by cases k<;>rfl
@[simp] theorem aZy(ks vs:List D):dR (.dct false ks vs) = .ok (.int ks.length):=rfl
@[simp] theorem bDb(is:List Nat)(b:Bd)(st:PSt):sFz is b st=b (is.foldl fz1 st):=rfl
@[simp] theorem bDc(st:PSt)(i:Nat):fz1 st i=(match st[i]? with | some (some (.o k xs))=>st.set i (some (.v (ofK k xs))) | _=>st):=rfl
@[simp] theorem bBs(f:Ex)(st:PSt):aMx f st=(f st).bind fun _ => .ok (.nx st):=rfl
@[simp] theorem bBt(st:PSt)(f:PSt->R Fl):aDg (.ok (.bk st)) f = .ok (.bk st):=rfl
@[simp] theorem bBu(st:PSt)(f:PSt->R Fl):aDg (.ok (.ct st)) f = .ok (.ct st):=rfl
@[simp] theorem aZz(f:PSt->R Fl):aDg .bad f = .bad:=rfl
@[simp] theorem bA0(i:Int):aB1 (.int i) = .ok (.int (-i)):=rfl
@[simp] theorem bBv(x y:List Nat):aDx (.str x) [.str y] = .ok (.int (pU (gM x y 0))):=rfl
@[simp] theorem bBw(x y:List Nat)(i:Int):aDx (.str x) [.str y,.int i]=aH (0<=i) (.ok (.int (pU (gM x y i.toNat)))):=rfl
@[simp] theorem bA1(x y:List Nat):uB (.str x) [.str y]=(ofO (gM x y 0)).bind fun i => .ok (.int i):=rfl
@[simp] theorem bA2(x y:List Nat):aBq (.str x) [.str y]=aH (x.length<=big) (.ok (.str (pW x y))):=rfl
@[simp] theorem aU1(i:Nat):pU (some i)=i:=rfl
@[simp] theorem aU2:pU none = -1:=rfl
@[simp] theorem bBx(x y:List Nat):dIn (.str x) (.str y) = .ok (.bl (gM y x 0).isSome):=rfl
@[simp] theorem aWc(x y:List Nat):jF (.str x) (.str y) = .ok (.bl (!(gM y x 0).isSome)):=rfl
@[simp] theorem bBy(x:D)(ys:List D):dIn x (.lst ys)=aH (dX ys<=60/\plain x=true/\dC ys=true) (.ok (.bl (inD x ys))):=by cases x<;>rfl
@[simp] theorem bBz(x:D)(ys:List D):dIn x (.tup ys)=aH (dX ys<=60/\plain x=true/\dC ys=true) (.ok (.bl (inD x ys))):=by cases x<;>rfl
@[simp] theorem aWd(x:D)(ys:List D):jF x (.lst ys)=aH (dX ys<=60/\plain x=true/\dC ys=true) (.ok (.bl (!inD x ys))):=by cases x<;>rfl
@[simp] theorem aWe(x:D)(ys:List D):jF x (.tup ys)=aH (dX ys<=60/\plain x=true/\dC ys=true) (.ok (.bl (!inD x ys))):=by cases x<;>rfl
@[simp] theorem bA3(x:List D):dR (.tup x) = .ok (.int x.length):=rfl
@[simp] theorem bC0(i j:Int):dGe (.int i) (.int j) = .ok (.bl (decide (j<=i))):=rfl
@[simp] theorem bA4(x y:List D):kZ (.lst x) (.lst y)=aH (x.length+y.length<=big) (.ok (.lst (x++y))):=rfl
@[simp] theorem bC1(x:List D)(l h:Option Int):dSl (.lst x) l h = .ok (.lst (cut x l h)):=rfl
@[simp] theorem bA5:aBp .non=true:=rfl
@[simp] theorem bC2(b:Bool):aBp (.bl b)=true:=rfl
@[simp] theorem bA6(b:Int):aBp (.int b)=true:=rfl
@[simp] theorem bA7(b:List Nat):aBp (.str b)=true:=rfl
@[simp] theorem bA8(b:List D):aBp (.tup b)=true:=rfl
@[simp] theorem bA9(b:List D):aBp (.lst b)=true:=rfl
@[simp] theorem bAa(t:Bool)(a b:List D):aBp (.dct t a b)=true:=rfl
@[simp] theorem aWf(i:Nat)(d:D)(st:PSt):tgN i d st = .ok (st.set i (some (.v d))):=rfl
@[simp] theorem bDd(is:List Nat)(xs:List D)(st:PSt):tgT is (.tup xs) st=pZ is xs st:=rfl
@[simp] theorem bC3(is:List Nat)(xs:List D)(st:PSt):tgT is (.lst xs) st=pZ is xs st:=rfl
@[simp] theorem aWg(st:PSt):pZ [] [] st = .ok st:=rfl
@[simp] theorem aU3(i:Nat)(is:List Nat)(d:D)(ds:List D)(st:PSt):pZ (i :: is) (d :: ds) st=pZ is ds (st.set i (some (.v d))):=rfl
@[simp] theorem bC4(st:PSt):clr [] st=st:=rfl
@[simp] theorem bAb(i:Nat)(is:List Nat)(st:PSt):clr (i :: is) st=clr is (st.set i none):=rfl
@[simp] theorem aYd(tg:Tg)(c f:Ex)(st:PSt):nP tg c f st [] = .ok []:=rfl
theorem rM(tg:Tg)(c f:Ex)(st:PSt)(d:D)(ds:List D):nP tg c f st (d :: ds)=(tg d st).bind fun s1=>(c s1).bind fun x=>onB x fun b=>if b=true then (f s1).bind fun y=>(nP tg c f st ds).bind fun ys => .ok (y :: ys) else nP tg c f st ds:=rfl
@[simp] theorem bAc(st:PSt):fH st = .ok (.bl true):=rfl
@[simp] theorem xW(is:List Nat)(tg:Tg)(it:ItE)(c f:Ex)(st:PSt):dU is tg it c f st=(it st).bind fun xs=>aH (xs.length<=big) ((nP tg c f (clr is st) xs).bind fun ys => .ok (.lst ys)):=rfl
@[simp] theorem bAd(st:PSt):dN st = .ok (.nx st):=rfl
@[simp] theorem aKt(a b:Bd)(st:PSt):bU a b st=aDg (a st) b:=rfl
@[simp] theorem aKu(i:Nat)(f:Ex)(st:PSt):eF i f st=(f st).bind fun d => .ok (.nx (st.set i (some (.v d)))):=rfl
@[simp] theorem bC5(tg:Tg)(f:Ex)(st:PSt):aW8 tg f st=(f st).bind fun d=>(tg d st).bind fun s1 => .ok (.nx s1):=rfl
@[simp] theorem pI(f:Ex)(st:PSt):cY f st=(f st).bind fun d => .ok (.rt d):=rfl
@[simp] theorem aJ5(c:Ex)(a b:Bd)(st:PSt):sIf c a b st=(c st).bind fun x=>onB x fun q=>if q=true then a st else b st:=rfl
@[simp] theorem aKv(tg:Tg)(it:ItE)(body:Bd)(st:PSt):qC tg it body st=(it st).bind fun xs=>forR tg body xs st:=rfl
@[simp] theorem bAe(i j:Int):kZ (.int i) (.int j) = .ok (.int (i+j)):=rfl
@[simp] theorem bAf(x y:List Nat):kZ (.str x) (.str y)=aH (x.length+y.length<=big) (.ok (.str (x++y))):=rfl
@[simp] theorem bAg(i j:Int):aMv (.int i) (.int j) = .ok (.int (i - j)):=rfl
@[simp] theorem aYe(i j:Int):xV (.int i) (.int j)=aH (0 < j/\j < 1073741824) (.ok (.int (i / j))):=rfl
@[simp] theorem bAh(i j:Int):nY (.int i) (.int j)=aH (0 < j) (.ok (.int (i % j))):=rfl
@[simp] theorem bAi(i j:Int):aOq (.int i) (.int j)=aH (0<=j/\j<=1000000/\i.natAbs < 18446744073709551616) (.ok (.int (i ^ j.toNat))):=rfl
@[simp] theorem bC6(i j:Int):dLe (.int i) (.int j) = .ok (.bl (decide (i<=j))):=rfl
@[simp] theorem bC7(i j:Int):dGt (.int i) (.int j) = .ok (.bl (decide (j < i))):=rfl
@[simp] theorem bDe(x y:D):dEq x y=aH (dep x<=64/\plain x=true/\plain y=true) (.ok (.bl (eqD x y))):=rfl
@[simp] theorem bDf(x y:D):dNe x y=aH (dep x<=64/\plain x=true/\plain y=true) (.ok (.bl (!eqD x y))):=rfl
@[simp] theorem bC8:dep .non=0:=by unfold dep;rfl
@[simp] theorem bDg(b:Bool):dep (.bl b)=0:=by unfold dep;rfl
@[simp] theorem bC9(i:Int):dep (.int i)=0:=by unfold dep;rfl
@[simp] theorem bCa(s:List Nat):dep (.str s)=0:=by unfold dep;rfl
@[simp] theorem bCb(x:List D):dep (.tup x)=dX x+1:=by conv=>lhs;unfold dep
@[simp] theorem bCc(x:List D):dep (.lst x)=dX x+1:=by conv=>lhs;unfold dep
@[simp] theorem aYf:plain .non=true:=by unfold plain;rfl
@[simp] theorem bAj(b:Bool):plain (.bl b)=true:=by unfold plain;rfl
@[simp] theorem aYg(i:Int):plain (.int i)=true:=by unfold plain;rfl
@[simp] theorem aYh(s:List Nat):plain (.str s)=true:=by unfold plain;rfl
@[simp] theorem aYi(x:List D):plain (.tup x)=dC x:=by conv=>lhs;unfold plain
@[simp] theorem aYj(x:List D):plain (.lst x)=dC x:=by conv=>lhs;unfold plain
@[simp] theorem aYk(t:Bool)(k v:List D):plain (.dct t k v)=false:=by unfold plain;rfl
@[simp] theorem aYl(c:String)(n:List String)(v:List D):plain (.ins c n v)=false:=by unfold plain;rfl
@[simp] theorem aYm(c:String)(n:List String)(v:List D):plain (.exn c n v)=false:=by unfold plain;rfl
@[simp] theorem bAk(f:String):plain (.fn f)=false:=by unfold plain;rfl
@[simp] theorem aWh:dC []=true:=by unfold dC;rfl
@[simp] theorem mV(a:D)(x:List D):dC (a :: x)=(plain a&&dC x):=by conv=>lhs;unfold dC
@[simp] theorem bAl:dX []=0:=by unfold dX;rfl
@[simp] theorem aMy(a:D)(x:List D):dX (a :: x)=max (dep a) (dX x):=by conv=>lhs;unfold dX
@[simp] theorem bCd(i j:Int):eqD (.int i) (.int j)=(i==j):=by unfold eqD;rfl
@[simp] theorem bCe(i j:List Nat):eqD (.str i) (.str j)=(i==j):=by unfold eqD;rfl
@[simp] theorem aU4:eqD .non .non=true:=by unfold eqD;rfl
@[simp] theorem aWi(b:Bool):eqD .non (.bl b)=false:=by unfold eqD;rfl
@[simp] theorem aU5(j:Int):eqD .non (.int j)=false:=by unfold eqD;rfl
@[simp] theorem aU6(t:List Nat):eqD .non (.str t)=false:=by unfold eqD;rfl
@[simp] theorem aU7(y:List D):eqD .non (.tup y)=false:=by unfold eqD;rfl
@[simp] theorem aU8(y:List D):eqD .non (.lst y)=false:=by unfold eqD;rfl
@[simp] theorem aWj(a:Bool):eqD (.bl a) .non=false:=by unfold eqD;rfl
@[simp] theorem aYn(a:Bool)(b:Bool):eqD (.bl a) (.bl b)=(a==b):=by unfold eqD;rfl
@[simp] theorem aWk(a:Bool)(j:Int):eqD (.bl a) (.int j)=((if a then (1:Int) else 0)==j):=by unfold eqD;rfl
@[simp] theorem aWl(a:Bool)(t:List Nat):eqD (.bl a) (.str t)=false:=by unfold eqD;rfl
@[simp] theorem aWm(a:Bool)(y:List D):eqD (.bl a) (.tup y)=false:=by unfold eqD;rfl
@[simp] theorem aWn(a:Bool)(y:List D):eqD (.bl a) (.lst y)=false:=by unfold eqD;rfl
@[simp] theorem aU9(i:Int):eqD (.int i) .non=false:=by unfold eqD;rfl
@[simp] theorem aWo(i:Int)(b:Bool):eqD (.int i) (.bl b)=(i==(if b then (1:Int) else 0)):=by unfold eqD;rfl
@[simp] theorem aUa(i:Int)(t:List Nat):eqD (.int i) (.str t)=false:=by unfold eqD;rfl
@[simp] theorem aUb(i:Int)(y:List D):eqD (.int i) (.tup y)=false:=by unfold eqD;rfl
@[simp] theorem aUc(i:Int)(y:List D):eqD (.int i) (.lst y)=false:=by unfold eqD;rfl
@[simp] theorem aUd(s:List Nat):eqD (.str s) .non=false:=by unfold eqD;rfl
@[simp] theorem aWp(s:List Nat)(b:Bool):eqD (.str s) (.bl b)=false:=by unfold eqD;rfl
@[simp] theorem aUe(s:List Nat)(j:Int):eqD (.str s) (.int j)=false:=by unfold eqD;rfl
@[simp] theorem aUf(s:List Nat)(y:List D):eqD (.str s) (.tup y)=false:=by unfold eqD;rfl
@[simp] theorem aUg(s:List Nat)(y:List D):eqD (.str s) (.lst y)=false:=by unfold eqD;rfl
@[simp] theorem aUh(x:List D):eqD (.tup x) .non=false:=by unfold eqD;rfl
@[simp] theorem aWq(x:List D)(b:Bool):eqD (.tup x) (.bl b)=false:=by unfold eqD;rfl
@[simp] theorem aUi(x:List D)(j:Int):eqD (.tup x) (.int j)=false:=by unfold eqD;rfl
@[simp] theorem aUj(x:List D)(t:List Nat):eqD (.tup x) (.str t)=false:=by unfold eqD;rfl
@[simp] theorem aUk(x:List D)(y:List D):eqD (.tup x) (.tup y)=eU x y:=by conv=>lhs;unfold eqD
@[simp] theorem aUl(x:List D)(y:List D):eqD (.tup x) (.lst y)=false:=by unfold eqD;rfl
@[simp] theorem aUm(x:List D):eqD (.lst x) .non=false:=by unfold eqD;rfl
@[simp] theorem aWr(x:List D)(b:Bool):eqD (.lst x) (.bl b)=false:=by unfold eqD;rfl
@[simp] theorem aUn(x:List D)(j:Int):eqD (.lst x) (.int j)=false:=by unfold eqD;rfl
@[simp] theorem aUo(x:List D)(t:List Nat):eqD (.lst x) (.str t)=false:=by unfold eqD;rfl
@[simp] theorem aUp(x:List D)(y:List D):eqD (.lst x) (.tup y)=false:=by unfold eqD;rfl
@[simp] theorem aUq(x:List D)(y:List D):eqD (.lst x) (.lst y)=eU x y:=by conv=>lhs;unfold eqD
@[simp] theorem aS6:eU [] []=true:=by unfold eU;rfl
@[simp] theorem aR8(b:D)(y:List D):eU [] (b :: y)=false:=by unfold eU;rfl
@[simp] theorem aR9(b:D)(y:List D):eU (b :: y) []=false:=by unfold eU;rfl
@[simp] theorem aOz(a b:D)(x y:List D):eU (a :: x) (b :: y)=(eqD a b&&eU x y):=by conv=>lhs;unfold eU
@[simp] theorem bAm(x:List Nat):dR (.str x)=aH (x.length<=big) (.ok (.int x.length)):=rfl
@[simp] theorem bAn(x:List D):dR (.lst x) = .ok (.int x.length):=rfl
@[simp] theorem bCf(x:List Nat)(i:Int):dIx (.str x) (.int i)=aH (x.length<=big) (ofO ((atI x i).map fun c => .str [c])):=rfl
@[simp] theorem bCg(x:List D)(i:Int):dIx (.tup x) (.int i)=ofO (atI x i):=rfl
@[simp] theorem bCh(x:List D)(i:Int):dIx (.lst x) (.int i)=ofO (atI x i):=rfl
@[simp] theorem bCi(x:List Nat)(l h:Option Int):dSl (.str x) l h=aH (x.length<=big) (.ok (.str (cut x l h))):=rfl
@[simp] theorem bDu(xs:List D):ofK .l xs = .lst xs:=rfl
@[simp] theorem bDv(t:Bool)(ks xs:List D):ofK (.d t ks) xs = .dct t ks xs:=rfl
@[simp] theorem bDw(n:Nat)(c:String)(ns:List String)(xs:List D):ofK (.i n c ns) xs = .ins c ns xs:=rfl
@[simp] theorem bAo{α:Type}(a:α):ofO (some a) = .ok a:=rfl
@[simp] theorem gR{α:Type}{c:Prop}{r:R α}(h:c):aH c r=r:=aG h
@[simp] theorem aUr(n:Nat) : -(big:Int)<=(n:Int):=aP (by omega)
@[simp] theorem aUs{n:Int}(h:0<=n) : -(big:Int)<=n:=aP (by omega)
@[simp] theorem aKw{np n:Nat}{b:Bd}{ds:List D}(h:ds.length=np):dJ np n b ds=(b (ds.map (fun d=>some (.v d))++List.replicate (n - np) none)).bind fun x=>match x with
  | .nx _ => .ok .non
  | .rt d => .ok d
  | _ => .bad:=aG h
theorem aP0{α:Type}{xs:List α}{i:Int}(h0:0<=i)(h:i < xs.length):atI xs i=some (xs[i.toNat]'(by omega)):=by
 unfold atI ixN
 rw [if_pos h0,if_pos h]
 exact List.getElem?_eq_getElem (by omega)
theorem atI_nat{α:Type}{xs:List α}{i:Nat}(h:i < xs.length):atI xs (i:Int)=some xs[i]:=by
 rw [aP0 (by omega) (by omega)]
 simp
theorem vP(lo:Int)(n:Nat):(fL lo n).length=n:=by simp [fL]
end Pu
namespace Pu
def aBv:D->R D
 | .lst x => .ok (.lst x)
 | .tup x => .ok (.lst x)
 | _ => .bad
def bls:List D->R (List Bool)
 | [] => .ok []
 | .bl b :: r=>(bls r).bind fun x => .ok (b :: x)
 | _ :: _ => .bad
def vQ:List D->R (List Int)
 | [] => .ok []
 | .int i :: r=>(vQ r).bind fun x => .ok (i :: x)
 | _ :: _ => .bad
def xX:List D->R (List (List Nat))
 | [] => .ok []
 | .str s :: r=>(xX r).bind fun x => .ok (s :: x)
 | _ :: _ => .bad
def aB2:D->R D
 | .lst x=>(bls x).bind fun l => .ok (.bl (l.all id))
 | _ => .bad
def aDh:List Int->Int
 | []=>0
 | i :: r=>r.foldl (fun a b=>if b > a then b else a) i
noncomputable def xY:D->R D
 | .lst x=>(vQ x).bind fun l=>aH (0 < l.length) (.ok (.int (aDh l)))
 | _ => .bad
def xZ(sep:List Nat):List (List Nat)->List Nat
 | []=>[]
 | [x]=>x
 | x :: r=>x++sep++xZ sep r
noncomputable def aE2:Mop
 | .str sep,[.lst x]=>(xX x).bind fun l=>aH ((l.map List.length).sum+l.length * sep.length<=big) (.ok (.str (xZ sep l)))
 | _,_ => .bad
theorem aP1:∀ {x:List D} {l:List Bool},bls x = .ok l->x=l.map D.bl
 | [],l,h=>by cases h;rfl
 | d :: x,l,h=>by
  cases d<;>first | (cases h;done) | skip
  obtain ⟨l',h1,h2⟩:=R.ok_of h
  cases h2
  rw [aP1 h1];rfl
theorem yC:∀ {x:List D} {l:List Int},vQ x = .ok l->x=l.map D.int
 | [],l,h=>by cases h;rfl
 | d :: x,l,h=>by
  cases d<;>first | (cases h;done) | skip
  obtain ⟨l',h1,h2⟩:=R.ok_of h
  cases h2
  rw [yC h1];rfl
theorem aGv:∀ {x:List D} {l:List (List Nat)},xX x = .ok l->x=l.map D.str
 | [],l,h=>by cases h;rfl
 | d :: x,l,h=>by
  cases d<;>first | (cases h;done) | skip
  obtain ⟨l',h1,h2⟩:=R.ok_of h
  cases h2
  rw [aGv h1];rfl
theorem aKx:∀ (l:List Bool),bls (l.map D.bl) = .ok l
 | []=>rfl
 | b :: l=>by show (bls (l.map D.bl)).bind _=_;rw [aKx l];rfl
theorem qP:∀ (l:List Int),vQ (l.map D.int) = .ok l
 | []=>rfl
 | b :: l=>by show (vQ (l.map D.int)).bind _=_;rw [qP l];rfl
theorem aE3:∀ (l:List (List Nat)),xX (l.map D.str) = .ok l
 | []=>rfl
 | b :: l=>by show (xX (l.map D.str)).bind _=_;rw [aE3 l];rfl
theorem zT:∀ (r:List Int) (a:Int),a<=r.foldl (fun a b=>if b > a then b else a) a/\(∀ x∈r,x<=r.foldl (fun a b=>if b > a then b else a) a)/\(r.foldl (fun a b=>if b > a then b else a) a=a\/r.foldl (fun a b=>if b > a then b else a) a∈r)
 | [],a=>⟨Int.le_refl _,fun _ h=>(by cases h),.inl rfl⟩
 | b :: r,a=>by
  obtain ⟨h1,h2,h3⟩:=zT r (if b > a then b else a)
  rw [List.foldl_cons]
  have ha:a<=(if b > a then b else a):=by split<;>omega
  have hb:b<=(if b > a then b else a):=by split<;>omega
  refine ⟨Int.le_trans ha h1,fun x hx=>?_,?_⟩
  ·rcases List.mem_cons.mp hx with rfl | hx
   ·exact Int.le_trans hb h1
   ·exact h2 x hx
  ·rcases h3 with h3 | h3
   ·rw [h3]
    split
    ·exact .inr List.mem_cons_self
    ·exact .inl rfl
   ·exact .inr (List.mem_cons_of_mem _ h3)
theorem aKy{l:List Int}{m:Int}(hm:m∈l)(hx:∀ x∈l,x<=m):aDh l=m:=by
 cases l with
 | nil=>cases hm
 | cons i r =>
  obtain ⟨h1,h2,h3⟩:=zT r i
  have ha:aDh (i :: r)<=m:=by
   rcases h3 with h3 | h3
   ·exact hx _ (by show r.foldl _ i∈_;rw [h3];exact List.mem_cons_self)
   ·exact hx _ (List.mem_cons_of_mem _ h3)
  have hb:m<=aDh (i :: r):=by
   rcases List.mem_cons.mp hm with e | e
   ·rw [e];exact h1
   ·exact h2 _ e
  omega
def R.nox{α:Type}(r:R α):R α:=match r with
 | .exc _ => .bad
 | r=>r
theorem R.nox_ok{α:Type}{r:R α}{a:α}(h:r.nox = .ok a):r = .ok a:=by
 cases r with
 | ok b=>exact h
 | exc x=>cases h
 | bad=>cases h
@[simp] theorem bCj{α:Type}(a:α):(R.ok a).nox = .ok a:=rfl
def sNX(b:Bd):Bd:=fun st=>(b st).nox
def eNX(f:Ex):Ex:=fun st=>(f st).nox
def pNX(p:List D->R D):List D->R D:=fun ds=>(p ds).nox
noncomputable def qF(c:String)(r:Exs):Bd:=fun st=>(r st).nox.bind fun xs=>aH (xs.length<=100) (.exc (.exn c [] []))
def aP2:List (List String × List String × (String->Bd))->String->PSt->R Fl
 | [],_,_ => .bad
 | (yes,no,b) :: hs,c,st=>if c∈yes then (b c st).nox else if c∈no then aP2 hs c st else .bad
def bDh(b:Bd)(hs:List (List String × List String × (String->Bd))):Bd:=fun st=>match b st with
 | .exc (.exn c [] [])=>aP2 hs c st
 | .exc _ => .bad
 | r=>r
def zU(p:List D->R D)(r:Exs):Ex:=fun st=>(r st).nox.bind p
noncomputable def rN(c m:String)(p:List D->R D)(dv:List D)(f:Ex)(r:Exs):Ex:=fun st=>(f st).nox.bind fun x=>(r st).nox.bind fun xs=>match x with
 | .ins c' ns _=>aH (c'=c/\m ∉ ns) (p (x :: (xs++dv)))
 | _ => .bad
def e2X(op:Op2)(f g:Ex):Ex:=fun st=>(f st).bind fun x=>(g st).nox.bind fun y=>(op x y).nox
inductive NFl where
 | nx (xss:List (List D)) (st:PSt) | rt (d:D)
abbrev NB:=List (List D)->PSt->R NFl
def bDi(j:Nat)(f:Ex):NB:=fun xss st=>(f st).bind fun d => .ok (.nx xss (st.set j (some (.v d))))
def bDj(f:Ex):NB:=fun _ st=>(f st).bind fun d => .ok (.rt d)
def nIf(c:Ex)(a b:NB):NB:=fun xss st=>(c st).bind fun x=>onB x fun q=>if q=true then a xss st else b xss st
noncomputable def bDk(g f:Ex):NB:=fun xss st=>(g st).bind fun x=>inI x fun j=>(f st).bind fun d=>(ofO (ixN xss.length j)).bind fun k=>match xss[k]? with
 | some ys=>aH (ys.length < big) (.ok (.nx (xss.set k (ys++[d])) st))
 | none => .bad
def aP3(i:Nat):Bd:=fun st=>match st[i]? with
 | some (some (.o .l xs)) => .ok (.rt (.lst xs))
 | _ => .bad
def yD(bd:Bd)(i:Nat):Bd:=fun st=>match bd st with
 | .ok (.nx s)=>aP3 i s
 | _ => .bad
def atom:D->Bool
 | .non=>true
 | .bl _=>true
 | .int _=>true
 | .str _=>true
 | _=>false
def bAp:D->Bool
 | .lst xs=>xs.all atom
 | _=>false
noncomputable section
def aWs:D->R D
 | .lst xs=>aH (xs.length<=big/\xs.all bAp=true) (.ok (.lst xs))
 | _ => .bad
def unL:D->List D
 | .lst xs=>xs
 | _=>[]
open Classical in
def bDx(c:String)(np n:Nat)(b:Bd)(ds:List D):R D:=if h:∃ r,∀ x,aE0 c np n b x ds=r then choose h else .bad
end
noncomputable section
end
noncomputable section
end
def yE:List Nat->List D->List D
 | c :: z,d :: ds => .tup [.str [c],d] :: yE z ds
 | _,_=>[]
def aUt(f g:Ex):ItE:=fun st=>(f st).bind fun x=>(g st).bind fun y=>match x,y with
 | .str z,.lst ds => .ok (yE z ds)
 | _,_ => .bad
noncomputable section
def aFf:D->R D
 | .int n=>aH (-(big:Int)<=n/\n<=(big:Int)) (.ok (.lst (fL 0 n.toNat)))
 | _ => .bad
def aJ6(i:Nat)(g f:Ex):Bd:=fun st=>(g st).bind fun k=>(f st).bind fun d=>aH (aOr k=true/\atom d=true) (.ok (.nx (st.set i (some (.o (.d false [k]) [d])))))
end
noncomputable section
def aDi:Op2
 | .int i,.int j=>aH (0<=j/\j<=1000000/\i.natAbs < 18446744073709551616) (.ok (.int (i * 2 ^ j.toNat)))
 | _,_ => .bad
def aBw:Op2
 | .int i,.int j=>aH (0<=j) (.ok (.int (i / 2 ^ j.toNat)))
 | _,_ => .bad
def zV:Op2
 | .int i,.int j=>aH (0<=i/\0<=j) (.ok (.int ((i.toNat &&& j.toNat:Nat):Int)))
 | _,_ => .bad
def dOr:Op2
 | .int i,.int j=>aH (0<=i/\0<=j) (.ok (.int ((i.toNat ||| j.toNat:Nat):Int)))
 | _,_ => .bad
def aKz:Mop
 | .lst xs,[.int k]=>(vQ xs).bind fun l=>(ofO (l.findIdx? fun i=>i==k)).bind fun n=>aH (xs.length<=big) (.ok (.int (n:Int)))
 | _,_ => .bad
end
def nQ(i:Int):Nat:=if i=0 then 0 else i.natAbs.log2+1
def aB5:D->R D
 | .int i => .ok (.int (nQ i:Nat))
 | _ => .bad
def aJ7:Op2
 | .int i,.int j => .ok (.bl (decide (i < j)))
 | _,_ => .bad
noncomputable def mW:Op2
 | .int i,.int j=>aH ((-18446744073709551616 < i/\i < 18446744073709551616)\/(-18446744073709551616 < j/\j < 18446744073709551616)) (.ok (.int (i * j)))
 | _,_ => .bad
@[simp] theorem bAq(i j:Int):aJ7 (.int i) (.int j) = .ok (.bl (decide (i < j))):=rfl
@[simp] theorem aYo(i j:Int):mW (.int i) (.int j)=aH ((-18446744073709551616 < i/\i < 18446744073709551616)\/(-18446744073709551616 < j/\j < 18446744073709551616)) (.ok (.int (i * j))):=rfl
end Pu
namespace Pu
noncomputable section
def aBx:D->D->D->R D
 | .dct t ks vs,k,x=>aH (keyOk t k=true) (if lO ks k=true then ofO (pA ks vs k) else .ok x)
 | _,_,_ => .bad
def aP4(f g h:Ex):Ex:=fun st=>(f st).bind fun d=>(g st).bind fun k=>(h st).bind fun x=>aBx d k x
end
end Pu
namespace Pu
noncomputable section
def aFg(l:List Int):List Int:=l.mergeSort fun a b=>decide (a<=b)
theorem aBy(l:List Int):(aFg l).Perm l:=List.mergeSort_perm _ _
theorem aGw(l:List Int):(aFg l).Pairwise (· <= ·):=by
 have h:=List.pairwise_mergeSort (le:=fun a b:Int=>decide (a<=b)) (fun a b c h1 h2=>by
  have:=of_decide_eq_true h1
  have:=of_decide_eq_true h2
  exact decide_eq_true (by omega)) (fun a b=>by
  rcases Int.le_total a b with h | h
  ·simp [h]
  ·simp [h]) l
 exact h.imp fun h=>of_decide_eq_true h
def aL0:D->R D
 | .dct false ks _=>(vQ ks).bind fun l=>aH (l.length < 64) (.ok (.lst ((aFg l).map D.int)))
 | _ => .bad
end
end Pu
namespace Pu
noncomputable section
def aAd:Bd:=bU (sIf (e2 aJ7 (aB 1) (e1 dR (aB 0))) (cY (e2 dIx (aB 0) (aB 1))) (dN)) (bU (sIf (e2 dEq (aB 0) (pY (aW))) (cY (e2 mW (eC (.int 7919)) (aB 1))) (dN)) (cY (e2 kZ (e2 xV (e2 dIx (aB 0) (e2 nY (aB 1) (e1 dR (aB 0)))) (e2 kZ (aB 1) (eC (.int 1)))) (e2 mW (eC (.int 7919)) (aB 1)))))
def gC:List D->R D:=dJ 2 2 aAd
def wN:Bd:=bU (eF 3 (e2 nY (e2 mW (e2 kZ (e2 nY (aB 0) (eC (.int 2147483647))) (e2 mW (eC (.int 7919)) (aB 1))) (eC (.int 48271))) (eC (.int 2147483629)))) (bU (eF 3 (e2 nY (e2 mW (e2 nY (e2 mW (aB 3) (aB 3)) (eC (.int 2147483647))) (eC (.int 69621))) (eC (.int 2147483587)))) (cY (e2 nY (e2 nY (e2 mW (aB 3) (aB 3)) (eC (.int 2147483629))) (aB 2))))
def bT:List D->R D:=dJ 3 4 wN
def qQ(st:PSt):R D:=(aX bT (aC (aB 10) (aC (e2 kZ (eC (.int 11)) (aB 13)) (aC (aB 4) (aW))))) st
def iK(st:PSt):R D:=(e2 nY (e2 xV (aB 10) (e2 dIx (pY (aC (eC (.int 1)) (aC (eC (.int 8)) (aC (eC (.int 64)) (aW))))) (aB 13))) (aB 4)) st
def iM(st:PSt):R Fl:=(bU (eF 10 (aX gC (aC (aB 0) (aC (e2 kZ (e2 kZ (aB 1) (eC (.int 2))) (aB 9)) (aW))))) (bU (pG 11 (dU [13] (tgN 13) (tQ (aB 5)) fH (qQ))) (bU (eF 12 (aX bT (aC (aB 10) (aC (eC (.int 10)) (aC (eC (.int 7)) (aW)))))) (bU (sIf (e2 dEq (aX bT (aC (aB 3) (aC (eC (.int 6)) (aC (eC (.int 2)) (aW))))) (eC (.int 0))) (bU (pG 11 (dU [13] (tgN 13) (tQ (aB 5)) fH (iK))) (eF 12 (e2 nY (e2 xV (aB 10) (eC (.int 512))) (eC (.int 7))))) (sIf (pB (e2 dEq (aX bT (aC (aB 3) (aC (eC (.int 3)) (aC (eC (.int 2)) (aW))))) (eC (.int 0))) (e2 dGt (aX bT (aC (aB 10) (aC (eC (.int 8)) (aC (eC (.int 4)) (aW))))) (eC (.int 0)))) (aOs 11 (aX bT (aC (aB 10) (aC (eC (.int 9)) (aC (aB 5) (aW))))) (e2 nY (e2 kZ (aB 9) (eC (.int 1))) (aB 4))) (dN))) (bU (sFz [11] (zR 7 (aB 11))) (zR 8 (e2 mW (aB 12) (aB 6)))))))) st
def uD:Bd:=bU (eF 3 (aX gC (aC (aB 0) (aC (aB 1) (aW))))) (bU (eF 4 (e2 kZ (eC (.int 1)) (aX bT (aC (aB 3) (aC (eC (.int 1)) (aC (e2 dIx (pY (aC (eC (.int 4)) (aC (eC (.int 5)) (aC (eC (.int 5)) (aC (aB 2) (aW)))))) (aX bT (aC (aB 3) (aC (eC (.int 5)) (aC (eC (.int 4)) (aW)))))) (aW))))))) (bU (eF 5 (e2 kZ (eC (.int 1)) (aX bT (aC (aB 3) (aC (eC (.int 2)) (aC (eC (.int 3)) (aW))))))) (bU (eF 6 (e2 dIx (pY (aC (eC (.int 1)) (aC (eC (.int 1)) (aC (eC (.int 1)) (aC (e2 kZ (eC (.int 1)) (e2 mW (eC (.int 2)) (e2 nY (aX gC (aC (aB 0) (aC (e2 kZ (aB 1) (eC (.int 1))) (aW)))) (e2 aOq (eC (.int 10)) (eC (.int 27)))))) (aW)))))) (aX bT (aC (aB 3) (aC (eC (.int 4)) (aC (eC (.int 4)) (aW))))))) (bU (pG 7 (pY (aW))) (bU (pG 8 (pY (aW))) (bU (qC (tgN 9) (tQ (aB 4)) (iM)) (sFz [7,8] (cY (aJ3 (aC (aB 7) (aC (aB 8) (aW))))))))))))
def gZ:List D->R D:=dJ 3 14 uD
def vR(st:PSt):R D:=(e2 dIx (eC (.str [97,98,99])) (aX bT (aC (e2 xV (aB 0) (e2 kZ (e2 nY (aB 5) (eC (.int 5))) (eC (.int 1)))) (aC (e2 kZ (eC (.int 32)) (aB 5)) (aC (aB 1) (aW)))))) st
def aAe:Bd:=bU (eF 4 (e2 kZ (aB 2) (aX bT (aC (aB 0) (aC (eC (.int 31)) (aC (e2 kZ (e2 aMv (aB 3) (aB 2)) (eC (.int 1))) (aW))))))) (cY (eMt aE2 (eC (.str [])) (aC (dU [5] (tgN 5) (tQ (aB 4)) fH (vR)) (aW))))
def mX:List D->R D:=dJ 4 6 aAe
def vU(st:PSt):R Fl:=(eF 1 (e2 dIx (e2 dIx (aB 0) (aB 1)) (eMt uB (eC (.str [97,98,99])) (aC (aB 4) (aW))))) st
def vV(st:PSt):R Fl:=(eF 1 (e2 dIx (e2 dIx (aB 0) (aB 1)) (eMt uB (eC (.str [97,98,99])) (aC (aB 4) (aW))))) st
def vW(st:PSt):R Fl:=(qC (tgN 4) (itE (aB 3)) (vV)) st
def vX(st:PSt):R Fl:=(bU (eF 1 (e2 dIx (e2 dIx (aB 0) (aB 1)) (eMt uB (eC (.str [97,98,99])) (aC (aB 4) (aW))))) (sDPut 6 (aB 1) (eC (.bl true)))) st
def vY(st:PSt):R Fl:=(qC (tgN 4) (itE (aB 3)) (vX)) st
def aAf:Bd:=bU (qC (tgN 4) (itE (aB 2)) (vU)) (bU (qC (tgN 5) (tQ (e1 dR (aB 0))) (vW)) (bU (aGu 6 false) (bU (qC (tgN 5) (tQ (e1 dR (aB 0))) (vY)) (sFz [6] (cY (e1 aL0 (aB 6)))))))
def jR:List D->R D:=dJ 4 7 aAf
def jT(st:PSt):R Fl:=(eF 1 (e2 dOr (aB 1) (e2 aDi (eC (.int 1)) (aB 2)))) st
def zW:Bd:=bU (eF 1 (eC (.int 0))) (bU (qC (tgN 2) (itE (aB 0)) (jT)) (cY (aB 1)))
def fD:List D->R D:=dJ 1 3 zW
def wO:Bd:=cY (e2 dEq (e2 zV (e2 aBw (aB 0) (aB 1)) (eC (.int 1))) (eC (.int 1)))
def dG:List D->R D:=dJ 2 2 wO
def rO(st:PSt):R D:=(aB 1) st
def rP(st:PSt):R D:=(aX dG (aC (aB 0) (aC (aB 1) (aW)))) st
def wQ:Bd:=cY (dU [1] (tgN 1) (tQ (e1 aB5 (aB 0))) (rP) (rO))
def bV:List D->R D:=dJ 1 2 wQ
def uE(st:PSt):R Fl:=(sDPut 3 (aB 4) (e2 zV (e2 dOr (aX fD (aC (e2 dIx (aB 0) (aB 4)) (aW))) (e2 aDi (eC (.int 1)) (aB 4))) (aB 1))) st
def lB(st:PSt):R Fl:=(sIf (aX dG (aC (e2 dIx (cZ 3) (aB 4)) (aC (aB 5) (aW)))) (sDPut 3 (aB 4) (e2 dOr (e2 dIx (cZ 3) (aB 4)) (e2 dIx (cZ 3) (aB 5)))) (dN)) st
def uF(st:PSt):R Fl:=(qC (tgN 4) (itE (aB 2)) (lB)) st
def yF:Bd:=bU (eF 2 (aX bV (aC (aB 1) (aW)))) (bU (aGu 3 false) (bU (qC (tgN 4) (itE (aB 2)) (uE)) (bU (qC (tgN 5) (itE (aB 2)) (uF)) (sFz [3] (cY (aB 3))))))
def gF:List D->R D:=dJ 2 6 yF
def yG:Bd:=bU (eF 2 (aX bV (aC (aB 1) (aW)))) (cY (eOr (e2 dGt (e1 dR (aB 2)) (eC (.int 1))) (e2 dIn (e2 dIx (aB 2) (eC (.int 0))) (e2 dIx (aB 0) (e2 dIx (aB 2) (eC (.int 0)))))))
def nZ:List D->R D:=dJ 2 3 yG
def sX(st:PSt):R D:=(aB 6) st
def sY(st:PSt):R D:=(aX dG (aC (e2 dIx (aB 2) (aB 6)) (aC (aB 4) (aW)))) st
def nM(st:PSt):R Fl:=(bU (eF 5 (aX fD (aC (dU [6] (tgN 6) (itE (aX bV (aC (e2 dIx (aB 2) (aB 4)) (aW)))) (sY) (sX)) (aW)))) (sIf (pB (e2 jF (aB 5) (cZ 3)) (aX nZ (aC (aB 0) (aC (aB 5) (aW))))) (zR 3 (aB 5)) (dN))) st
def vZ:Bd:=bU (eF 2 (aX gF (aC (aB 0) (aC (aB 1) (aW))))) (bU (pG 3 (pY (aW))) (bU (qC (tgN 4) (itE (aX bV (aC (aB 1) (aW)))) (nM)) (sFz [3] (cY (aB 3)))))
def mL:List D->R D:=dJ 2 7 vZ
def yH:Bd:=cY (aX mL (aC (e1 (jM "Machine" "steps") (aB 0)) (aC (aB 1) (aW))))
def dY:List D->R D:=dJ 2 2 yH
def zX:Bd:=cY (e2 dEq (aX dY (aC (aB 0) (aC (aB 1) (aW)))) (pY (aC (aB 1) (aW))))
def lQ:List D->R D:=dJ 2 2 zX
def oA(st:PSt):R D:=(e2 dIx (e1 (jM "Machine" "ranks") (aB 0)) (aB 2)) st
def wR:Bd:=bU (sIf (eNX (e2 dEq (aB 1) (eC (.int 0)))) (qF "NoLoop" (aC (eC (.str [97,32,115,101,116,32,119,105,116,104,111,117,116,32,114,111,111,109,115,32,104,97,115,32,110,111,32,103,114,101,97,116,101,115,116,32,114,97,110,107])) (aW))) (dN)) (sNX (cY (e1 xY (dU [2] (tgN 2) (itE (aX bV (aC (aB 1) (aW)))) fH (oA)))))
def rQ:List D->R D:=dJ 2 3 wR
def zY:Bd:=cY (e2X dEq (e2X nY (zU rQ (aC (aB 0) (aC (aB 1) (aW)))) (eC (.int 2))) (eC (.int 0)))
def oG:List D->R D:=dJ 2 2 zY
def aAg:Bd:=cY (aX fD (aC (e1 aFf (e1 (jM "Machine" "many") (aB 0))) (aW)))
def mY:List D->R D:=dJ 1 1 aAg
def aAh:Bd:=cY (e2 dIx (aX gF (aC (e1 (jM "Machine" "steps") (aB 0)) (aC (aX mY (aC (aB 0) (aW))) (aW)))) (aB 1))
def iB:List D->R D:=dJ 2 2 aAh
def zZ:Bd:=cY (pB (eB aW5 (aB 0)) (e2 dEq (eMt aBq (aB 0) (aC (eSl (eC (.str [97,98,99])) (aDy) (pF (aB 1))) (aW))) (eC (.str []))))
def jU:List D->R D:=dJ 2 2 zZ
def rR:Bd:=bU (sIf (eOr (pX (eB aW7 (aB 0))) (e2 dNe (e1 dR (aB 0)) (eC (.int 2)))) (cY (eC (.bl false))) (dN)) (cY (pB (aX jU (aC (e2 dIx (aB 0) (eC (.int 0))) (aC (aB 1) (aW)))) (pB (aX jU (aC (e2 dIx (aB 0) (eC (.int 1))) (aC (aB 1) (aW)))) (e2 dNe (e2 dIx (aB 0) (eC (.int 1))) (eC (.str []))))))
def gG:List D->R D:=dJ 2 2 rR
def wU:Bd:=cY (pB (eB isIn (aB 0)) (pX (eB aW6 (aB 0))))
def jN:List D->R D:=dJ 1 1 wU
def wV:Bd:=cY (pB (aX jN (aC (aB 0) (aW))) (pB (e2 dGe (aB 0) (eC (.int 0))) (e2 aJ7 (aB 0) (aB 1))))
def iC:List D->R D:=dJ 2 2 wV
def mZ:Bd:=sIf (eNX (pX (aX iC (aC (aB 1) (aC (e1 (jM "Machine" "many") (aB 0)) (aW)))))) (qF "NoRoom" (aC (eC (.str [116,104,105,115,32,105,115,32,110,111,32,114,111,111,109,32,111,102,32,116,104,101,32,109,97,99,104,105,110,101])) (aW))) (dN)
def cR:List D->R D:=dJ 2 2 mZ
def fP(st:PSt):R Fl:=(bU (eF 1 (e2 dIx (e2 dIx (e1 (jM "Machine" "steps") (aB 0)) (aB 1)) (eMt aDx (eC (.str [97,98,99])) (aC (aB 4) (aW))))) (zR 3 (aB 1))) st
def cU:Bd:=bU (pG 3 (pY (aC (aB 1) (aW)))) (bU (qC (tgN 4) (itE (aB 2)) (fP)) (dN))
def tR:Bd:=yD cU 3
def bG:List D->R D:=dJ 3 5 tR
def lR(st:PSt):R Fl:=(bU (sDPut 4 (e2 dIx (cZ 3) (e1 aB1 (eC (.int 1)))) (e2 aMv (e1 dR (cZ 3)) (eC (.int 1)))) (aRz 3 (eSl (qO "Machine" "rooms_along" (bG) [] (aB 0) (aC (e2 dIx (cZ 3) (e1 aB1 (eC (.int 1)))) (aC (e2 dIx (aB 1) (eC (.int 1))) (aW)))) (pF (eC (.int 1))) (aDy)))) st
def iQ(st:PSt):R D:=(e2 jF (e2 dIx (cZ 3) (e1 aB1 (eC (.int 1)))) (cZ 4)) st
def uG:Bd:=bU (aMx (rN "Machine" "check_room" cR [] (aB 0) (aC (aB 2) (aW)))) (bU (sIf (eNX (pX (aX gG (aC (aB 1) (aC (e1 (jM "Machine" "letters") (aB 0)) (aW)))))) (qF "NoWord" (aC (eC (.str [116,104,105,115,32,105,115,32,110,111,32,101,110,100,108,101,115,115,32,119,111,114,100,32,111,102,32,116,104,101,32,109,97,99,104,105,110,101,39,115,32,108,101,116,116,101,114,115])) (aW))) (dN)) (bU (sNX (pG 3 (qO "Machine" "rooms_along" (bG) [] (aB 0) (aC (aB 2) (aC (e2 dIx (aB 1) (eC (.int 0))) (aW)))))) (bU (sNX (aGu 4 false)) (bU (sNX (aBs 100000 (iQ) (lR))) (bU (sNX (eF 5 (e2 dIx (cZ 4) (e2 dIx (cZ 3) (e1 aB1 (eC (.int 1))))))) (sNX (cY (aJ3 (aC (eSl (cZ 3) (aDy) (pF (aB 5))) (aC (eSl (cZ 3) (pF (aB 5)) (pF (e1 aB1 (eC (.int 1))))) (aW)))))))))))
def iD:List D->R D:=dJ 3 6 uG
def lU(st:PSt):R D:=(e2 dIx (e1 (jM "Machine" "ranks") (aB 0)) (aB 4)) st
def uH:Bd:=bU (eF 3 (e2X dIx (rN "Machine" "walk" iD [] (aB 0) (aC (aB 1) (aC (aB 2) (aW)))) (eC (.int 1)))) (sNX (cY (e2 dEq (e2 nY (e1 xY (dU [4] (tgN 4) (itE (aB 3)) fH (lU))) (eC (.int 2))) (eC (.int 0)))))
def eV:List D->R D:=dJ 3 5 uH
def oU(st:PSt):R D:=(e2 dIx (aB 2) (aB 10)) st
def jO(st:PSt):R D:=(aB 9) st
def jP(st:PSt):R D:=(e2 dGt (e2 zV (aB 9) (aB 6)) (eC (.int 0))) st
def qR:Bd:=bU (eF 5 (aX jR (aC (aB 1) (aC (aB 3) (aC (e2 dIx (aB 4) (eC (.int 0))) (aC (e2 dIx (aB 4) (eC (.int 1))) (aW))))))) (bU (eF 6 (aX fD (aC (aB 5) (aW)))) (bU (eF 7 (e2 dEq (e2 nY (e1 xY (dU [10] (tgN 10) (itE (aB 5)) fH (oU))) (eC (.int 2))) (eC (.int 0)))) (bU (sIf (eOr (pX (aX lQ (aC (aB 0) (aC (aB 6) (aW))))) (eOr (e2 dNe (aX (pNX oG) (aC (aB 0) (aC (aB 6) (aW)))) (aB 7)) (e2 dNe (qO "Machine" "lets" (pNX eV) [] (aB 0) (aC (aB 4) (aC (aB 3) (aW)))) (aB 7)))) (cY (eC (.bl false))) (dN)) (bU (eF 8 (dU [9] (tgN 9) (itE (aX dY (aC (aB 0) (aC (aX iB (aC (aB 0) (aC (aB 3) (aW)))) (aW))))) (jP) (jO))) (cY (pB (e2 dEq (e1 dR (aB 8)) (eC (.int 1))) (e2 dEq (e2 dOr (e2 dIx (aB 8) (eC (.int 0))) (aB 6)) (e2 dIx (aB 8) (eC (.int 0))))))))))
def iR:List D->R D:=dJ 5 11 qR
def lC(st:PSt):R Fl:=(sIf (pB (e2 dEq (e2 zV (e2 aBw (aB 1) (aB 5)) (eC (.int 1))) (eC (.int 1))) (e2 jF (aB 5) (cZ 3))) (zR 3 (aB 5)) (dN)) st
def uI(st:PSt):R Fl:=(bU (qC (tgN 5) (itE (e2 dIx (aB 0) (e2 dIx (cZ 3) (aB 4)))) (lC)) (eF 4 (e2 kZ (aB 4) (eC (.int 1))))) st
def oV(st:PSt):R D:=(e2 aJ7 (aB 4) (e1 dR (cZ 3))) st
def rT:Bd:=bU (pG 3 (pY (aC (aB 2) (aW)))) (bU (eF 4 (eC (.int 0))) (bU (aBs 100000 (oV) (uI)) (sFz [3] (cY (aB 3)))))
def iT:List D->R D:=dJ 3 6 rT
def qT(st:PSt):R D:=(aB 3) st
def qU(st:PSt):R D:=(e2 dEq (e2 zV (e2 aBw (aB 1) (aB 3)) (eC (.int 1))) (eC (.int 1))) st
def qW(st:PSt):R Fl:=(sIf (e2 dNe (e1 dR (aX iT (aC (aB 0) (aC (aB 1) (aC (aB 3) (aW)))))) (e1 dR (aB 2))) (cY (eC (.bl false))) (dN)) st
def uJ:Bd:=bU (eF 2 (dU [3] (tgN 3) (tQ (e1 dR (aB 0))) (qU) (qT))) (bU (qC (tgN 3) (itE (aB 2)) (qW)) (cY (eOr (e2 dGt (e1 dR (aB 2)) (eC (.int 1))) (pB (e2 dEq (e1 dR (aB 2)) (eC (.int 1))) (e2 dIn (e2 dIx (aB 2) (eC (.int 0))) (e2 dIx (aB 0) (e2 dIx (aB 2) (eC (.int 0)))))))))
def lD:List D->R D:=dJ 2 4 uJ
def oW(st:PSt):R D:=(aB 1) st
def oX(st:PSt):R D:=(aX lD (aC (aB 0) (aC (aB 1) (aW)))) st
def rW:Bd:=cY (dU [1] (tgN 1) (aRy (eC (.int 1)) (e2 aDi (eC (.int 1)) (e1 dR (aB 0)))) (oX) (oW))
def oE:List D->R D:=dJ 1 2 rW
def mO(st:PSt):R Fl:=(sIf (pB (e2 dIn (aB 8) (aB 2)) (e2 jF (aB 8) (cZ 3))) (bU (sDPut 3 (aB 8) (e2 kZ (e2 dIx (cZ 3) (aB 6)) (aB 7))) (zR 4 (aB 8))) (dN)) st
def wA(st:PSt):R Fl:=(bU (eF 6 (e2 dIx (cZ 4) (aB 5))) (bU (qC (tgT [7,8]) (aUt (eC (.str [97,98,99])) (e2 dIx (aB 0) (aB 6))) (mO)) (eF 5 (e2 kZ (aB 5) (eC (.int 1)))))) st
def qG(st:PSt):R D:=(e2 aJ7 (aB 5) (e1 dR (cZ 4))) st
def uK:Bd:=bU (aJ6 3 (aB 1) (eC (.str []))) (bU (pG 4 (pY (aC (aB 1) (aW)))) (bU (eF 5 (eC (.int 0))) (bU (aBs 100000 (qG) (wA)) (sFz [3] (cY (aB 3))))))
def jV:List D->R D:=dJ 3 9 uK
def aGx:Bd:=bU (sIf (pX (aX dG (aC (aB 1) (aC (aB 2) (aW))))) (cY (eC .non)) (dN)) (cY (aP4 (aX jV (aC (e1 (jM "Machine" "steps") (aB 0)) (aC (aB 2) (aC (aX bV (aC (aB 1) (aW))) (aW))))) (aB 3) (eC .non)))
def nA:List D->R D:=dJ 4 4 aGx
def yI(st:PSt):R Fl:=(sIf (e2 jF (aB 5) (qO "Machine" "rooms_along" (bG) [] (aB 0) (aC (aB 2) (aC (aB 3) (aW))))) (bU (eF 3 (e2 kZ (aB 3) (aX nA (aC (aB 0) (aC (aB 1) (aC (aB 4) (aC (aB 5) (aW)))))))) (eF 4 (aB 5))) (dN)) st
def aBz:Bd:=bU (sIf (eNX (pX (aX lQ (aC (aB 0) (aC (aB 1) (aW)))))) (qF "NoLoop" (aC (eC (.str [116,104,105,115,32,115,101,116,32,111,102,32,114,111,111,109,115,32,105,115,32,110,111,32,108,111,111,112])) (aW))) (dN)) (bU (sIf (eNX (pX (aX dG (aC (aB 1) (aC (aB 2) (aW)))))) (qF "NoLoop" (aC (eC (.str [116,104,101,32,114,111,111,109,32,105,115,32,110,111,116,32,105,110,32,116,104,101,32,108,111,111,112])) (aW))) (dN)) (bU (sNX (sIf (e2 dEq (aX bV (aC (aB 1) (aW))) (pY (aC (aB 2) (aW)))) (cY (e2 dIx (eC (.str [97,98,99])) (eMt aKz (e2 dIx (e1 (jM "Machine" "steps") (aB 0)) (aB 2)) (aC (aB 2) (aW))))) (dN))) (bU (sNX (eF 3 (eC (.str [])))) (bU (sNX (eF 4 (aB 2))) (bU (sNX (qC (tgN 5) (itE (aX bV (aC (aB 1) (aW)))) (yI))) (sNX (cY (e2 kZ (aB 3) (aX nA (aC (aB 0) (aC (aB 1) (aC (aB 4) (aC (aB 2) (aW))))))))))))))
def rY:List D->R D:=dJ 3 6 aBz
def pJ:Bd:=bU (sNX (eF 3 (e2 dIx (aX bV (aC (aB 2) (aW))) (eC (.int 0))))) (bU (eF 4 (zU rY (aC (aB 0) (aC (aB 2) (aC (aB 3) (aW)))))) (bU (sNX (sIf (e2 dNe (aX jR (aC (aB 1) (aC (aB 3) (aC (eC (.str [])) (aC (aB 4) (aW)))))) (aX bV (aC (aB 2) (aW)))) (cY (eC (.bl false))) (dN))) (cY (e2X dEq (rN "Machine" "lets" eV [] (aB 0) (aC (aJ3 (aC (eC (.str [])) (aC (aB 4) (aW)))) (aC (aB 3) (aW)))) (aX (pNX oG) (aC (aB 0) (aC (aB 2) (aW))))))))
def gW:List D->R D:=dJ 3 5 pJ
def lV:Bd:=cY (pB (eB aMw (aB 0)) (pB (e2 dGe (e1 dR (aB 0)) (eC (.int 1))) (e2 dLe (e1 dR (aB 0)) (aB 1))))
def dH:List D->R D:=dJ 2 2 lV
def wW(st:PSt):R D:=(aX iC (aC (aB 3) (aC (aB 2) (aW)))) st
def aC0:Bd:=cY (pB (e2 dEq (e1 dR (aB 0)) (aB 1)) (e1 aB2 (dU [3] (tgN 3) (itE (aB 0)) fH (wW))))
def yJ:List D->R D:=dJ 3 4 aC0
def qH(st:PSt):R D:=(aX dH (aC (aB 1) (aC (eC (.int 3)) (aW)))) st
def qI(st:PSt):R D:=(aX yJ (aC (aB 1) (aC (e1 dR (e2 dIx (aB 0) (eC (.int 0)))) (aC (e1 dR (aB 0)) (aW))))) st
def uL:Bd:=bU (sIf (pX (aX dH (aC (aB 0) (aC (eC (.int 8)) (aW))))) (cY (eC (.bl false))) (dN)) (bU (sIf (pX (e1 aB2 (dU [1] (tgN 1) (itE (aB 0)) fH (qH)))) (cY (eC (.bl false))) (dN)) (cY (e1 aB2 (dU [1] (tgN 1) (itE (aB 0)) fH (qI)))))
def pK:List D->R D:=dJ 1 2 uL
def qJ(st:PSt):R D:=(pB (aX jN (aC (aB 2) (aW))) (e2 dGe (aB 2) (eC (.int 0)))) st
def uM:Bd:=bU (sIf (eOr (pX (eB aMw (aB 0))) (e2 dNe (e1 dR (aB 0)) (aB 1))) (cY (eC (.bl false))) (dN)) (cY (e1 aB2 (dU [2] (tgN 2) (itE (aB 0)) fH (qJ))))
def pL:List D->R D:=dJ 2 3 uM
def iG(st:PSt):R D:=(e1 aBv (aB 3)) st
def eX:Bd:=bU (sIf (pX (aX pK (aC (aB 1) (aW)))) (aJ4) (dN)) (bU (sIf (pX (aX pL (aC (aB 2) (aC (e1 dR (aB 1)) (aW))))) (aJ4) (dN)) (bU (aDz 0 "Machine" "steps" (dU [3] (tgN 3) (itE (aB 1)) fH (iG))) (bU (aDz 0 "Machine" "ranks" (e1 aBv (aB 2))) (bU (aDz 0 "Machine" "many" (e1 dR (aB 1))) (aDz 0 "Machine" "letters" (e1 dR (e2 dIx (aB 1) (eC (.int 0)))))))))
def gH:List D->R D:=aFe "Machine" 2 4 eX
def aL1(st:PSt):R D:=(e1 aBv (aB 8)) st
def aFh(st:PSt):R Fl:=(bU (eF 6 (e2 dIx (pY (aC (eC (.int 6)) (aC (eC (.int 6)) (aC (eC (.int 6)) (aC (eC (.int 6)) (aC (eC (.int 6)) (aC (eC (.int 6)) (aC (eC (.int 6)) (aC (eC (.int 40)) (aW)))))))))) (aX bT (aC (aB 2) (aC (eC (.int 41)) (aC (eC (.int 8)) (aW))))))) (bU (eF 7 (aJ3 (aC (aX mX (aC (aB 2) (aC (e1 dR (e2 dIx (aB 4) (eC (.int 0)))) (aC (eC (.int 0)) (aC (aB 6) (aW)))))) (aC (aX mX (aC (e2 kZ (aB 2) (eC (.int 1))) (aC (e1 dR (e2 dIx (aB 4) (eC (.int 0)))) (aC (eC (.int 1)) (aC (aB 6) (aW)))))) (aW))))) (sIf (pX (aX iR (aC (aB 1) (aC (aB 4) (aC (aB 5) (aC (aX bT (aC (aB 2) (aC (eC (.int 42)) (aC (e1 dR (aB 4)) (aW))))) (aC (aB 7) (aW)))))))) (cY (eC (.bl false))) (dN)))) st
def aL2(st:PSt):R Fl:=(sIf (pX (aX (pNX gW) (aC (aB 1) (aC (aB 4) (aC (aB 3) (aW)))))) (cY (eC (.bl false))) (dN)) st
def aUu:Bd:=bU (aW8 (tgT [4,5]) (aX gZ (aC (aB 0) (aC (eC (.int 0)) (aC (eC (.int 8)) (aW)))))) (bU (eF 1 (aX gH (aC (dU [8] (tgN 8) (itE (aB 4)) fH (aL1)) (aC (e1 aBv (aB 5)) (aW))))) (bU (qC (tgN 2) (itE (eSl (aB 0) (pF (eC (.int 10))) (pF (eC (.int 40))))) (aFh)) (bU (qC (tgN 3) (itE (aX oE (aC (aB 4) (aW)))) (aL2)) (cY (e2 dGt (e1 dR (aX dY (aC (aB 1) (aC (aX iB (aC (aB 1) (aC (eC (.int 0)) (aW)))) (aW))))) (eC (.int 0)))))))
def aE4:List D->R D:=dJ 1 9 aUu
end
end Pu
namespace Pu
@[simp] theorem aYp{α β:Type}(x:D)(f:α->R β):(R.exc x:R α).bind f = .exc x:=rfl
@[simp] theorem bAr{α:Type}:(R.bad:R α).nox = .bad:=rfl
@[simp] theorem bAs{α:Type}(x:D):(R.exc x:R α).nox = .bad:=rfl
@[simp] theorem bAt(x:D)(f:PSt->R Fl):aDg (.exc x) f = .exc x:=rfl
@[simp] theorem aWt(b:Bd)(st:PSt):sNX b st=(b st).nox:=rfl
@[simp] theorem bDl(f:Ex)(st:PSt):eNX f st=(f st).nox:=rfl
@[simp] theorem bDm(p:List D->R D)(ds:List D):pNX p ds=(p ds).nox:=rfl
@[simp] theorem aYq(c:String)(r:Exs)(st:PSt):qF c r st=(r st).nox.bind fun xs=>aH (xs.length<=100) (.exc (.exn c [] [])):=rfl
@[simp] theorem aYr(p:List D->R D)(r:Exs)(st:PSt):zU p r st=(r st).nox.bind p:=rfl
@[simp] theorem aYs(c m:String)(p:List D->R D)(dv:List D)(f:Ex)(r:Exs)(st:PSt):rN c m p dv f r st=(f st).nox.bind fun x=>(r st).nox.bind fun xs=>match x with | .ins c' ns _=>aH (c'=c/\m ∉ ns) (p (x :: (xs++dv))) | _ => .bad:=rfl
@[simp] theorem bCk(b:Bd)(hs:List (List String × List String × (String->Bd)))(st:PSt):bDh b hs st=(match b st with | .exc (.exn c [] [])=>aP2 hs c st | .exc _ => .bad | r=>r):=rfl
@[simp] theorem aYt(yes no:List String)(b:String->Bd)(hs:List (List String × List String × (String->Bd)))(c:String)(st:PSt):aP2 ((yes,no,b) :: hs) c st=if c∈yes then (b c st).nox else if c∈no then aP2 hs c st else .bad:=rfl
@[simp] theorem aGy(x:List D):aB2 (.lst x)=(bls x).bind fun l => .ok (.bl (l.all id)):=rfl
@[simp] theorem aYu(x:List D):aBv (.lst x) = .ok (.lst x):=rfl
@[simp] theorem aYv(x:List D):aBv (.tup x) = .ok (.lst x):=rfl
theorem aP5{x:List D}{l:List Bool}(h:x=l.map D.bl)(ht:∀ b∈l,b=true):aB2 (.lst x) = .ok (.bl true):=by
 subst h
 rw [aGy,aKx]
 have:l.all id=true:=List.all_eq_true.mpr fun b hb=>by simp [ht b hb]
 simp [this]
end Pu
namespace Pu
@[simp] theorem aYw:xX [] = .ok []:=rfl
@[simp] theorem aWu(s:List Nat)(r:List D):xX (.str s :: r)=(xX r).bind fun x => .ok (s :: x):=rfl
@[simp] theorem bCl(j:Nat)(f:Ex)(xss:List (List D))(st:PSt):bDi j f xss st=(f st).bind fun d => .ok (.nx xss (st.set j (some (.v d)))):=rfl
@[simp] theorem bCm(f:Ex)(xss:List (List D))(st:PSt):bDj f xss st=(f st).bind fun d => .ok (.rt d):=rfl
@[simp] theorem bDn(c:Ex)(a b:NB)(xss:List (List D))(st:PSt):nIf c a b xss st=(c st).bind fun x=>onB x fun q=>if q=true then a xss st else b xss st:=rfl
@[simp] theorem bCn(g f:Ex)(xss:List (List D))(st:PSt):bDk g f xss st=(g st).bind fun x=>inI x fun j=>(f st).bind fun d=>(ofO (ixN xss.length j)).bind fun k=>match xss[k]? with
 | some ys=>aH (ys.length < big) (.ok (.nx (xss.set k (ys++[d])) st))
 | none => .bad:=rfl
end Pu
namespace Pu
def Ltr(m:Int)(x:List Nat):Prop:=∀ c∈x,97<=c/\(c:Int) < 97+m
end Pu
namespace Pu
theorem aZ{a b:Bd}{st st':PSt}{r:R Fl}(h:a st = .ok (.nx st'))(h2:b st'=r):bU a b st=r:=by
 rw [aKt,h]
 exact h2
theorem fJ{a b:Bd}{st:PSt}{r:R Fl}(h:a st = .ok (.nx st))(h2:b st=r):bU a b st=r:=aZ h h2
theorem aC1{a b:Bd}{st:PSt}{d:D}(h:a st = .ok (.rt d)):bU a b st = .ok (.rt d):=by
 rw [aKt,h]
 rfl
theorem cN{np n:Nat}{b:Bd}{ds:List D}{d:D}(h:ds.length=np)(hb:b (ds.map (fun d=>some (.v d))++List.replicate (n - np) none) = .ok (.rt d)):dJ np n b ds = .ok d:=by
 rw [aKw h,hb]
 rfl
theorem aWv{np n:Nat}{b:Bd}{ds:List D}{st:PSt}(h:ds.length=np)(hb:b (ds.map (fun d=>some (.v d))++List.replicate (n - np) none) = .ok (.nx st)):dJ np n b ds = .ok .non:=by
 rw [aKw h,hb]
 rfl
end Pu
namespace Pu
theorem aAi(n:Nat):fL 0 n=(List.range n).map fun (k:Nat)=>D.int (k:Int):=by
 unfold fL
 refine List.map_congr_left fun k _=>?_
 rw [Int.zero_add]
theorem aC2{L:Bd}{j:Nat}(S:Option Sl->PSt)(hset:∀ x d,(S x).set j (some (.v d))=S (some (.v d)))(p:Nat->Bool)(r:Nat->D):∀ (ks:List Nat),(∀ k∈ks,L (S (some (.v (.int (k:Int)))))=if p k=true then .ok (.rt (r k)) else .ok (.nx (S (some (.v (.int (k:Int))))))) ->
  ∀ x,∃ x',forR (tgN j) L (ks.map fun (k:Nat)=>D.int (k:Int)) (S x)=match ks.find? p with | some k => .ok (.rt (r k)) | none => .ok (.nx (S x'))
 | [],_,x=>⟨x,rfl⟩
 | k :: ks,hb,x=>by
  have h0:=hb k List.mem_cons_self
  rw [List.map_cons,jQ]
  simp only [aWf,aN,hset,h0]
  by_cases hp:p k=true
  ·refine ⟨x,?_⟩
   rw [if_pos hp,List.find?_cons_of_pos hp]
   rfl
  ·obtain ⟨x',e⟩:=aC2 S hset p r ks (fun k hk=>hb k (List.mem_cons_of_mem _ hk)) (some (.v (.int (k:Int))))
   refine ⟨x',?_⟩
   rw [if_neg hp,List.find?_cons_of_neg hp]
   exact e
theorem oH{tg:Tg}{c f:Ex}{st:PSt}(g:D->D):∀ (ds:List D),(∀ d∈ds,∃ s1,tg d st = .ok s1/\c s1 = .ok (.bl true)/\f s1 = .ok (g d))->nP tg c f st ds = .ok (ds.map g)
 | [],_=>rfl
 | d :: ds,h=>by
  obtain ⟨s1,e1,e2,e3⟩:=h d List.mem_cons_self
  rw [rM,e1]
  simp only [aN,e2,qD,if_true,e3,oH g ds fun d hd=>h d (List.mem_cons_of_mem _ hd),List.map_cons]
end Pu
namespace Pu
theorem cM{i:Nat}{f:Ex}{st:PSt}{d:D}(h:f st = .ok d):eF i f st = .ok (.nx (st.set i (some (.v d)))):=by rw [aKu,h,aN]
theorem uZ{i:Nat}{f:Ex}{st:PSt}{xs:List D}(h:f st = .ok (.lst xs)):pG i f st = .ok (.nx (st.set i (some (.o .l xs)))):=by rw [aOx,h,aN]
theorem aY{p:List D->R D}{r:Exs}{st:PSt}{ds:List D}{x:R D}(h:r st = .ok ds)(hp:p ds=x):aX p r st=x:=by rw [aOv,h,aN,hp]
theorem aU{op:Op2}{f g:Ex}{st:PSt}{x y:D}{z:R D}(hf:f st = .ok x)(hg:g st = .ok y)(h:op x y=z):e2 op f g st=z:=by rw [aBt,hf,aN,hg,aN,h]
theorem aB3{c:Ex}{a b:Bd}{st:PSt}{r:R Fl}(h:c st = .ok (.bl true))(ha:a st=r):sIf c a b st=r:=by rw [aJ5,h,aN,qD,if_pos rfl,ha]
theorem qK{c:Ex}{a b:Bd}{st:PSt}{r:R Fl}(h:c st = .ok (.bl false))(hb:b st=r):sIf c a b st=r:=by rw [aJ5,h,aN,qD,if_neg Bool.false_ne_true,hb]
theorem wX{f g:Ex}{st:PSt}{p q:Bool}(hf:f st = .ok (.bl p))(hg:p=true->g st = .ok (.bl q)):pB f g st = .ok (.bl (p&&q)):=by
 rw [aKr,hf,aN,qD]
 cases p with
 | true=>rw [if_pos rfl,hg rfl];rfl
 | false=>rfl
theorem aGz{f g:Ex}{st:PSt}{p q:Bool}(hf:f st = .ok (.bl p))(hg:p=false->g st = .ok (.bl q)):eOr f g st = .ok (.bl (p||q)):=by
 rw [aW9,hf,aN,qD]
 cases p with
 | true=>rfl
 | false=>rw [if_neg Bool.false_ne_true,hg rfl];rfl
theorem rZ{f:Ex}{st:PSt}{p:Bool}(hf:f st = .ok (.bl p)):pX f st = .ok (.bl (!p)):=by rw [aKs,hf,aN,qD]
theorem fQ{f:Ex}{st:PSt}{d:D}(h:f st = .ok d):cY f st = .ok (.rt d):=by rw [pI,h,aN]
theorem iH{tg:Tg}{it:ItE}{L:Bd}{st:PSt}{xs:List D}{r:R Fl}(h:it st = .ok xs)(hr:forR tg L xs st=r):qC tg it L st=r:=by rw [aKv,h,aN,hr]
theorem bH{f:Ex}{r:Exs}{st:PSt}{d:D}{ds:List D}(h:f st = .ok d)(hr:r st = .ok ds):aC f r st = .ok (d :: ds):=by rw [aOu,h,aN,hr,aN]
theorem sE{r:Exs}{st:PSt}{ds:List D}(h:r st = .ok ds)(hl:ds.length<=1000:=by exact of_decide_eq_true rfl):pY r st = .ok (.lst ds):=by rw [aS1,h,aN,aG (aQ (Nat.le_trans hl (by decide)))]
theorem uN{i j:Int}(h:0 < j):nY (.int i) (.int j) = .ok (.int (i % j)):=aG h
theorem aB6{i j:Int}(h:0 < j/\j < 1073741824):xV (.int i) (.int j) = .ok (.int (i / j)):=aG h
theorem uO(i j:Int):dEq (.int i) (.int j) = .ok (.bl (decide (i=j))):=by
 have:(i==j)=decide (i=j):=by by_cases h:i=j<;>simp [h]
 rw [<-this]
 exact aG ⟨Nat.zero_le 64,rfl,rfl⟩
theorem aWw(i j:Int):dNe (.int i) (.int j) = .ok (.bl (!decide (i=j))):=by
 have:(i==j)=decide (i=j):=by by_cases h:i=j<;>simp [h]
 rw [<-this]
 exact aG ⟨Nat.zero_le 64,rfl,rfl⟩
theorem aC3{i:Nat}{f:Ex}{st:PSt}{d:D}{xs:List D}(h:f st = .ok d)(hs:st[i]?=some (some (.o .l xs)))(hl:xs.length < 1000000):zR i f st = .ok (.nx (st.set i (some (.o .l (xs++[d]))))):=by
 rw [aS3,h,aN,hs]
 exact aG (bC (Nat.lt_trans hl (by decide)))
theorem aH0{f:Ex}{st:PSt}{n:Nat}(h:f st = .ok (.int n))(hn:n<=1000000):tQ f st = .ok ((List.range n).map fun (k:Nat)=>D.int (k:Int)):=by
 rw [aS2,h,aN,<-aAi]
 exact aG ⟨aP (by omega),aO (by omega)⟩
theorem vA{E C:Ex}{is:List Nat}{tg:Tg}{it:ItE}{st:PSt}{ys xs:List D}(h:it st = .ok xs)(hl:xs.length<=1000000)(hc:nP tg C E (clr is st) xs = .ok ys):dU is tg it C E st = .ok (.lst ys):=by
 rw [xW,h,aN,aG (aQ (Nat.le_trans hl (by decide))),hc,aN]
theorem aH1{c:Ex}{b:Bd}{st st':PSt}{n:Nat}{r:R Fl}(hc:c st = .ok (.bl true))(hb:b st = .ok (.nx st'))(hr:jG c b n st'=r):jG c b (n+1) st=r:=by
 rw [pH,hc,aN,qD,if_pos rfl,hb]
 exact hr
theorem aE5{c:Ex}{b:Bd}{st:PSt}{n:Nat}(hc:c st = .ok (.bl false)):jG c b (n+1) st = .ok (.nx st):=by rw [pH,hc,aN,qD,if_neg Bool.false_ne_true]
theorem qL{tg:Tg}{L:Bd}{d:D}{ds:List D}{st s1 s2:PSt}{r:R Fl}(ht:tg d st = .ok s1)(hL:L s1 = .ok (.nx s2))(hr:forR tg L ds s2=r):forR tg L (d :: ds) st=r:=by
 rw [jQ,ht,aN,hL]
 exact hr
theorem jE{xs:List D}{i:Int}{d:D}(h:atI xs i=some d):dIx (.lst xs) (.int i) = .ok d:=by
 show ofO (atI xs i)=_
 rw [h]
 rfl
theorem aWx{p q:Nat}(h:p < q):decide ((p:Int) < (q:Int))=true:=decide_eq_true (by omega)
theorem aWy{p q:Nat}(h:¬ p < q):decide ((p:Int) < (q:Int))=false:=decide_eq_false (by omega)
theorem pM{r:R D}{p q:Bool}(h:r = .ok (.bl p))(e:p=q):r = .ok (.bl q):=by rw [h,e]
theorem aAj{f:Ex}{st:PSt}{xs:List D}(h:f st = .ok (.lst xs)):itE f st = .ok xs:=by rw [aOw,h,aN]
theorem aWz{i:Nat}{f:Ex}{st:PSt}{xs ys:List D}(h:f st = .ok (.lst ys))(hs:st[i]?=some (some (.o .l xs)))(hl:xs.length+ys.length<=big):aRz i f st = .ok (.nx (st.set i (some (.o .l (xs++ys))))):=by
 rw [aS5,h,aN]
 dsimp only
 rw [hs]
 exact aG hl
end Pu
namespace Pu
def good(m:Int)(x:List Nat):Bool:=x.all fun c=>decide (97<=c/\(c:Int) < 97+m)
theorem aC4{m:Int}{x:List Nat}:good m x=true ↔ Ltr m x:=by
 unfold good Ltr
 simp
theorem aL3{m:Int}(hm:1<=m)(hm3:m<=3){c:Nat}:c∈cut [97,98,99] none (some m) ↔ 97<=c/\(c:Int) < 97+m:=by
 have h3:m=1\/m=2\/m=3:=by omega
 rcases h3 with rfl | rfl | rfl
 ·show c∈[97] ↔ _
  simp;omega
 ·show c∈[97,98] ↔ _
  simp;omega
 ·show c∈[97,98,99] ↔ _
  simp;omega
theorem wB{α:Type}(p:α->Bool):∀ x:List α,x.dropWhile p=[] ↔ ∀ c∈x,p c=true
 | []=>by simp
 | a :: x=>by
  cases h:p a with
  | true=>rw [List.dropWhile_cons_of_pos h,wB p x];simp [h]
  | false=>rw [List.dropWhile_cons_of_neg (by simp [h])];simp [h]
theorem takeWhile_all{α:Type}(p:α->Bool):∀ (x:List α) (c:α),c∈x.takeWhile p->p c=true
 | [],c,h=>by simp at h
 | a :: x,c,h=>by
  cases ha:p a with
  | true =>
   rw [List.takeWhile_cons_of_pos ha] at h
   rcases List.mem_cons.mp h with rfl | h
   ·exact ha
   ·exact takeWhile_all p x c h
  | false=>rw [List.takeWhile_cons_of_neg (by simp [ha])] at h;simp at h
theorem strip_nil(x y:List Nat):pW x y=[] ↔ ∀ c∈x,c∈y:=by
 unfold pW
 rw [List.reverse_eq_nil_iff,wB]
 constructor
 ·intro h
  have h2:∀ c∈x.dropWhile (fun c=>y.contains c),c∈y:=fun c hc=>by simpa using h c (by simpa using hc)
  have h3:∀ c∈x.takeWhile (fun c=>y.contains c),c∈y:=fun c hc=>by
   simpa using takeWhile_all (fun c=>y.contains c) x c hc
  intro c hc
  rw [<-List.takeWhile_append_dropWhile (p:=fun c=>y.contains c) (l:=x)] at hc
  exact (List.mem_append.mp hc).elim (h3 c) (h2 c)
 ·intro h c hc
  rw [List.mem_reverse] at hc
  have:c∈x:=List.IsSuffix.subset (List.dropWhile_suffix _) hc
  simpa using h c this
theorem aC5(x:List Nat)(m:Int)(hm:1<=m)(hm3:m<=3)(h:x.length<=1000000):jU [.str x,.int m] = .ok (.bl (good m x)):=by
 unfold jU zZ
 have e:(pW x (cut [97,98,99] none (some m))==[])=good m x:=by
  rw [Bool.eq_iff_iff,beq_iff_eq,strip_nil,aC4]
  exact ⟨fun z c hc=>(aL3 hm hm3).mp (z c hc),fun z c hc=>(aL3 hm hm3).mpr (z c hc)⟩
 simp [aW5,show x.length<=big from aQ (by omega),e]
theorem aDj(x y:D)(m:Int)(p q:Bool)(hp:jU [x,.int m] = .ok (.bl p))(hq:jU [y,.int m] = .ok (.bl q))(hy:plain y=true)(hd:dep y<=64):gG [.tup [x,y],.int m] = .ok (.bl (p&&(q && !eqD y (.str [])))):=by
 unfold gG rR
 have g1:atI [x,y] 0=some x:=rfl
 have g2:atI [x,y] 1=some y:=rfl
 cases p<;>cases q<;>simp [aW7,g1,g2,hp,hq,hy,hd]
end Pu
namespace Pu
def nats(l:List Nat):List D:=l.map fun (x:Nat)=>D.int (x:Int)
structure Mch(S:List (List Nat))(rk:List Nat)(c:Nat):Prop where
 one:1<=S.length
 most:S.length<=8
 c1:1<=c
 c3:c<=3
 row:∀ r∈S,r.length=c/\∀ x∈r,x < S.length
 rks:rk.length=S.length
def stD(S:List (List Nat)):List D:=S.map fun r=>D.lst (nats r)
theorem aH2{tg:Tg}{c f:Ex}{st:PSt}{P:D->D->Prop}:∀ (ds:List D),(∀ d∈ds,∃ s1 y,tg d st = .ok s1/\c s1 = .ok (.bl true)/\f s1 = .ok y/\P d y)->∃ ys,nP tg c f st ds = .ok ys/\ys.length=ds.length/\∀ y∈ys,∃ d∈ds,P d y
 | [],_=>⟨[],rfl,rfl,fun _ h=>nomatch h⟩
 | d :: ds,h=>by
  obtain ⟨s1,y,e1,e2,e3,e4⟩:=h d List.mem_cons_self
  obtain ⟨ys,e5,e6,e7⟩:=aH2 ds fun d hd=>h d (List.mem_cons_of_mem _ hd)
  refine ⟨y :: ys,?_,by simp [e6],fun z hz=>?_⟩
  ·rw [rM,e1]
   simp [e2,e3,e5]
  ·rcases List.mem_cons.mp hz with rfl | hz
   ·exact ⟨d,List.mem_cons_self,e4⟩
   ·obtain ⟨d',h1,h2⟩:=e7 z hz
    exact ⟨d',List.mem_cons_of_mem _ h1,h2⟩
theorem aJ8{lo:Int}{n:Nat}{d:D}(h:d∈fL lo n):∃ k:Nat,k < n/\d = .int (lo+k):=by
 unfold fL at h
 obtain ⟨k,h1,h2⟩:=List.mem_map.mp h
 exact ⟨k,List.mem_range.mp h1,h2.symm⟩
theorem aL4:∀ (ys:List D) (n:Int),(∀ y∈ys,∃ i:Int,y = .int i/\0<=i/\i < n)->∃ r:List Nat,ys=nats r/\∀ x∈r,(x:Int) < n
 | [],_,_=>⟨[],rfl,fun _ h=>nomatch h⟩
 | y :: ys,n,h=>by
  obtain ⟨i,rfl,h0,h1⟩:=h y List.mem_cons_self
  obtain ⟨r,rfl,h2⟩:=aL4 ys n fun y hy=>h y (List.mem_cons_of_mem _ hy)
  refine ⟨i.toNat :: r,?_,fun x hx=>?_⟩
  ·unfold nats;rw [List.map_cons,Int.toNat_of_nonneg h0]
  ·rcases List.mem_cons.mp hx with rfl | hx
   ·rw [Int.toNat_of_nonneg h0];exact h1
   ·exact h2 x hx
theorem aP6{E:Ex}{st:PSt}{j v n:Nat}{P:D->Prop}(hv:st[v]?=some (some (.v (.int n))))(hn:n<=100000)(hE:∀ k:Nat,k < n->∃ y,E ((st.set j none).set j (some (.v (.int k)))) = .ok y/\P y) :
  ∃ ys,dU [j] (tgN j) (tQ (aB v)) fH E st = .ok (.lst ys)/\ys.length=n/\∀ y∈ys,P y:=by
 obtain ⟨ys,e1,e2,e3⟩:=aH2 (tg:=tgN j) (c:=fH) (f:=E) (st:=st.set j none) (P:=fun _ y=>P y) (fL 0 n) (fun d hd=>by
  obtain ⟨k,hk,rfl⟩:=aJ8 hd
  obtain ⟨y,h1,h2⟩:=hE k hk
  rw [Int.zero_add]
  exact ⟨_,y,rfl,rfl,h1,h2⟩)
 rw [vP] at e2
 refine ⟨ys,?_,e2,fun y hy=>let ⟨_,_,h⟩:=e3 y hy;h⟩
 simp [hv,show (n:Int)<=(big:Int) from aO (by omega),vP,show n<=big from aQ (by omega),e1]
theorem aE6{E:Ex}{st:PSt}{j v n:Nat}{m:Int}(hv:st[v]?=some (some (.v (.int n))))(hn:n<=100000)(hE:∀ k:Nat,k < n->∃ i,E ((st.set j none).set j (some (.v (.int k)))) = .ok (.int i)/\0<=i/\i < m) :
  ∃ r,dU [j] (tgN j) (tQ (aB v)) fH E st = .ok (.lst (nats r))/\r.length=n/\∀ x∈r,(x:Int) < m:=by
 obtain ⟨ys,e1,e2,e3⟩:=aP6 (P:=fun y=>∃ i:Int,y = .int i/\0<=i/\i < m) hv hn fun k hk=>let ⟨i,h1,h2⟩:=hE k hk;⟨_,h1,i,rfl,h2⟩
 obtain ⟨r,rfl,h⟩:=aL4 ys m e3
 exact ⟨r,e1,by rw [<-e2];unfold nats;simp,h⟩
end Pu
namespace Pu
theorem aFi{tg:Tg}{L:Bd}(P:PSt->Prop):∀ (ks:List D),(∀ d∈ks,∀ st,P st->∃ s1 st',tg d st = .ok s1/\L s1 = .ok (.nx st')/\P st')->∀ st,P st->∃ st',P st'/\forR tg L ks st = .ok (.nx st')
 | [],_,st,p=>⟨st,p,rfl⟩
 | d :: ks,h,st,p=>by
  obtain ⟨s1,st',e1,e2,p'⟩:=h d List.mem_cons_self st p
  obtain ⟨st2,p2,e3⟩:=aFi P ks (fun d hd=>h d (List.mem_cons_of_mem _ hd)) st' p'
  refine ⟨st2,p2,?_⟩
  rw [jQ,e1]
  simp only [aN,e2]
  exact e3
theorem aS7{α:Type}{xs:List α}{i:Int}(h0:0<=i)(h:i < xs.length):∃ a∈xs,atI xs i=some a:=⟨_,List.getElem_mem _,aP0 h0 h⟩
theorem yK{E:Ex}{st:PSt}{j v:Nat}{xs:List D}(hv:st[v]?=some (some (.v (.lst xs))))(hl:xs.length<=100000)(h:∀ d∈xs,E ((st.set j none).set j (some (.v d))) = .ok (.bl true)):e1 aB2 (dU [j] (tgN j) (itE (aB v)) fH E) st = .ok (.bl true):=by
 have e:=oH (tg:=tgN j) (c:=fH) (f:=E) (st:=st.set j none) (fun _=>D.bl true) xs fun d hd=>⟨_,rfl,rfl,h d hd⟩
 have e2:xs.map (fun _=>D.bl true)=(xs.map fun _=>true).map D.bl:=by simp
 simp [hv,show xs.length<=big from aQ (by omega),e]
 rw [e2,<-aGy]
 exact aP5 rfl fun b hb=>by obtain ⟨_,_,z⟩:=List.mem_map.mp hb;exact z.symm
theorem aE7{E:Ex}{st:PSt}{j v:Nat}{xs:List D}(hv:st[v]?=some (some (.v (.lst xs))))(hl:xs.length<=100000)(h:∀ d∈xs,E ((st.set j none).set j (some (.v d))) = .ok d):dU [j] (tgN j) (itE (aB v)) fH E st = .ok (.lst xs):=by
 have e:=oH (tg:=tgN j) (c:=fH) (f:=E) (st:=st.set j none) id xs fun d hd=>⟨_,rfl,rfl,h d hd⟩
 simp [hv,show xs.length<=big from aQ (by omega),e]
theorem aE8(i:Int):jN [.int i] = .ok (.bl true):=by
 unfold jN wU
 simp [isIn,aW6]
theorem aE9{x n:Nat}(h:x < n):iC [.int x,.int n] = .ok (.bl true):=by
 have hw:=aE8 x
 unfold iC wV
 simp [hw,h]
theorem aEa(xs:List D)(m:Int):dH [.lst xs,.int m] = .ok (.bl (decide (1<=(xs.length:Int))&&decide ((xs.length:Int)<=m))):=by
 unfold dH lV
 by_cases h:1<=xs.length
 ·have h':(1:Int)<=xs.length:=by omega
  simp [aMw,h,h']
 ·have h':¬ (1:Int)<=xs.length:=by omega
  simp [aMw,h,h']
theorem bQ(r:List Nat):(nats r).length=r.length:=by unfold nats;simp
theorem fM(S:List (List Nat)):(stD S).length=S.length:=by unfold stD;simp
theorem qX{r:List Nat}{d:D}(h:d∈nats r):∃ x∈r,d = .int (x:Nat):=by
 obtain ⟨x,h1,h2⟩:=List.mem_map.mp h
 exact ⟨x,h1,h2.symm⟩
theorem aB7{S:List (List Nat)}{d:D}(h:d∈stD S):∃ r∈S,d = .lst (nats r):=by
 obtain ⟨x,h1,h2⟩:=List.mem_map.mp h
 exact ⟨x,h1,h2.symm⟩
theorem aX0(r:List Nat)(n:Nat)(h:∀ x∈r,x < n)(hl:r.length<=1000):yJ [.lst (nats r),.int r.length,.int n] = .ok (.bl true):=by
 have e:=yK (E:=wW) (st:=[some (.v (.lst (nats r))),some (.v (.int r.length)),some (.v (.int n)),none]) (j:=3) (v:=0) (xs:=nats r) rfl (by rw [bQ];omega) (fun d hd=>by
  obtain ⟨x,hx,rfl⟩:=qX hd
  have:=h x hx
  simp [wW,aE9 this])
 refine cN rfl ?_
 unfold aC0
 have h1:e2 dEq (e1 dR (aB 0)) (aB 1) [some (.v (.lst (nats r))),some (.v (.int r.length)),some (.v (.int n)),none] = .ok (.bl true):=by simp [bQ]
 show cY _ [some (.v (.lst (nats r))),some (.v (.int r.length)),some (.v (.int n)),none]=_
 rw [pI,aKr,h1]
 show (e1 aB2 _ _).bind _=_
 rw [e]
 rfl
def mD(S:List (List Nat))(rk:List Nat)(c:Nat):D := .ins "Machine" ["steps", "ranks", "many", "letters"] [.lst (stD S),.lst (nats rk),.int S.length,.int c]
section
variable{S:List (List Nat)}{rk:List Nat}{c:Nat}
theorem Mch.row0(M:Mch S rk c):∃ r T,S=r :: T/\r.length=c:=by
 cases S with
 | nil=>exact absurd M.one (by simp)
 | cons r T=>exact ⟨r,T,rfl,(M.row r List.mem_cons_self).1⟩
theorem Mch.at0(M:Mch S rk c):∃ r,r∈S/\atI (stD S) 0=some (.lst (nats r))/\r.length=c:=by
 obtain ⟨r,T,rfl,h⟩:=M.row0
 refine ⟨r,List.mem_cons_self,?_,h⟩
 have:=atI_nat (xs:=stD (r :: T)) (i:=0) (by simp [stD])
 simpa [stD] using this
theorem aP7(M:Mch S rk c):pK [.lst (stD S)] = .ok (.bl true):=by
 obtain ⟨r0,hr0,e0,l0⟩:=M.at0
 have h1:=M.one
 have h8:=M.most
 have f1:=aEa (stD S) 8
 rw [fM] at f1
 have f1':dH [.lst (stD S),.int 8] = .ok (.bl true):=by rw [f1];congr 2;simp;omega
 have a1:=yK (E:=qH) (st:=[some (.v (.lst (stD S))),none]) (j:=1) (v:=0) (xs:=stD S) rfl (by rw [fM];omega) (fun d hd=>by
  obtain ⟨r,hr,rfl⟩:=aB7 hd
  have f:=aEa (nats r) 3
  rw [bQ,(M.row r hr).1] at f
  have h3:=M.c3
  have h0:=M.c1
  simp [qH,f]
  omega)
 have a2:=yK (E:=qI) (st:=[some (.v (.lst (stD S))),none]) (j:=1) (v:=0) (xs:=stD S) rfl (by rw [fM];omega) (fun d hd=>by
  obtain ⟨r,hr,rfl⟩:=aB7 hd
  have h3:=M.c3
  have f:=aX0 r S.length (M.row r hr).2 (by rw [(M.row r hr).1];omega)
  have el:(nats r0).length=r.length:=by rw [bQ,l0,(M.row r hr).1]
  simp [qI,e0,el,fM,f])
 refine cN rfl ?_
 unfold uL
 refine fJ (by simp [f1']) (fJ ?_ ?_)
 ·rw [aJ5,aKs]
  show ((e1 aB2 _ [some (.v (.lst (stD S))),none]).bind _).bind _=_
  rw [a1];rfl
 ·rw [pI]
  show (e1 aB2 _ [some (.v (.lst (stD S))),none]).bind _=_
  rw [a2];rfl
theorem aP8(M:Mch S rk c):pL [.lst (nats rk),.int S.length] = .ok (.bl true):=by
 have h8:=M.most
 have a1:=yK (E:=qJ) (st:=[some (.v (.lst (nats rk))),some (.v (.int S.length)),none]) (j:=2) (v:=0) (xs:=nats rk) rfl (by rw [bQ,M.rks];omega) (fun d hd=>by
  obtain ⟨x,hx,rfl⟩:=qX hd
  simp [qJ,aE8])
 refine cN rfl ?_
 unfold uM
 refine fJ (by simp [aMw,bQ,M.rks]) ?_
 rw [pI]
 show (e1 aB2 _ [some (.v (.lst (nats rk))),some (.v (.int S.length)),none]).bind _=_
 rw [a1];rfl
theorem aH3:jM "Machine" "many" (mD S rk c) = .ok (.int S.length):=by unfold mD;rw [uC,aG rfl];rfl
theorem aH4:jM "Machine" "letters" (mD S rk c) = .ok (.int c):=by unfold mD;rw [uC,aG rfl];rfl
theorem qY:jM "Machine" "steps" (mD S rk c) = .ok (.lst (stD S)):=by unfold mD;rw [uC,aG rfl];rfl
end
end Pu
namespace Pu
section
variable{S:List (List Nat)}{rk:List Nat}{c:Nat}
theorem aS8(M:Mch S rk c):gH [.lst (stD S),.lst (nats rk)] = .ok (mD S rk c):=by
 obtain ⟨r0,hr0,e0,l0⟩:=M.at0
 have h8:=M.most
 refine aS0 fun x=>?_
 unfold aE0
 rw [aG (show ([D.lst (stD S),D.lst (nats rk)]:List D).length=2 from rfl)]
 have hs:=aP7 M
 have hk:=aP8 M
 have cp:=aE7 (E:=iG) (st:=[some (.o (.i x "Machine" []) []),some (.v (.lst (stD S))),some (.v (.lst (nats rk))),none]) (j:=3) (v:=1) (xs:=stD S) rfl (by rw [fM];omega) (fun d hd=>by
  obtain ⟨r,hr,rfl⟩:=aB7 hd
  simp [iG])
 have key:eX [some (.o (.i x "Machine" []) []),some (.v (.lst (stD S))),some (.v (.lst (nats rk))),none] = .ok (.nx [some (.o (.i x "Machine" ["steps", "ranks", "many", "letters"]) [.lst (stD S),.lst (nats rk),.int S.length,.int c]),some (.v (.lst (stD S))),some (.v (.lst (nats rk))),none]):=by
  unfold eX
  refine fJ (by simp [hs]) (fJ (by simp [fM,hk]) ?_)
  refine aZ (st':=[some (.o (.i x "Machine" ["steps"]) [.lst (stD S)]),some (.v (.lst (stD S))),some (.v (.lst (nats rk))),none]) ?_ ?_
  ·rw [aOy,cp]
   simp
  refine aZ (st':=[some (.o (.i x "Machine" ["steps", "ranks"]) [.lst (stD S),.lst (nats rk)]),some (.v (.lst (stD S))),some (.v (.lst (nats rk))),none]) (by simp) ?_
  refine aZ (st':=[some (.o (.i x "Machine" ["steps", "ranks", "many"]) [.lst (stD S),.lst (nats rk),.int S.length]),some (.v (.lst (stD S))),some (.v (.lst (nats rk))),none]) (by simp [fM]) ?_
  simp [e0,bQ,l0]
 show (eX [some (.o (.i x "Machine" []) []),some (.v (.lst (stD S))),some (.v (.lst (nats rk))),none]).bind _=_
 rw [key]
 simp [mD]
end
end Pu
namespace Pu
theorem aA0(x:Nat)(l:List Nat):nats (x :: l) = .int (x:Nat) :: nats l:=rfl
theorem eY:∀ l:List Nat,dC (nats l)=true/\dX (nats l)=0/\eU (nats l) (nats l)=true
 | []=>⟨rfl,by unfold nats;simp,by unfold nats;simp [eU]⟩
 | x :: l=>by
  obtain ⟨h1,h2,h3⟩:=eY l
  rw [aA0]
  refine ⟨by simp [h1],by simp [h2],?_⟩
  unfold eU
  rw [h3]
  simp
end Pu
namespace Pu
section
variable{S:List (List Nat)}{rk:List Nat}{c:Nat}
def stp(S:List (List Nat))(q a:Nat):Nat:=(S.getD q []).getD a 0
theorem aJ9(M:Mch S rk c){q a:Nat}(hq:q < S.length)(ha:a < c):∃ r,atI (stD S) (q:Int)=some (.lst (nats r))/\atI (nats r) (a:Int)=some (.int (stp S q a))/\stp S q a < S.length:=by
 have hr:=M.row S[q] (List.getElem_mem hq)
 have ha':a < S[q].length:=by rw [hr.1];exact ha
 have e:stp S q a=S[q][a]:=by
  simp [stp,List.getD_eq_getElem?_getD,List.getElem?_eq_getElem hq,List.getElem?_eq_getElem ha']
 refine ⟨S[q],?_,?_,?_⟩
 ·rw [atI_nat (by rw [fM];exact hq)];simp [stD]
 ·rw [atI_nat (by rw [bQ];exact ha'),e];simp [nats]
 ·rw [e];exact hr.2 _ (List.getElem_mem ha')
theorem aH5{m:Nat}(h:m<=3){ch:Nat}(h1:97<=ch)(h2:(ch:Int) < 97+m):gM [97,98,99] [ch] 0=some (ch - 97):=by
 have:ch=97\/ch=98\/ch=99:=by omega
 rcases this with rfl | rfl | rfl<;>rfl
theorem aFj(M:Mch S rk c){q ch:Nat}(hq:q < S.length)(h1:97<=ch)(h2:(ch:Int) < 97+c):∃ r,atI (stD S) (q:Int)=some (.lst (nats r))/\atI (nats r) (((ch - 97:Nat)):Int)=some (.int (stp S q (ch - 97)))/\stp S q (ch - 97) < S.length:=aJ9 M hq (by omega)
def runs(S:List (List Nat)):Nat->List Nat->List Nat
 | _,[]=>[]
 | q,ch :: x=>stp S q (ch - 97) :: runs S (stp S q (ch - 97)) x
def lE(S:List (List Nat)):Nat->List Nat->Nat
 | q,[]=>q
 | q,ch :: x=>lE S (stp S q (ch - 97)) x
end
theorem fU:∀ (n:Nat) (l:List Nat),l.Nodup->(∀ x∈l,x < n)->l.length<=n
 | 0,l,_,h=>by
  cases l with
  | nil=>exact Nat.le_refl _
  | cons x l=>exact absurd (h x List.mem_cons_self) (by omega)
 | n+1,l,nd,h=>by
  have ih:=fU n (l.erase n) (nd.erase n) fun x hx=>by
   have h1:=h x (List.mem_of_mem_erase hx)
   have h2:x≠n:=fun e=>((nd.mem_erase_iff).mp hx).1 e
   omega
  by_cases hm:n∈l
  ·rw [List.length_erase_of_mem hm] at ih;omega
  ·rw [List.erase_of_not_mem hm] at ih;omega
theorem vB(g:Nat)(l:List Nat):inD (.int g) (nats l)=decide (g∈l):=by
 unfold inD nats
 rw [List.any_map]
 by_cases h:g∈l
 ·rw [decide_eq_true h,List.any_eq_true]
  exact ⟨g,h,by simp [eqD]⟩
 ·rw [decide_eq_false h,List.any_eq_false]
  intro x hx
  have : ¬ (x : Int) = (g : Int) := fun z => h (by have : x = g := by omega
                                                   rw [<-this];exact hx)
  simp [eqD,this]
theorem wY{S:List (List Nat)}{q:Nat}(hq:q < S.length):atI (stD S) (q:Int)=some (.lst (nats S[q])):=by
 rw [atI_nat (by rw [fM];exact hq)]
 unfold stD
 rw [List.getElem_map]
end Pu
namespace Pu
section
variable{S:List (List Nat)}{rk:List Nat}{c:Nat}
theorem aH6{m:String}{p:List D->R D}{dv xs:List D}{f:Ex}{r:Exs}{st:PSt}(hf:f st = .ok (mD S rk c))(hr:r st = .ok xs)(hm:m ∉ ["steps", "ranks", "many", "letters"]):qO "Machine" m p dv f r st=p (mD S rk c :: (xs++dv)):=by
 rw [aBu,hf,hr]
 exact aG ⟨rfl,hm⟩
theorem aC6(M:Mch S rk c)(a t:Option Sl)(ha:a=some (.v (mD S rk c))):∀ (x:List Nat) (q:Nat) (acc:List Nat) (l:Option Sl),q < S.length->Ltr c x->acc.length+x.length<=1000000->∃ l',forR (tgN 4) fP (x.map fun ch=>D.str [ch]) [a,some (.v (.int q)),t,some (.o .l (nats acc)),l] =
  .ok (.nx [a,some (.v (.int (lE S q x))),t,some (.o .l (nats (acc++runs S q x))),l'])
 | [],q,acc,l,_,_,_=>⟨l,by simp [lE,runs]⟩
 | ch :: x,q,acc,l,h,hx,hl=>by
  rw [List.length_cons] at hl
  obtain ⟨h1,h2⟩:=hx ch List.mem_cons_self
  obtain ⟨r,e1,e2,h3⟩:=aFj M h h1 h2
  obtain ⟨l',e⟩:=aC6 M a t ha x (stp S q (ch - 97)) (acc++[stp S q (ch - 97)]) (some (.v (.str [ch]))) h3 (fun z hz=>hx z (List.mem_cons_of_mem _ hz)) (by rw [List.length_append,List.length_singleton];omega)
  refine ⟨l',?_⟩
  have f:=aH5 M.c3 h1 h2
  have en:nats (acc++[stp S q (ch - 97)])=nats acc++[D.int (stp S q (ch - 97))]:=by unfold nats;simp
  rw [en] at e
  rw [List.map_cons,jQ,show runs S q (ch :: x)=stp S q (ch - 97) :: runs S (stp S q (ch - 97)) x from rfl,show acc++stp S q (ch - 97) :: runs S (stp S q (ch - 97)) x=acc++[stp S q (ch - 97)]++runs S (stp S q (ch - 97)) x by simp,show lE S q (ch :: x)=lE S (stp S q (ch - 97)) x from rfl,<-e]
  subst ha
  simp [fP,qY,e1,f,e2,bQ,show acc.length < big from bC (by omega)]
theorem aH7(M:Mch S rk c){q:Nat}(hq:q < S.length)(x:List Nat)(hx:Ltr c x)(hl:x.length<=500000):bG [mD S rk c,.int q,.str x] = .ok (.lst (nats (q :: runs S q x))):=by
 obtain ⟨l',e⟩:=aC6 M _ (some (.v (.str x))) rfl x q [q] none hq hx (by simp;omega)
 refine cN rfl ?_
 have hb:cU [some (.v (mD S rk c)),some (.v (.int q)),some (.v (.str x)),none,none] = .ok (.nx [some (.v (mD S rk c)),some (.v (.int (lE S q x))),some (.v (.str x)),some (.o .l (nats ([q]++runs S q x))),l']):=by
  unfold cU
  refine aZ (st':=[some (.v (mD S rk c)),some (.v (.int q)),some (.v (.str x)),some (.o .l (nats [q])),none]) (by simp [nats]) (aZ (by
   simp [show x.length<=big from aQ (by omega)]
   exact e) rfl)
 show yD cU 3 [some (.v (mD S rk c)),some (.v (.int q)),some (.v (.str x)),none,none]=_
 unfold yD
 rw [hb]
 rfl
theorem atI_last{α:Type}{xs:List α}{a:α}(h:xs.getLast?=some a):atI xs (-1)=some a:=by
 have h0:xs≠[]:=fun z=>by rw [z] at h;cases h
 have hp:0 < xs.length:=List.length_pos_iff.mpr h0
 rw [List.getLast?_eq_getElem?] at h
 unfold atI ixN
 rw [if_neg (by decide),if_pos (by omega)]
 show xs[((-1:Int)+(xs.length:Int)).toNat]?=some a
 rw [show ((-1:Int)+(xs.length:Int)).toNat=xs.length - 1 by omega]
 exact h
theorem aMz{r:List Nat}{a:Nat}(h:r.getLast?=some a):(nats r).getLast?=some (.int a):=by
 unfold nats
 rw [List.getLast?_map,h]
 rfl
end
end Pu
namespace Pu
theorem join_one(l:List Nat):xZ [] (l.map fun c=>[c])=l:=by
 induction l with
 | nil=>rfl
 | cons a l ih =>
  cases l with
  | nil=>rfl
  | cons b l =>
   show [a]++[]++xZ [] ((b :: l).map fun c=>[c])=_
   rw [ih];rfl
theorem aS9(l:List Nat)(h:l.length<=1000000):aE2 (.str []) [.lst (l.map fun c=>D.str [c])] = .ok (.str l):=by
 have e:(l.map fun c=>D.str [c])=(l.map fun c=>[c]).map D.str:=by simp
 have hs:((l.map fun c=>[c]).map List.length).sum=l.length:=by
  rw [List.map_map]
  induction l with
  | nil=>rfl
  | cons a l ih=>rw [List.map_cons,List.sum_cons,ih (by simp at h;omega) (by simp)];simp;omega
 show (xX _).bind _=_
 rw [e,aE3]
 simp only [aN]
 rw [aG (by rw [hs];simp;exact aQ (by omega)),join_one]
end Pu
namespace Pu
def cy(c:List Nat)(i:Nat):Nat:=c.getD (i % c.length) 0
def lt(b c:List Nat)(i:Nat):Nat:=if i < b.length then b.getD i 0 else cy c (i - b.length)
theorem bAu{c:List Nat}{i:Nat}(h:i < c.length):cy c i=c.getD i 0:=by unfold cy;rw [Nat.mod_eq_of_lt h]
theorem aX1(c:List Nat)(i:Nat):cy c (i+c.length)=cy c i:=by unfold cy;rw [Nat.add_mod_right]
end Pu
namespace Pu
theorem sIx_none(n d:Nat):sIx n d none=d:=rfl
theorem sIx_nat(n d k:Nat):sIx n d (some (k:Int))=min k n:=by
 show (if (k:Int) < 0 then ((k:Int)+n).toNat else min (k:Int).toNat n)=_
 rw [if_neg (by omega),Int.toNat_natCast]
theorem aX2{α:Type}(x:List α)(n:Nat):cut x none (some (n:Int))=x.take n:=by
 unfold cut
 rw [sIx_none,sIx_nat,List.drop_zero,Nat.sub_zero]
 by_cases h:n<=x.length
 ·rw [Nat.min_eq_left h]
 ·rw [Nat.min_eq_right (by omega),List.take_length,List.take_of_length_le (by omega)]
theorem aX3{α:Type}(x:List α)(n:Nat)(h:n<=x.length):cut x (some (n:Int)) none=x.drop n:=by
 unfold cut
 rw [sIx_none,sIx_nat]
 rw [Nat.min_eq_left h,List.take_of_length_le (by rw [List.length_drop];omega)]
end Pu
namespace Pu
end Pu
namespace Pu
theorem aB8{b t:List Nat}{n:Nat}(h:b.length<=n):∀ k,lt b t (n+k * t.length)=lt b t n
 | 0=>by rw [Nat.zero_mul,Nat.add_zero]
 | k+1=>by
  rw [Nat.succ_mul,<-Nat.add_assoc,<-aB8 h k]
  unfold lt
  rw [if_neg (by omega),if_neg (by omega),show n+k * t.length+t.length - b.length=n+k * t.length - b.length+t.length by omega,aX1]
theorem aC7{c:Int}{b t:List Nat}(hb:Ltr c b)(ht:Ltr c t)(h1:1<=t.length)(n:Nat):97<=lt b t n/\(lt b t n:Int) < 97+c:=by
 have key:∀ (x:List Nat) (i:Nat),i < x.length->Ltr c x->97<=x.getD i 0/\(x.getD i 0:Int) < 97+c:=fun x i h hx=>by
  have e:x.getD i 0=x[i]:=by rw [List.getD_eq_getElem?_getD,List.getElem?_eq_getElem h];rfl
  rw [e]
  exact hx _ (List.getElem_mem h)
 unfold lt
 split
 ·exact key _ _ (by assumption) hb
 ·exact key _ _ (Nat.mod_lt _ h1) ht
end Pu
namespace Pu
def fw(S:List (List Nat))(f:Nat->Nat)(q:Nat):Nat->Nat
 | 0=>q
 | n+1=>stp S (fw S f q n) (f n - 97)
structure Lp(S:List (List Nat))(f:Nat->Nat)(q s e:Nat):Prop where
 lt:s < e
 per:∀ n,s<=n->f (n+(e - s))=f n
 eq:fw S f q s=fw S f q e
section
variable{S:List (List Nat)}{f:Nat->Nat}{q s e s2 e2:Nat}
theorem Lp.step(L:Lp S f q s e):∀ k,fw S f q (s+k+(e - s))=fw S f q (s+k)
 | 0=>by
  have:=L.lt
  rw [Nat.add_zero,show s+(e - s)=e by omega]
  exact L.eq.symm
 | k+1=>by
  have ih:=L.step k
  have h:=L.per (s+k) (by omega)
  rw [show s+(k+1)+(e - s)=(s+k+(e - s))+1 by omega,show s+(k+1)=(s+k)+1 by omega]
  show stp S (fw S f q (s+k+(e - s))) (f (s+k+(e - s)) - 97)=stp S (fw S f q (s+k)) (f (s+k) - 97)
  rw [ih,h]
theorem Lp.at(L:Lp S f q s e)(n:Nat)(h:s<=n):fw S f q (n+(e - s))=fw S f q n:=by
 have:=L.step (n - s)
 rwa [show s+(n - s)=n by omega] at this
theorem Lp.mul(L:Lp S f q s e):∀ (k n:Nat),s<=n->fw S f q (n+k * (e - s))=fw S f q n
 | 0,n,_=>by rw [Nat.zero_mul,Nat.add_zero]
 | k+1,n,h=>by
  rw [Nat.succ_mul,<-Nat.add_assoc,L.at _ (by omega),L.mul k n h]
theorem Lp.into(L:Lp S f q s e)(n:Nat)(h:s<=n):∃ m,s<=m/\m < e/\fw S f q n=fw S f q m:=by
 have hl:=L.lt
 have h1:=Nat.mod_lt (n - s) (show 0 < e - s by omega)
 refine ⟨s+(n - s) % (e - s),by omega,by omega,?_⟩
 have:=L.mul ((n - s) / (e - s)) (s+(n - s) % (e - s)) (by omega)
 have hd:=Nat.mod_add_div (n - s) (e - s)
 rw [Nat.mul_comm] at hd
 rw [<-this]
 congr 1
 omega
theorem Lp.sub(L:Lp S f q s e)(L2:Lp S f q s2 e2)(n:Nat)(h:s<=n):∃ m,s2<=m/\m < e2/\fw S f q n=fw S f q m:=by
 have hl:=L.lt
 have h1:s2 * 1<=s2 * (e - s):=Nat.mul_le_mul_left _ (by omega)
 obtain ⟨m,a,b,c⟩:=L2.into (n+s2 * (e - s)) (by omega)
 exact ⟨m,a,b,by rw [<-c,L.mul s2 n h]⟩
end
def seg(S:List (List Nat))(f:Nat->Nat)(q s e:Nat):List Nat:=(List.range' s (e - s)).map (fw S f q)
theorem iU{S:List (List Nat)}{f:Nat->Nat}{q s e r:Nat}:r∈seg S f q s e ↔ ∃ n,s<=n/\n < e/\fw S f q n=r:=by
 unfold seg
 rw [List.mem_map]
 constructor
 ·rintro ⟨n,h,rfl⟩
  rw [List.mem_range'_1] at h
  exact ⟨n,h.1,by omega,rfl⟩
 ·rintro ⟨n,h1,h2,rfl⟩
  exact ⟨n,List.mem_range'_1.mpr ⟨h1,by omega⟩,rfl⟩
def mx(rk l:List Nat):Int:=aDh (l.map fun r=>((rk.getD r 0:Nat):Int))
theorem aSa{l:List Int}(h:l≠[]):aDh l∈l/\∀ x∈l,x<=aDh l:=by
 cases l with
 | nil=>exact (h rfl).elim
 | cons i r =>
  obtain ⟨h1,h2,h3⟩:=zT r i
  refine ⟨?_,fun x hx=>?_⟩
  ·rcases h3 with h3 | h3
   ·show r.foldl _ i∈_;rw [h3];exact List.mem_cons_self
   ·exact List.mem_cons_of_mem _ h3
  ·rcases List.mem_cons.mp hx with rfl | hx
   ·exact h1
   ·exact h2 x hx
theorem aL5{rk l l2:List Nat}(h0:l≠[])(h:∀ r,r∈l ↔ r∈l2):mx rk l=mx rk l2:=by
 have h2:l2≠[]:=fun z=>by
  cases l with
  | nil=>exact h0 rfl
  | cons a l=>have:=(h a).mp List.mem_cons_self;rw [z] at this;cases this
 obtain ⟨a,b⟩:=aSa (l:=l2.map fun r=>((rk.getD r 0:Nat):Int)) (by simpa using h2)
 refine aKy ?_ fun x hx=>?_
 ·obtain ⟨r,h3,h4⟩:=List.mem_map.mp a
  rw [show mx rk l2=_ from rfl,mx,<-h4]
  exact List.mem_map.mpr ⟨r,(h r).mpr h3,rfl⟩
 ·obtain ⟨r,h3,h4⟩:=List.mem_map.mp hx
  exact b x (List.mem_map.mpr ⟨r,(h r).mp h3,h4⟩)
def Ev(S:List (List Nat))(rk:List Nat)(f:Nat->Nat)(q:Nat)(v:Bool):Prop:=∃ s e,Lp S f q s e/\v=decide (mx rk (seg S f q s e) % 2=0)
theorem aJa{S:List (List Nat)}{f:Nat->Nat}{q s e:Nat}(h:s < e):seg S f q s e≠[]:=fun z=>by
 have:fw S f q s∈seg S f q s e:=iU.mpr ⟨s,Nat.le_refl _,h,rfl⟩
 rw [z] at this;cases this
theorem Ev.alone{S:List (List Nat)}{rk:List Nat}{f:Nat->Nat}{q:Nat}{v v':Bool}(h:Ev S rk f q v)(h':Ev S rk f q v'):v=v':=by
 obtain ⟨s,e,L,rfl⟩:=h
 obtain ⟨s2,e2,L2,rfl⟩:=h'
 rw [aL5 (aJa L.lt) fun r=>?_]
 rw [iU,iU]
 constructor
 ·rintro ⟨n,h1,h2,rfl⟩
  obtain ⟨m,a,b,c⟩:=L.sub L2 n h1
  exact ⟨m,a,b,c.symm⟩
 ·rintro ⟨n,h1,h2,rfl⟩
  obtain ⟨m,a,b,c⟩:=L2.sub L n h1
  exact ⟨m,a,b,c.symm⟩
theorem aAk:∀ (n:Nat) (l:List Nat),l.Nodup->(∀ x∈l,x < n)->l.length<=n
 | 0,l,_,h=>by
  cases l with
  | nil=>simp
  | cons a l=>exact absurd (h a List.mem_cons_self) (by omega)
 | n+1,l,nd,h=>by
  have h1:=aAk n (l.erase n) (nd.erase n) (fun x hx=>by
   have:=h x (List.mem_of_mem_erase hx)
   have hne:x≠n:=fun z=>by rw [z] at hx;exact (List.Nodup.not_mem_erase nd) hx
   omega)
  have h2:=List.length_erase (a:=n) (l:=l)
  split at h2<;>omega
theorem least{P:Nat->Prop}:∀ n,P n->∃ m,m<=n/\P m/\∀ k,k < m->¬ P k:=by
 intro n
 induction n using Nat.strongRecOn with
 | ind n ih =>
  intro h
  by_cases hx:∃ k,k < n/\P k
  ·obtain ⟨k,hk,pk⟩:=hx
   obtain ⟨m,a,b,c⟩:=ih k hk pk
   exact ⟨m,by omega,b,c⟩
  ·exact ⟨n,Nat.le_refl _,h,fun k hk pk=>hx ⟨k,hk,pk⟩⟩
theorem aAl(g:Nat->Nat)(n:Nat)(h:∀ i,g i < n):∃ J,J<=n/\(∃ i,i < J/\g i=g J)/\∀ j,j < J->∀ i,i < j->g i≠g j:=by
 have ex:∃ J,J<=n/\∃ i,i < J/\g i=g J:=by
  by_cases hx:∃ J,J<=n/\∃ i,i < J/\g i=g J
  ·exact hx
  ·have inj:∀ i j,i < j->j<=n->g i≠g j:=fun i j hi hj z=>hx ⟨j,hj,i,hi,z⟩
   have nd:((List.range (n+1)).map g).Nodup:=by
    rw [List.nodup_iff_pairwise_ne,List.pairwise_map]
    refine List.Pairwise.imp_of_mem ?_ (List.pairwise_lt_range)
    intro a b ha hb hab
    exact inj a b hab (by have:=List.mem_range.mp hb;omega)
   have:=aAk n _ nd (fun x hx=>by obtain ⟨i,_,rfl⟩:=List.mem_map.mp hx;exact h i)
   simp at this
   omega
 obtain ⟨J,hJ,hp⟩:=ex
 obtain ⟨m,a,b,c⟩:=least (P:=fun J=>∃ i,i < J/\g i=g J) J hp
 exact ⟨m,by omega,b,fun j hj i hi z=>c j hj ⟨i,hi,z⟩⟩
theorem aEb{C:Ex}{L:Bd}(st:Nat->PSt)(J:Nat)(hgo:∀ j,j < J->C (st j) = .ok (.bl true)/\L (st j) = .ok (.nx (st (j+1))))(hst:C (st J) = .ok (.bl false)):∀ (k fuel:Nat),k<=J->k < fuel->jG C L fuel (st (J - k)) = .ok (.nx (st J))
 | 0,fuel,_,hf=>by
  obtain ⟨m,rfl⟩:∃ m,fuel=m+1:=⟨fuel - 1,by omega⟩
  rw [pH,Nat.sub_zero,hst]
  rfl
 | k+1,fuel,hk,hf=>by
  obtain ⟨m,rfl⟩:∃ m,fuel=m+1:=⟨fuel - 1,by omega⟩
  obtain ⟨h1,h2⟩:=hgo (J - (k+1)) (by omega)
  have ih:=aEb st J hgo hst k m (by omega) (by omega)
  rw [pH,h1]
  simp only [aN,qD,if_true,h2]
  rw [show J - (k+1)+1=J - k by omega]
  exact ih
end Pu
namespace Pu
section
variable{S:List (List Nat)}{rk:List Nat}{c:Nat}{f:Nat->Nat}{q:Nat}
theorem aB9{s:Nat}:seg S f q s s=[]:=by unfold seg;rw [Nat.sub_self];rfl
theorem uP{s e:Nat}(h:s < e):seg S f q s e=fw S f q s :: seg S f q (s+1) e:=by
 unfold seg
 rw [show e - s=(e - (s+1))+1 by omega,List.range'_succ,List.map_cons]
theorem yL{s m e:Nat}(h1:s<=m)(h2:m<=e):seg S f q s m++seg S f q m e=seg S f q s e:=by
 unfold seg
 have:=List.range'_append_1 (s:=s) (m:=m - s) (n:=e - m)
 rw [show s+(m - s)=m by omega,show m - s+(e - m)=e - s by omega] at this
 rw [<-List.map_append,this]
theorem aSb{s:Nat}:seg S f q s (s+1)=[fw S f q s]:=by rw [uP (by omega),aB9]
theorem yM{s e:Nat}:(seg S f q s e).length=e - s:=by unfold seg;simp
theorem aH8{s e:Nat}(h:s<=e):seg S f q s (e+1)=seg S f q s e++[fw S f q e]:=by rw [<-aSb,yL h (by omega)]
theorem aP9{s e:Nat}(h:s<=e):(seg S f q s (e+1)).getLast?=some (fw S f q e):=by rw [aH8 h,List.getLast?_append];rfl
theorem aC8:∀ (x:List Nat) (n:Nat),(∀ i,i < x.length->x.getD i 0=f (n+i))->runs S (fw S f q n) x=seg S f q (n+1) (n+1+x.length)
 | [],n,_=>by rw [List.length_nil,Nat.add_zero,aB9];rfl
 | ch :: x,n,h=>by
  have h0:ch=f n:=by have:=h 0 (by simp);simpa using this
  have e:stp S (fw S f q n) (ch - 97)=fw S f q (n+1):=by rw [h0];rfl
  rw [List.length_cons,uP (by omega),<-e,show n+1+(x.length+1)=n+1+1+x.length by omega,<-aC8 x (n+1) (fun i hi=>by
   have:=h (i+1) (by simp;omega)
   rw [show n+1+i=n+(i+1) by omega,<-this]
   simp),<-e]
  rfl
theorem uQ(M:Mch S rk c)(hf:∀ n,97<=f n/\(f n:Int) < 97+c)(hq:q < S.length):∀ n,fw S f q n < S.length
 | 0=>hq
 | n+1=>by
  obtain ⟨_,_,_,h⟩:=aFj M (uQ M hf hq n) (hf n).1 (hf n).2
  exact h
end
section
variable{K V:Nat->D}{g:Nat->Nat}(hK:∀ i j,eqK (K i) (K j)=decide (g i=g j))
include hK
theorem aSc{j m:Nat}(h:∀ i,i < j->g i≠g m):lO ((List.range j).map K) (K m)=false:=by
 unfold lO
 rw [List.any_map,List.any_eq_false]
 intro i hi
 have:=h i (List.mem_range.mp hi)
 simp [hK,this]
theorem aPa{i j m:Nat}(h:i < j)(e:g i=g m):lO ((List.range j).map K) (K m)=true:=by
 unfold lO
 rw [List.any_map,List.any_eq_true]
 exact ⟨i,List.mem_range.mpr h,by simp [hK,e]⟩
theorem aPb{i j m:Nat}(h:i < j)(e:g i=g m)(hn:∀ a,a < i->g a≠g m):pA ((List.range j).map K) ((List.range j).map V) (K m)=some (V i):=by
 unfold pA
 rw [List.zip_map',List.find?_map]
 have:(List.range j).find? ((fun p:D × D=>eqK p.1 (K m)) ∘ fun a=>(K a,V a))=some i:=by
  rw [List.find?_range_eq_some]
  refine ⟨by simp [hK,e],List.mem_range.mpr h,fun a ha=>?_⟩
  have:=hn a ha
  simp [hK,this]
 rw [this]
 rfl
end
theorem aH9(F:Nat->D)(j:Nat):(List.range j).map F++[F j]=(List.range (j+1)).map F:=by rw [List.range_succ,List.map_append];rfl
theorem yN(a b:List Nat):nats a++nats b=nats (a++b):=by unfold nats;rw [List.map_append]
theorem aPc{α:Type}(a:α)(x:List α):cut (a :: x) (some 1) none=x:=by
 have:=aX3 (a :: x) 1 (by simp)
 simpa using this
theorem aSd{α:Type}(x y:List α)(a:α)(n:Nat)(h:x.length=n):cut (x++y++[a]) (some (n:Int)) (some (-1))=y:=by
 subst h
 have l:(x++y++[a]).length=x.length+y.length+1:=by simp;omega
 unfold cut
 have e1:sIx (x++y++[a]).length 0 (some (x.length:Int))=x.length:=by
  rw [l];show (if ((x.length:Int) < 0) then ((x.length:Int)+((x.length+y.length+1:Nat):Int)).toNat else min (x.length:Int).toNat (x.length+y.length+1))=_;rw [if_neg (by omega)];omega
 have e2:sIx (x++y++[a]).length (x++y++[a]).length (some (-1))=x.length+y.length:=by
  rw [l];unfold sIx;simp;omega
 rw [e1,e2,List.append_assoc,List.drop_left,show x.length+y.length - x.length=y.length by omega,List.take_left]
section
variable{S:List (List Nat)}{rk:List Nat}{c:Nat}{q:Nat}
theorem aJb(M:Mch S rk c){b t:List Nat}(lb:Ltr c b)(l2:Ltr c t)(t1:1<=t.length)(tl:t.length<=10000)(bl:b.length<=10000):gG [.tup [.str b,.str t],.int c] = .ok (.bl true):=by
 have h1:=M.c1
 have h3:=M.c3
 rw [aDj (.str b) (.str t) c true true (by rw [aC5 b c (by omega) (by omega) (by omega),aC4.mpr lb]) (by rw [aC5 t c (by omega) (by omega) (by omega),aC4.mpr l2]) rfl (by simp)]
 have:t≠[]:=fun z=>by rw [z] at t1;simp at t1
 simp [this]
theorem aEc(M:Mch S rk c){f:Nat->Nat}(hf:∀ n,97<=f n/\(f n:Int) < 97+c)(hq:q < S.length)(x:List Nat)(hl:x.length<=10000)(hx:Ltr c x)(n:Nat)(h:∀ i,i < x.length->x.getD i 0=f (n+i)):bG [mD S rk c,.int (fw S f q n),.str x] = .ok (.lst (nats (seg S f q n (n+x.length+1)))):=by
 rw [aH7 M (uQ M hf hq n) x hx (by omega),aC8 x n h,uP (s:=n) (by omega),show n+x.length+1=n+1+x.length by omega]
theorem aPd{b t:List Nat}{i:Nat}(h:i < b.length):b.getD i 0=lt b t (0+i):=by unfold lt;rw [Nat.zero_add,if_pos h]
theorem aJc{b t:List Nat}{i:Nat}(j:Nat)(h:i < t.length):t.getD i 0=lt b t (b.length+j * t.length+i):=by
 rw [show b.length+j * t.length+i=b.length+i+j * t.length by omega,aB8 (by omega),<-bAu h]
 unfold lt
 rw [if_neg (by omega),show b.length+i - b.length=i by omega]
theorem aN0(M:Mch S rk c)(hq:q < S.length){b t:List Nat}(lb:Ltr c b)(l2:Ltr c t)(t1:1<=t.length)(tl:t.length<=10000)(bl:b.length<=10000):∃ i J,i < J/\J<=S.length/\fw S (lt b t) q (b.length+i * t.length)=fw S (lt b t) q (b.length+J * t.length)/\(∀ j,j < J->∀ i,i < j->fw S (lt b t) q (b.length+i * t.length)≠fw S (lt b t) q (b.length+j * t.length)) /\
  ∃ (rs0 rsJ ksJ vsJ:List D) (gJ:Nat),bG [mD S rk c,.int q,.str b] = .ok (.lst rs0) /\
   jG iQ lR 100000 [some (.v (mD S rk c)),some (.v (.tup [.str b,.str t])),some (.v (.int q)),some (.o .l rs0),some (.o (.d false []) []),none] = .ok (.nx [some (.v (mD S rk c)),some (.v (.tup [.str b,.str t])),some (.v (.int q)),some (.o .l rsJ),some (.o (.d false ksJ) vsJ),none]) /\
   atI rsJ (-1)=some (.int gJ)/\pA ksJ vsJ (.int gJ)=some (.int ((b.length+i * t.length:Nat):Int))/\cut rsJ none (some ((b.length+i * t.length:Nat):Int))=nats (seg S (lt b t) q 0 (b.length+i * t.length)) /\
   cut rsJ (some ((b.length+i * t.length:Nat):Int)) (some (-1))=nats (seg S (lt b t) q (b.length+i * t.length) (b.length+J * t.length)):=by
 have hf:=aC7 lb l2 t1
 have h8:=M.most
 generalize hg:(fun i=>fw S (lt b t) q (b.length+i * t.length))=g
 obtain ⟨J,hJ,⟨i,hi,e⟩,hn⟩:=aAl g S.length (fun i=>by rw [<-hg];exact uQ M hf hq _)
 have hg':∀ i,fw S (lt b t) q (b.length+i * t.length)=g i:=fun i=>by rw [<-hg]
 refine ⟨i,J,hi,hJ,by rw [hg',hg',e],fun j hj i hi=>by rw [hg',hg'];exact hn j hj i hi,?_⟩
 have hK:∀ i j,eqK (.int (g i)) (.int (g j))=decide (g i=g j):=fun i j=>by
  rw [Bool.eq_iff_iff];unfold eqK;simp;omega
 have hJt:J * t.length<=8 * 10000:=Nat.mul_le_mul (by omega) tl
 obtain ⟨ks,hks⟩:∃ ks:Nat->List D,∀ j,ks j=(List.range j).map fun i=>D.int (g i):=⟨_,fun _=>rfl⟩
 obtain ⟨vs,hvs⟩:∃ vs:Nat->List D,∀ j,vs j=(List.range j).map fun i=>D.int ((b.length+i * t.length:Nat):Int):=⟨_,fun _=>rfl⟩
 have hvl:∀ j,(vs j).length=j:=fun j=>by rw [hvs];simp
 obtain ⟨rs,hrs⟩:∃ rs:Nat->List D,∀ j,rs j=nats (seg S (lt b t) q 0 (b.length+j * t.length+1)):=⟨_,fun _=>rfl⟩
 have hrl:∀ j,((rs j).length:Int) - 1=((b.length+j * t.length:Nat):Int):=fun j=>by rw [hrs,bQ,yM];omega
 have hlast:∀ j,atI (rs j) (-1)=some (.int (g j)):=fun j=>by
  rw [<-hg',hrs];exact atI_last (aMz (aP9 (by omega)))
 have hgo:∀ j,j < J->iQ [some (.v (mD S rk c)),some (.v (.tup [.str b,.str t])),some (.v (.int q)),some (.o .l (rs j)),some (.o (.d false (ks j)) (vs j)),none] = .ok (.bl true)/\lR [some (.v (mD S rk c)),some (.v (.tup [.str b,.str t])),some (.v (.int q)),some (.o .l (rs j)),some (.o (.d false (ks j)) (vs j)),none] = .ok (.nx [some (.v (mD S rk c)),some (.v (.tup [.str b,.str t])),some (.v (.int q)),some (.o .l (rs (j+1))),some (.o (.d false (ks (j+1))) (vs (j+1))),none]):=fun j hj=>by
  have hno:=aSc (K:=fun i => .int (g i)) hK (j:=j) (m:=j) (fun i hi=>hn j hj i hi)
  have hjt:j * t.length<=8 * 10000:=Nat.le_trans (Nat.mul_le_mul_right _ (by omega)) hJt
  rw [<-hks] at hno
  have hl:e2 dIx (cZ 3) (e1 aB1 (eC (.int 1))) [some (.v (mD S rk c)),some (.v (.tup [.str b,.str t])),some (.v (.int q)),some (.o .l (rs j)),some (.o (.d false (ks j)) (vs j)),none] = .ok (.int (g j)):=aU rfl rfl (jE (hlast j))
  refine ⟨aU hl rfl (by
   show aH (keyOk false (.int (g j))=true) (R.ok (D.bl (!lO (ks j) (.int (g j)))))=_
   rw [aG (c:=keyOk false (.int (g j))=true) rfl,hno]
   rfl),?_⟩
  ·have hal:=aEc M hf hq t tl l2 (b.length+j * t.length) (fun i hi=>aJc j hi)
   rw [hg'] at hal
   have p1:lA (ks j) (.int (g j))=ks (j+1):=by
    unfold lA
    rw [if_neg (by rw [hno];decide),hks,hks]
    exact aH9 (fun i=>D.int (g i)) j
   have p2:oR (ks j) (vs j) (.int (g j)) (.int ((b.length+j * t.length:Nat):Int))=vs (j+1):=by
    unfold oR
    rw [if_neg (by rw [hno];decide),hvs,hvs]
    exact aH9 (fun i=>D.int ((b.length+i * t.length:Nat):Int)) j
   refine aZ (st':=[some (.v (mD S rk c)),some (.v (.tup [.str b,.str t])),some (.v (.int q)),some (.o .l (rs j)),some (.o (.d false (ks (j+1))) (vs (j+1))),none]) ?_ ?_
   ·have hs:e2 aMv (e1 dR (cZ 3)) (eC (.int 1)) [some (.v (mD S rk c)),some (.v (.tup [.str b,.str t])),some (.v (.int q)),some (.o .l (rs j)),some (.o (.d false (ks j)) (vs j)),none] = .ok (.int ((b.length+j * t.length:Nat):Int)):=by
     rw [<-hrl j]
     exact aU rfl rfl rfl
    unfold sDPut
    rw [hs,aN,hl,aN,<-p1,<-p2]
    exact aG ⟨rfl,bC (by rw [hvl];omega)⟩
   ·have hm:qO "Machine" "rooms_along" bG [] (aB 0) (aC (e2 dIx (cZ 3) (e1 aB1 (eC (.int 1)))) (aC (e2 dIx (aB 1) (eC (.int 1))) aW)) [some (.v (mD S rk c)),some (.v (.tup [.str b,.str t])),some (.v (.int q)),some (.o .l (rs j)),some (.o (.d false (ks (j+1))) (vs (j+1))),none] = .ok (.lst (nats (seg S (lt b t) q (b.length+j * t.length) (b.length+j * t.length+t.length+1)))):=by
     rw [aH6 (xs:=[.int (g j),.str t]) rfl (bH (aU rfl rfl (jE (hlast j))) (bH (aU rfl rfl rfl) rfl)) (by decide)]
     exact hal
    have hc:cut (nats (seg S (lt b t) q (b.length+j * t.length) (b.length+j * t.length+t.length+1))) (some 1) none=nats (seg S (lt b t) q (b.length+j * t.length+1) (b.length+j * t.length+t.length+1)):=by
     rw [uP (by omega)];exact aPc _ _
    have hr1:rs (j+1)=rs j++nats (seg S (lt b t) q (b.length+j * t.length+1) (b.length+j * t.length+t.length+1)):=by
     rw [hrs,hrs,yN,yL (by omega) (by omega),show b.length+(j+1) * t.length+1=b.length+j * t.length+t.length+1 by rw [Nat.succ_mul];omega]
    have hlen:(rs j).length+(nats (seg S (lt b t) q (b.length+j * t.length+1) (b.length+j * t.length+t.length+1))).length<=big:=aQ (by
     have:=hrl j
     rw [bQ,yM]
     omega)
    rw [hr1]
    refine aWz ?_ rfl hlen
    rw [aWa,hm,<-hc]
    rfl
 have hno:=aPa (K:=fun i => .int (g i)) hK hi e
 rw [<-hks] at hno
 have hget:=aPb (K:=fun i => .int (g i)) (V:=fun i=>D.int ((b.length+i * t.length:Nat):Int)) hK hi e (fun a ha=>by rw [<-e];exact hn i hi a ha)
 rw [<-hks,<-hvs] at hget
 have hij:i * t.length<=J * t.length:=Nat.mul_le_mul_right _ (by omega)
 obtain ⟨n,hn0⟩:∃ n,n=b.length+i * t.length:=⟨_,rfl⟩
 rw [<-hn0] at hget ⊢
 have hstop:iQ [some (.v (mD S rk c)),some (.v (.tup [.str b,.str t])),some (.v (.int q)),some (.o .l (rs J)),some (.o (.d false (ks J)) (vs J)),none] = .ok (.bl false):=by
  refine aU (aU rfl rfl (jE (hlast J))) rfl ?_
  show aH (keyOk false (.int (g J))=true) (R.ok (D.bl (!lO (ks J) (.int (g J)))))=_
  rw [aG (c:=keyOk false (.int (g J))=true) rfl,hno]
  rfl
 have hw:=aEb (fun j=>[some (.v (mD S rk c)),some (.v (.tup [.str b,.str t])),some (.v (.int q)),some (.o .l (rs j)),some (.o (.d false (ks j)) (vs j)),none]) J hgo hstop J 100000 (Nat.le_refl _) (by omega)
 rw [Nat.sub_self] at hw
 have h0:=aEc M hf hq b bl lb 0 (fun i hi=>aPd hi)
 rw [Nat.zero_add] at h0
 have hr0:rs 0=nats (seg S (lt b t) q 0 (b.length+1)):=by rw [hrs,Nat.zero_mul,Nat.add_zero]
 rw [<-hr0] at h0
 have hk0:ks 0=[]:=by rw [hks];rfl
 have hv0:vs 0=[]:=by rw [hvs];rfl
 have c1:cut (rs J) none (some (n:Int))=nats (seg S (lt b t) q 0 (n)):=by
  rw [aX2,hrs,<-yL (s:=0) (m:=n) (by omega) (by omega),<-yN,List.take_left' (by rw [bQ,yM];omega)]
 have c2:cut (rs J) (some (n:Int)) (some (-1))=nats (seg S (lt b t) q (n) (b.length+J * t.length)):=by
  rw [hrs,aH8 (by omega),<-yL (s:=0) (m:=n) (by omega) (by omega),<-yN,<-yN]
  exact aSd _ _ _ _ (by rw [bQ,yM];omega)
 refine ⟨rs 0,rs J,ks J,vs J,g J,h0,?_,hlast J,hget,c1,c2⟩
 rw [hk0,hv0] at hw
 exact hw
end
end Pu
namespace Pu
section
variable{S:List (List Nat)}{rk:List Nat}{c:Nat}{q:Nat}
theorem wZ{α:Type}{r:R α}{a:α}(h:r = .ok a):r.nox = .ok a:=by rw [h];rfl
theorem aC9{m:String}{p:List D->R D}{dv xs:List D}{f:Ex}{r:Exs}{st:PSt}{z:R D}(hf:f st = .ok (mD S rk c))(hr:r st = .ok xs)(hm:m ∉ ["steps", "ranks", "many", "letters"])(h:p (mD S rk c :: (xs++dv))=z):rN "Machine" m p dv f r st=z:=by
 unfold rN
 rw [hf,hr]
 exact (aG ⟨rfl,hm⟩).trans h
theorem aSe(hq:q < S.length):cR [mD S rk c,.int q] = .ok .non:=by
 have hb:aX iC (aC (aB 1) (aC (e1 (jM "Machine" "many") (aB 0)) (aW))) [some (.v (mD S rk c)),some (.v (.int q))] = .ok (.bl true):=aY (bH rfl (bH (aH3:jM "Machine" "many" (mD S rk c)=_) rfl)) (aE9 hq)
 exact aWv rfl (qK (wZ (rZ hb)) rfl)
theorem aSf(M:Mch S rk c)(hq:q < S.length){b t:List Nat}(lb:Ltr c b)(l2:Ltr c t)(t1:1<=t.length)(tl:t.length<=10000)(bl:b.length<=10000):∃ i J,i < J/\J<=S.length/\fw S (lt b t) q (b.length+i * t.length)=fw S (lt b t) q (b.length+J * t.length)/\(∀ j,j < J->∀ i,i < j->fw S (lt b t) q (b.length+i * t.length)≠fw S (lt b t) q (b.length+j * t.length)) /\
  iD [mD S rk c,.tup [.str b,.str t],.int q] = .ok (.tup [.lst (nats (seg S (lt b t) q 0 (b.length+i * t.length))),.lst (nats (seg S (lt b t) q (b.length+i * t.length) (b.length+J * t.length)))]):=by
 obtain ⟨i,J,hi,hJ,e,hn,rs0,rsJ,ksJ,vsJ,gJ,h0,hw,hlast,hget,c1,c2⟩:=aN0 M hq lb l2 t1 tl bl
 refine ⟨i,J,hi,hJ,e,hn,?_⟩
 generalize b.length+i * t.length=n at hget c1 c2 ⊢
 have he:aX gG (aC (aB 1) (aC (e1 (jM "Machine" "letters") (aB 0)) (aW))) [some (.v (mD S rk c)),some (.v (.tup [.str b,.str t])),some (.v (.int q)),none,none,none] = .ok (.bl true):=aY (bH rfl (bH (aH4:jM "Machine" "letters" (mD S rk c)=_) rfl)) (aJb M lb l2 t1 tl bl)
 have hm:qO "Machine" "rooms_along" bG [] (aB 0) (aC (aB 2) (aC (e2 dIx (aB 1) (eC (.int 0))) aW)) [some (.v (mD S rk c)),some (.v (.tup [.str b,.str t])),some (.v (.int q)),none,none,none] = .ok (.lst rs0):=by
  rw [aH6 (xs:=[.int q,.str b]) rfl (bH rfl (bH (aU rfl rfl rfl) rfl)) (by decide)]
  exact h0
 have hx:aMx (rN "Machine" "check_room" cR [] (aB 0) (aC (aB 2) (aW))) [some (.v (mD S rk c)),some (.v (.tup [.str b,.str t])),some (.v (.int q)),none,none,none] = .ok (.nx [some (.v (mD S rk c)),some (.v (.tup [.str b,.str t])),some (.v (.int q)),none,none,none]):=by
  unfold aMx
  rw [aC9 rfl rfl (by decide) (aSe hq)]
  rfl
 refine cN rfl (fJ hx (fJ (qK (wZ (rZ he)) rfl) ?_))
 refine aZ (st':=[some (.v (mD S rk c)),some (.v (.tup [.str b,.str t])),some (.v (.int q)),some (.o .l rs0),none,none]) (wZ (uZ hm)) ?_
 refine aZ (st':=[some (.v (mD S rk c)),some (.v (.tup [.str b,.str t])),some (.v (.int q)),some (.o .l rs0),some (.o (.d false []) []),none]) rfl ?_
 refine aZ (wZ hw) ?_
 have hl:e2 dIx (cZ 3) (e1 aB1 (eC (.int 1))) [some (.v (mD S rk c)),some (.v (.tup [.str b,.str t])),some (.v (.int q)),some (.o .l rsJ),some (.o (.d false ksJ) vsJ),none] = .ok (.int gJ):=aU rfl rfl (jE hlast)
 have hg:e2 dIx (cZ 4) (e2 dIx (cZ 3) (e1 aB1 (eC (.int 1)))) [some (.v (mD S rk c)),some (.v (.tup [.str b,.str t])),some (.v (.int q)),some (.o .l rsJ),some (.o (.d false ksJ) vsJ),none] = .ok (.int (n:Nat)):=aU rfl hl (by
  show aH (keyOk false (.int gJ)=true) (ofO (pA ksJ vsJ (.int gJ)))=_
  rw [aG (c:=keyOk false (.int gJ)=true) rfl,hget]
  rfl)
 refine aZ (st':=[some (.v (mD S rk c)),some (.v (.tup [.str b,.str t])),some (.v (.int q)),some (.o .l rsJ),some (.o (.d false ksJ) vsJ),some (.v (.int (n:Nat)))]) (wZ (cM hg)) (wZ (fQ ?_))
 have s1:eSl (cZ 3) aDy (pF (aB 5)) [some (.v (mD S rk c)),some (.v (.tup [.str b,.str t])),some (.v (.int q)),some (.o .l rsJ),some (.o (.d false ksJ) vsJ),some (.v (.int (n:Nat)))] = .ok (.lst (nats (seg S (lt b t) q 0 n))):=by rw [<-c1];rfl
 have s2:eSl (cZ 3) (pF (aB 5)) (pF (e1 aB1 (eC (.int 1)))) [some (.v (mD S rk c)),some (.v (.tup [.str b,.str t])),some (.v (.int q)),some (.o .l rsJ),some (.o (.d false ksJ) vsJ),some (.v (.int (n:Nat)))] = .ok (.lst (nats (seg S (lt b t) q n (b.length+J * t.length)))):=by rw [<-c2];rfl
 show R.bind (aC _ (aC _ aW) _) _=_
 rw [bH s1 (bH s2 rfl),aN]
 exact aG (aQ (by show 2<=_;omega))
end
end Pu
namespace Pu
section
variable{S:List (List Nat)}{rk:List Nat}{c:Nat}{q:Nat}
theorem aN1:jM "Machine" "ranks" (mD S rk c) = .ok (.lst (nats rk)):=by unfold mD;rw [uC,aG rfl];rfl
theorem aUv{r:Nat}(h:r < rk.length):atI (nats rk) (r:Int)=some (.int (rk.getD r 0)):=by
 rw [atI_nat (by rw [bQ];exact h)]
 simp [nats,List.getD_eq_getElem?_getD,List.getElem?_eq_getElem h]
def rkD(rk:List Nat):D->D
 | .int i => .int (rk.getD i.toNat 0)
 | d=>d
theorem aX4(l:List Nat):(nats l).map (rkD rk)=(l.map fun r=>((rk.getD r 0:Nat):Int)).map D.int:=by
 unfold nats
 rw [List.map_map,List.map_map]
 refine List.map_congr_left fun r _=>?_
 simp [rkD]
theorem aPe{l:List Nat}(h:l≠[]):xY (.lst ((nats l).map (rkD rk))) = .ok (.int (mx rk l)):=by
 rw [aX4]
 unfold xY
 simp only [qP,aN]
 rw [aG (by rw [List.length_map];exact List.length_pos_iff.mpr h)]
 rfl
theorem aL6{b t:List Nat}{i J:Nat}(t1:1<=t.length)(hi:i < J)(e:fw S (lt b t) q (b.length+i * t.length)=fw S (lt b t) q (b.length+J * t.length)):Lp S (lt b t) q (b.length+i * t.length) (b.length+J * t.length):=by
 have h1:i * t.length+(J - i) * t.length=J * t.length:=by rw [<-Nat.add_mul];congr 1;omega
 have h2:1 * 1<=(J - i) * t.length:=Nat.mul_le_mul (by omega) t1
 refine ⟨by omega,fun n hn=>?_,e⟩
 rw [show b.length+J * t.length - (b.length+i * t.length)=(J - i) * t.length by omega]
 exact aB8 (by omega) _
end
end Pu
namespace Pu
section
variable{S:List (List Nat)}{rk:List Nat}{c:Nat}{q:Nat}
theorem aPf{op:Op2}{f g:Ex}{st:PSt}{x y z:D}(hf:f st = .ok x)(hg:g st = .ok y)(h:op x y = .ok z):e2X op f g st = .ok z:=by
 unfold e2X
 rw [hf,aN,hg]
 show (op x y).nox=_
 rw [h]
 rfl
theorem aL7(M:Mch S rk c)(hq:q < S.length){b t:List Nat}(lb:Ltr c b)(l2:Ltr c t)(t1:1<=t.length)(tl:t.length<=10000)(bl:b.length<=10000):∃ v,Ev S rk (lt b t) q v/\eV [mD S rk c,.tup [.str b,.str t],.int q] = .ok (.bl v):=by
 obtain ⟨i,J,hi,hJ,e,_,hw⟩:=aSf M hq lb l2 t1 tl bl
 have L:=aL6 t1 hi e
 have h8:=M.most
 have hJt:J * t.length<=8 * 10000:=Nat.mul_le_mul (by omega) tl
 have hlt:=uQ M (aC7 lb l2 t1) hq
 have hlen:(seg S (lt b t) q (b.length+i * t.length) (b.length+J * t.length)).length<=1000000:=by rw [yM];omega
 have hin:∀ r∈seg S (lt b t) q (b.length+i * t.length) (b.length+J * t.length),r < rk.length:=fun r hr=>by
  obtain ⟨n,_,_,rfl⟩:=iU.mp hr
  rw [M.rks]
  exact hlt n
 have hne:=aJa (S:=S) (f:=lt b t) (q:=q) L.lt
 refine ⟨decide (mx rk (seg S (lt b t) q (b.length+i * t.length) (b.length+J * t.length)) % 2=0),⟨_,_,L,rfl⟩,?_⟩
 generalize seg S (lt b t) q (b.length+i * t.length) (b.length+J * t.length)=l at hw hlen hin hne
 have hm:e1 xY (dU [4] (tgN 4) (itE (aB 3)) fH lU) [some (.v (mD S rk c)),some (.v (.tup [.str b,.str t])),some (.v (.int q)),some (.v (.lst (nats l))),none] = .ok (.int (mx rk l)):=by
  show R.bind (dU [4] (tgN 4) (itE (aB 3)) fH lU [some (.v (mD S rk c)),some (.v (.tup [.str b,.str t])),some (.v (.int q)),some (.v (.lst (nats l))),none]) _=_
  rw [vA (aAj rfl) (by rw [bQ];exact hlen) (oH (rkD rk) _ fun d hd=>by
   obtain ⟨r,hr,rfl⟩:=qX hd
   exact ⟨_,rfl,rfl,aU (aN1:jM "Machine" "ranks" (mD S rk c)=_) rfl (jE (aUv (hin r hr)))⟩),aN]
  exact aPe hne
 exact cN rfl (aZ (st':=[some (.v (mD S rk c)),some (.v (.tup [.str b,.str t])),some (.v (.int q)),some (.v (.lst (nats l))),none]) (cM (aPf (aC9 rfl rfl (by decide) hw) rfl rfl)) (wZ (fQ (aU (aU hm rfl (uN (by decide))) rfl (uO _ _)))))
end
end Pu
namespace Pu
def slB(u v:List Nat):Prop:=u.length < v.length\/(u.length=v.length/\u < v)
theorem aPg:∀ {u v:List Nat} (a b:Nat),u.length=v.length->u < v->u++[a] < v++[b]
 | [],[],_,_,_,h=>absurd h (List.lt_irrefl _)
 | [],_ :: _,_,_,h,_=>by simp at h
 | _ :: _,[],_,_,h,_=>by simp at h
 | x :: u,y :: v,a,b,h,h2=>by
  rw [List.cons_append,List.cons_append,List.cons_lt_cons_iff]
  rcases List.cons_lt_cons_iff.mp h2 with h3 | ⟨h3,h4⟩
  ·exact .inl h3
  ·exact .inr ⟨h3,aPg a b (by simpa using h) h4⟩
theorem aL8:∀ (u:List Nat) {a b:Nat},a < b->u++[a] < u++[b]
 | [],a,b,h=>by
  show [a] < [b]
  rw [List.cons_lt_cons_iff]
  exact .inl h
 | x :: u,a,b,h=>by
  rw [List.cons_append,List.cons_append,List.cons_lt_cons_iff]
  exact .inr ⟨rfl,aL8 u h⟩
theorem aL9{u v:List Nat}(a b:Nat)(h:slB u v):slB (u++[a]) (v++[b]):=by
 rcases h with h | ⟨h1,h2⟩
 ·exact .inl (by rw [List.length_append,List.length_append];simpa using h)
 ·exact .inr ⟨by rw [List.length_append,List.length_append,h1];rfl,aPg a b h1 h2⟩
theorem aPh(u:List Nat){a b:Nat}(h:a < b):slB (u++[a]) (u++[b]) := .inr ⟨by simp,aL8 u h⟩
theorem aSg(u:List Nat)(a:Nat):slB [] (u++[a]) := .inl (by simp)
theorem vC(S:List (List Nat)):∀ (x:List Nat) (q ch:Nat),lE S q (x++[ch])=stp S (lE S q x) (ch - 97)
 | [],_,_=>rfl
 | y :: x,q,ch=>vC S x _ ch
def bst(al:Nat->Bool)(acc:List (Nat × List Nat))(g:Nat)(w:List Nat):List (Nat × List Nat):=if al g=true/\g ∉ acc.map (·.1) then acc++[(g,w)] else acc
structure BM(S:List (List Nat))(s c:Nat)(al:Nat->Bool)(p j:Nat)(acc:List (Nat × List Nat)):Prop where
 nd:(acc.map (·.1)).Nodup
 hd:acc[0]?=some (s,[])
 lt:∀ x∈acc,x.1 < S.length/\lE S s x.2=x.1/\Ltr c x.2
 par:∀ (k:Nat) (x:Nat × List Nat),acc[k]?=some x->1<=k->al x.1=true/\∃ q y ch,acc[q]?=some y/\x.2=y.2++[ch]/\(q < p\/(q=p/\ch < 97+j))
 ord:∀ (i k:Nat) (x y:Nat × List Nat),acc[i]?=some x->acc[k]?=some y->i < k->slB x.2 y.2
 cls:∀ (i:Nat) (x:Nat × List Nat) (l:Nat),acc[i]?=some x->l < c->(i < p\/(i=p/\l < j))->al (stp S x.1 l)=true->∃ y∈acc,y.1=stp S x.1 l/\(y.2=x.2++[97+l]\/slB y.2 (x.2++[97+l]))
section
variable{S:List (List Nat)}{rk:List Nat}{s c p j:Nat}{al:Nat->Bool}{acc:List (Nat × List Nat)}
theorem BM.start(hs:s < S.length):BM S s c al 0 0 [(s,[])] where
 nd:=by simp
 hd:=rfl
 lt:=fun x hx=>by rw [List.mem_singleton.mp hx];exact ⟨hs,rfl,fun _ h=>nomatch h⟩
 par:=fun k x e h=>by
  have:k < 1:=(List.getElem?_eq_some_iff.mp e).1
  omega
 ord:=fun i k x y e1 e2 h=>by
  have:k < 1:=(List.getElem?_eq_some_iff.mp e2).1
  omega
 cls:=fun i x l _ _ h=>by omega
theorem BM.next(b:BM S s c al p c acc):BM S s c al (p+1) 0 acc where
 nd:=b.nd
 hd:=b.hd
 lt:=b.lt
 par:=fun k x e h=>by
  obtain ⟨h0,q,y,ch,h1,h2,h3⟩:=b.par k x e h
  exact ⟨h0,q,y,ch,h1,h2,.inl (by omega)⟩
 ord:=b.ord
 cls:=fun i x l e hl h ha=>b.cls i x l e hl (by omega) ha
theorem BM.below(b:BM S s c al p j acc){x y:Nat × List Nat}{k:Nat}(hx:acc[p]?=some x)(hy:acc[k]?=some y):slB y.2 (x.2++[97+j]):=by
 by_cases hk:k=0
 ·subst hk
  rw [b.hd] at hy
  cases hy
  exact aSg _ _
 ·obtain ⟨_,q,z,ch,h1,h2,h3⟩:=b.par k y hy (by omega)
  rw [h2]
  rcases h3 with h3 | ⟨rfl,h3⟩
  ·exact aL9 _ _ (b.ord q p z x h1 hx h3)
  ·rw [hx] at h1
   cases h1
   exact aPh _ h3
theorem BM.turn(M:Mch S rk c)(b:BM S s c al p j acc){x:Nat × List Nat}(hx:acc[p]?=some x)(hj:j < c):BM S s c al p (j+1) (bst al acc (stp S x.1 j) (x.2++[97+j])):=by
 have hxm:x∈acc:=List.mem_of_getElem? hx
 obtain ⟨x1,x2,x3⟩:=b.lt x hxm
 have hg:stp S x.1 j < S.length:=by obtain ⟨_,_,_,h⟩:=aJ9 M x1 hj;exact h
 unfold bst
 by_cases hc:al (stp S x.1 j)=true/\stp S x.1 j ∉ acc.map (·.1)
 ·rw [if_pos hc]
  have old:∀ {k:Nat} {y:Nat × List Nat},acc[k]?=some y->(acc++[(stp S x.1 j,x.2++[97+j])])[k]?=some y:=fun {k y} e=>by
   rw [List.getElem?_append_left (List.getElem?_eq_some_iff.mp e).1];exact e
  have inv:∀ {k:Nat} {y:Nat × List Nat},(acc++[(stp S x.1 j,x.2++[97+j])])[k]?=some y->acc[k]?=some y\/(k=acc.length/\y=(stp S x.1 j,x.2++[97+j])):=fun {k y} e=>by
   by_cases hk:k < acc.length
   ·rw [List.getElem?_append_left hk] at e;exact .inl e
   ·have hlt:=(List.getElem?_eq_some_iff.mp e).1
    rw [List.length_append,List.length_singleton] at hlt
    have:k=acc.length:=by omega
    subst this
    rw [List.getElem?_append_right (Nat.le_refl _),Nat.sub_self] at e
    simp at e
    exact .inr ⟨rfl,e.symm⟩
  have lt_of:∀ {k:Nat} {y:Nat × List Nat},acc[k]?=some y->k < acc.length:=fun e=>(List.getElem?_eq_some_iff.mp e).1
  refine ⟨?_,old b.hd,fun y hy=>?_,fun k y e h=>?_,fun i k y z e1 e2 h=>?_,fun i y l e hl h ha=>?_⟩
  ·rw [List.map_append,List.nodup_append]
   refine ⟨b.nd,by simp,fun a ha b' hb=>?_⟩
   rw [List.map_singleton,List.mem_singleton] at hb
   rw [hb]
   show a≠stp S x.1 j
   exact fun z=>hc.2 (by rw [<-z];exact ha)
  ·rcases List.mem_append.mp hy with hy | hy
   ·exact b.lt y hy
   ·rw [List.mem_singleton.mp hy]
    refine ⟨hg,?_,fun ch hch=>?_⟩
    ·show lE S s (x.2++[97+j])=_
     rw [vC,x2,show 97+j - 97=j by omega]
    ·rcases List.mem_append.mp hch with h | h
     ·exact x3 ch h
     ·rw [List.mem_singleton.mp h]
      constructor<;>omega
  ·rcases inv e with e | ⟨rfl,rfl⟩
   ·obtain ⟨h0,q,z,ch,h1,h2,h3⟩:=b.par k y e h
    exact ⟨h0,q,z,ch,old h1,h2,h3.imp id fun h=>⟨h.1,by omega⟩⟩
   ·exact ⟨hc.1,p,x,97+j,old hx,rfl,.inr ⟨rfl,by omega⟩⟩
  ·rcases inv e2 with e2 | ⟨rfl,rfl⟩
   ·rcases inv e1 with e1 | ⟨rfl,_⟩
    ·exact b.ord i k y z e1 e2 h
    ·have:=lt_of e2
     omega
   ·rcases inv e1 with e1 | ⟨rfl,_⟩
    ·exact b.below hx e1
    ·omega
  ·rcases inv e with e' | ⟨rfl,rfl⟩
   ·by_cases hip:i=p/\l=j
    ·obtain ⟨rfl,rfl⟩:=hip
     rw [hx] at e'
     cases e'
     exact ⟨_,List.mem_append_right _ (List.mem_singleton.mpr rfl),rfl,.inl rfl⟩
    ·obtain ⟨z,h1,h2⟩:=b.cls i y l e' hl (by omega) ha
     exact ⟨z,List.mem_append_left _ h1,h2⟩
   ·have:=lt_of hx
    omega
 ·rw [if_neg hc]
  refine ⟨b.nd,b.hd,b.lt,fun k y e h=>?_,b.ord,fun i y l e hl h ha=>?_⟩
  ·obtain ⟨h0,q,z,ch,h1,h2,h3⟩:=b.par k y e h
   exact ⟨h0,q,z,ch,h1,h2,h3.imp id fun h=>⟨h.1,by omega⟩⟩
  ·by_cases hip:i=p/\l=j
   ·obtain ⟨rfl,rfl⟩:=hip
    rw [hx] at e
    cases e
    have hm:stp S x.1 l∈acc.map (·.1):=Classical.byContradiction fun z=>hc ⟨ha,z⟩
    obtain ⟨y,hy,ey⟩:=List.mem_map.mp hm
    obtain ⟨k,hk⟩:=List.mem_iff_getElem?.mp hy
    exact ⟨y,hy,ey,.inr (b.below hx hk)⟩
   ·exact b.cls i y l e hl (by omega) ha
theorem BM.len(b:BM S s c al p j acc):acc.length<=S.length:=by
 have h:=b.nd
 have hsub:∀ x∈acc.map (·.1),x∈List.range S.length:=fun x hx=>by
  obtain ⟨y,hy,rfl⟩:=List.mem_map.mp hx
  exact List.mem_range.mpr (b.lt y hy).1
 have:=fU S.length (acc.map (·.1)) h fun x hx=>List.mem_range.mp (hsub x hx)
 rwa [List.length_map] at this
def kD(acc:List (Nat × List Nat)):List D:=acc.map fun x=>D.int (x.1:Nat)
theorem aCa(acc:List (Nat × List Nat)):(kD acc).length=acc.length:=by unfold kD;simp
theorem aJd(acc:List (Nat × List Nat))(g:Nat)(w:List Nat):kD (acc++[(g,w)])=kD acc++[.int g]:=by unfold kD;simp
theorem aUw{k:Nat}{x:Nat × List Nat}(h:acc[k]?=some x):atI (kD acc) (k:Int)=some (.int x.1):=by
 have hk:=(List.getElem?_eq_some_iff.mp h).1
 rw [atI_nat (by rw [aCa];exact hk)]
 unfold kD
 rw [List.getElem_map,(List.getElem?_eq_some_iff.mp h).2]
theorem aPi{g:Nat}{w:List Nat}{k:Nat}{x:Nat × List Nat}(h:acc[k]?=some x):(bst al acc g w)[k]?=some x:=by
 unfold bst
 split
 ·rw [List.getElem?_append_left (List.getElem?_eq_some_iff.mp h).1];exact h
 ·exact h
theorem aJe(g:Nat)(acc:List (Nat × List Nat)):lO (kD acc) (.int g)=decide (g∈acc.map (·.1)):=by
 unfold lO kD
 rw [List.any_map]
 by_cases h:g∈acc.map (·.1)
 ·rw [decide_eq_true h,List.any_eq_true]
  obtain ⟨x,hx,e⟩:=List.mem_map.mp h
  exact ⟨x,hx,by simp [eqK,e]⟩
 ·rw [decide_eq_false h,List.any_eq_false]
  intro x hx
  have:¬ (x.1:Int)=(g:Int):=fun z=>h (List.mem_map.mpr ⟨x,hx,by omega⟩)
  simp [eqK,this]
theorem aLa(acc:List (Nat × List Nat)):kD acc=nats (acc.map (·.1)):=by
 unfold kD nats
 rw [List.map_map]
 rfl
end
end Pu
namespace Pu
def wD(acc:List (Nat × List Nat)):List D:=acc.map fun x=>D.str x.2
theorem aPj{acc:List (Nat × List Nat)}(nd:(acc.map (·.1)).Nodup){x:Nat × List Nat}(hx:x∈acc):pA (kD acc) (wD acc) (.int x.1)=some (.str x.2):=by
 unfold pA kD wD
 rw [List.zip_map',List.find?_map]
 have:acc.find? ((fun p:D × D=>eqK p.1 (.int x.1)) ∘ fun a=>(D.int (a.1:Nat),D.str a.2))=some x:=by
  induction acc with
  | nil=>cases hx
  | cons y acc ih =>
   rw [List.find?_cons]
   rw [List.map_cons,List.nodup_cons] at nd
   rcases List.mem_cons.mp hx with rfl | hx
   ·simp [eqK]
   ·have:¬ (y.1:Int)=(x.1:Int):=fun z=>nd.1 (List.mem_map.mpr ⟨x,hx,by omega⟩)
    simp only [Function.comp,eqK,beq_eq_false_iff_ne.mpr this]
    exact ih nd.2 hx
 rw [this]
 rfl
section
variable{S:List (List Nat)}{rk:List Nat}{s c p j:Nat}{al:Nat->Bool}{acc:List (Nat × List Nat)}
theorem BM.wlen(b:BM S s c al p j acc):∀ (k:Nat) (x:Nat × List Nat),acc[k]?=some x->x.2.length<=k:=by
 intro k
 induction k using Nat.strongRecOn with
 | ind k ih =>
  intro x hx
  by_cases hk:k=0
  ·subst hk
   rw [b.hd] at hx
   cases hx
   exact Nat.le_refl _
  ·obtain ⟨_,q,y,ch,h1,h2,_⟩:=b.par k x hx (by omega)
   have hl:x.2.length=y.2.length+1:=by rw [h2];simp
   have hq:q < k:=by
    rcases Nat.lt_trichotomy q k with h | h | h
    ·exact h
    ·subst h
     rw [hx] at h1
     cases h1
     omega
    ·rcases b.ord k q x y hx h1 h with h3 | ⟨h3,_⟩ <;> omega
   have:=ih q hq y h1
   omega
def wst(S:List (List Nat))(s:Nat)(als:List Nat)(acc:List (Nat × List Nat))(p:Nat)(x6 x7 x8:Option Sl):PSt :=
 [some (.v (.lst (stD S))),some (.v (.int s)),some (.v (.lst (nats als))),some (.o (.d false (kD acc)) (wD acc)),some (.o .l (kD acc)),some (.v (.int p)),x6,x7,x8]
theorem aX5(acc:List (Nat × List Nat)):(wD acc).length=acc.length:=by unfold wD;simp
theorem aX6(acc:List (Nat × List Nat))(g:Nat)(w:List Nat):wD (acc++[(g,w)])=wD acc++[.str w]:=by unfold wD;simp
theorem aN2(M:Mch S rk c)(als:List Nat)(b:BM S s c (fun g=>decide (g∈als)) p j acc){x:Nat × List Nat}(hx:acc[p]?=some x)(ch g:Nat) :
  mO (wst S s als acc p (some (.v (.int x.1))) (some (.v (.str [ch]))) (some (.v (.int g)))) = .ok (.nx (wst S s als (bst (fun g=>decide (g∈als)) acc g (x.2++[ch])) p (some (.v (.int x.1))) (some (.v (.str [ch]))) (some (.v (.int g))))):=by
 have n8:=M.most
 have hlen:=b.len
 have hw:=b.wlen p x hx
 have hp:p < acc.length:=(List.getElem?_eq_some_iff.mp hx).1
 obtain ⟨p1,p2,_⟩:=eY als
 have t1:e2 dIn (aB 8) (aB 2) (wst S s als acc p (some (.v (.int x.1))) (some (.v (.str [ch]))) (some (.v (.int g)))) = .ok (.bl (decide (g∈als))):=aU rfl rfl (by rw [<-vB];exact aG ⟨by rw [p2];decide,rfl,p1⟩)
 have t2:e2 jF (aB 8) (cZ 3) (wst S s als acc p (some (.v (.int x.1))) (some (.v (.str [ch]))) (some (.v (.int g)))) = .ok (.bl (!decide (g∈acc.map (·.1)))):=aU rfl rfl (by rw [<-aJe];exact aG rfl)
 have t:=wX t1 fun _=>t2
 unfold bst
 by_cases h:decide (g∈als)=true/\g ∉ acc.map (·.1)
 ·rw [if_pos h]
  rw [h.1,decide_eq_false h.2] at t
  have hk:lO (kD acc) (.int g)=false:=by rw [aJe,decide_eq_false h.2]
  have ek:lA (kD acc) (.int g)=kD (acc++[(g,x.2++[ch])]):=by
   unfold lA
   rw [hk,aJd]
   rfl
  have ev:oR (kD acc) (wD acc) (.int g) (.str (x.2++[ch]))=wD (acc++[(g,x.2++[ch])]):=by
   unfold oR
   rw [hk,aX6]
   rfl
  refine aB3 t (aZ (st':=[some (.v (.lst (stD S))),some (.v (.int s)),some (.v (.lst (nats als))),some (.o (.d false (kD (acc++[(g,x.2++[ch])]))) (wD (acc++[(g,x.2++[ch])]))),some (.o .l (kD acc)),some (.v (.int p)),some (.v (.int x.1)),some (.v (.str [ch])),some (.v (.int g))]) ?_ ?_)
  ·have e:e2 kZ (e2 dIx (cZ 3) (aB 6)) (aB 7) (wst S s als acc p (some (.v (.int x.1))) (some (.v (.str [ch]))) (some (.v (.int g)))) = .ok (.str (x.2++[ch])):=by
    refine aU (x := .str x.2) (y := .str [ch]) (aU rfl rfl ?_) rfl (aG (aQ (by show x.2.length+1<=_;omega)))
    show aH (keyOk false (.int x.1)=true) (ofO (pA (kD acc) (wD acc) (.int x.1)))=_
    rw [aG (c:=keyOk false (.int x.1)=true) rfl,aPj b.nd (List.mem_of_getElem? hx)]
    rfl
   unfold sDPut
   rw [e,<-ek,<-ev]
   exact aG ⟨rfl,bC (by rw [aX5];omega)⟩
  ·rw [aC3 (xs:=kD acc) (d := .int g) rfl rfl (by rw [aCa];omega),<-aJd acc g (x.2++[ch])]
   rfl
 ·rw [if_neg h]
  refine qK (pM t ?_) rfl
  cases h1:decide (g∈als) with
  | false=>rfl
  | true=>rw [decide_eq_true (Classical.byContradiction fun z=>h ⟨h1,z⟩)];rfl
theorem aCb(M:Mch S rk c)(als:List Nat):∀ (m j:Nat) (acc:List (Nat × List Nat)) (x7 x8:Option Sl) (x:Nat × List Nat),j+m=c->BM S s c (fun g=>decide (g∈als)) p j acc->acc[p]?=some x ->
  ∃ acc' x7' x8',forR (tgT [7,8]) mO ((List.range' j m).map fun l=>D.tup [.str [97+l],.int (stp S x.1 l)]) (wst S s als acc p (some (.v (.int x.1))) x7 x8) = .ok (.nx (wst S s als acc' p (some (.v (.int x.1))) x7' x8'))/\BM S s c (fun g=>decide (g∈als)) p c acc'/\acc'[p]?=some x
 | 0,j,acc,x7,x8,x,hj,b,hx=>⟨acc,x7,x8,rfl,by rw [show c=j by omega] at b ⊢; exact b,hx⟩
 | m+1,j,acc,x7,x8,x,hj,b,hx=>by
  obtain ⟨acc',x7',x8',e,b',hx'⟩:=aCb M als m (j+1) _ (some (.v (.str [97+j]))) (some (.v (.int (stp S x.1 j)))) x (by omega) (b.turn M hx (by omega)) (aPi hx)
  refine ⟨acc',x7',x8',?_,b',hx'⟩
  rw [List.range'_succ,List.map_cons,jQ]
  show (mO (wst S s als acc p (some (.v (.int x.1))) (some (.v (.str [97+j]))) (some (.v (.int (stp S x.1 j)))))).bind _=_
  rw [aN2 M als b hx]
  exact e
theorem aSh(M:Mch S rk c){h:Nat}(hh:h < S.length):yE [97,98,99] (nats S[h])=(List.range' 0 c).map fun l=>D.tup [.str [97+l],.int (stp S h l)]:=by
 have hr:=(M.row S[h] (List.getElem_mem hh)).1
 have e:∀ l,stp S h l=S[h].getD l 0:=fun l=>by simp [stp,List.getD_eq_getElem?_getD,List.getElem?_eq_getElem hh]
 have h1:=M.c1
 have h3:=M.c3
 simp only [e]
 generalize S[h]=r at hr
 match r,hr with
 | [],hr=>simp at hr;omega
 | [a],hr=>subst hr;rfl
 | [a,b],hr=>subst hr;rfl
 | [a,b,d],hr=>subst hr;rfl
 | _ :: _ :: _ :: _ :: r,hr=>simp at hr;omega
theorem aCc(M:Mch S rk c)(als:List Nat):∀ (m p:Nat) (acc:List (Nat × List Nat)) (x6 x7 x8:Option Sl) (f:Nat),S.length+1<=m+p->m<=f->BM S s c (fun g=>decide (g∈als)) p 0 acc->p<=acc.length ->
  ∃ acc' x6' x7' x8',jG qG wA f (wst S s als acc p x6 x7 x8) = .ok (.nx (wst S s als acc' acc'.length x6' x7' x8'))/\BM S s c (fun g=>decide (g∈als)) acc'.length 0 acc'
 | 0,p,acc,x6,x7,x8,f,hm,hf,b,hp=>by have:=b.len;omega
 | m+1,p,acc,x6,x7,x8,f,hm,hf,b,hp=>by
  obtain ⟨f,rfl⟩:∃ g,f=g+1:=⟨f - 1,by omega⟩
  have test:qG (wst S s als acc p x6 x7 x8) = .ok (.bl (decide ((p:Int) < ((kD acc).length:Nat)))):=aU rfl rfl rfl
  rw [aCa] at test
  by_cases h:p < acc.length
  ·have hx:acc[p]?=some acc[p]:=List.getElem?_eq_getElem h
   generalize acc[p]=x at hx
   obtain ⟨l1,_,_⟩:=b.lt x (List.mem_of_getElem? hx)
   obtain ⟨acc',x7',x8',e,b',hx'⟩:=aCb M als c 0 acc x7 x8 x (by omega) b hx
   have hp':p < acc'.length:=(List.getElem?_eq_some_iff.mp hx').1
   obtain ⟨acc2,y6,y7,y8,ew,b3⟩:=aCc M als m (p+1) acc' (some (.v (.int x.1))) x7' x8' f (by omega) (by omega) b'.next (by omega)
   refine ⟨acc2,y6,y7,y8,aH1 (pM test (aWx h)) (st':=wst S s als acc' (p+1) (some (.v (.int x.1))) x7' x8') ?_ ew,b3⟩
   refine aZ (st':=wst S s als acc p (some (.v (.int x.1))) x7 x8) (cM (aU rfl rfl (jE (aUw hx)))) (aZ (st':=wst S s als acc' p (some (.v (.int x.1))) x7' x8') (iH (xs:=yE [97,98,99] (nats S[x.1])) ?_ ?_) (cM rfl))
   ·show ((e2 dIx (aB 0) (aB 6)) (wst S s als acc p (some (.v (.int x.1))) x7 x8)).bind _=_
    rw [aU (rfl:aB 0 (wst S s als acc p (some (.v (.int x.1))) x7 x8) = .ok (.lst (stD S))) rfl (jE (wY l1))]
    rfl
   ·rw [aSh M l1]
    exact e
  ·have:p=acc.length:=by omega
   subst this
   exact ⟨acc,x6,x7,x8,aE5 (pM test (aWy h)),b⟩
theorem aSi(M:Mch S rk c){s:Nat}(hs:s < S.length)(als:List Nat):∃ acc,jV [.lst (stD S),.int s,.lst (nats als)] = .ok (.dct false (kD acc) (wD acc))/\BM S s c (fun g=>decide (g∈als)) acc.length 0 acc:=by
 have n8:=M.most
 obtain ⟨acc,x6,x7,x8,e,b⟩:=aCc M als (S.length+1) 0 [(s,[])] none none none 100000 (by omega) (by omega) (BM.start hs) (by simp)
 refine ⟨acc,cN rfl ?_,b⟩
 unfold uK
 refine aZ (st':=[some (.v (.lst (stD S))),some (.v (.int s)),some (.v (.lst (nats als))),some (.o (.d false (kD [(s,[])])) (wD [(s,[])])),none,none,none,none,none]) (by simp [aJ6,aOr,atom,kD,wD]) ?_
 refine aZ (st':=[some (.v (.lst (stD S))),some (.v (.int s)),some (.v (.lst (nats als))),some (.o (.d false (kD [(s,[])])) (wD [(s,[])])),some (.o .l (kD [(s,[])])),none,none,none,none]) (by simp [kD]) ?_
 refine aZ (st':=wst S s als [(s,[])] 0 none none none) (by simp [wst]) ?_
 refine aZ (st':=wst S s als acc acc.length x6 x7 x8) (by rw [aE1];exact e) ?_
 simp [wst,ofK]
end
end Pu
namespace Pu
def orN(l:List Nat):Nat->Nat:=fun b=>l.foldl (fun b r=>b ||| 2 ^ r) b
theorem aLb(r:Nat):∀ (l:List Nat) (b:Nat),(orN l b).testBit r=(b.testBit r||decide (r∈l))
 | [],b=>by simp [orN]
 | x :: l,b=>by
  show (orN l (b ||| 2 ^ x)).testBit r=_
  rw [aLb r l,Nat.testBit_or,Nat.testBit_two_pow]
  by_cases h:x=r
  ·simp [h]
  ·have h':¬ r=x:=fun z=>h z.symm
   simp [h,h']
def cV(l:List Nat):Nat:=orN l 0
theorem jH(l:List Nat)(r:Nat):(cV l).testBit r=decide (r∈l):=by
 unfold cV
 rw [aLb,Nat.zero_testBit,Bool.false_or]
theorem aFk{l l':List Nat}(h:∀ r,r∈l ↔ r∈l'):cV l=cV l':=Nat.eq_of_testBit_eq fun r=>by
 rw [jH,jH,decide_eq_decide.mpr (h r)]
def aM(n:Nat):List Nat:=(List.range (nQ n)).filter fun r=>n.testBit r
theorem aHa{n r:Nat}(h:nQ n<=r):n.testBit r=false:=by
 unfold nQ at h
 by_cases h0:(n:Int)=0
 ·have:n=0:=by omega
  rw [this,Nat.zero_testBit]
 ·rw [if_neg h0] at h
  have hn:n≠0:=fun z=>h0 (by rw [z];rfl)
  have h1:n < 2 ^ (n.log2+1):=(Nat.log2_lt hn).mp (Nat.lt_succ_self _)
  exact Nat.testBit_lt_two_pow (Nat.lt_of_lt_of_le h1 (Nat.pow_le_pow_right (by decide) (by simpa using h)))
theorem bF{n r:Nat}:r∈aM n ↔ n.testBit r=true:=by
 unfold aM
 rw [List.mem_filter,List.mem_range]
 refine ⟨fun h=>h.2,fun h=>⟨?_,h⟩⟩
 rcases Nat.lt_or_ge r (nQ n) with h1 | h1
 ·exact h1
 ·rw [aHa h1] at h;cases h
theorem fV(n:Nat):cV (aM n)=n:=Nat.eq_of_testBit_eq fun r=>by
 rw [jH]
 cases h:n.testBit r with
 | true=>exact decide_eq_true (bF.mpr h)
 | false=>exact decide_eq_false fun z=>by rw [bF.mp z] at h;cases h
theorem lW{l:List Nat}{r:Nat}:r∈aM (cV l) ↔ r∈l:=by
 rw [bF,jH,decide_eq_true_eq]
theorem cF{n k r:Nat}(h:n < 2 ^ k)(hr:r∈aM n):r < k:=by
 rw [bF] at hr
 rcases Nat.lt_or_ge r k with h1 | h1
 ·exact h1
 ·rw [Nat.testBit_lt_two_pow (Nat.lt_of_lt_of_le h (Nat.pow_le_pow_right (by decide) h1))] at hr
  cases hr
theorem aHb{n k:Nat}(h:n < 2 ^ k):nQ n<=k:=by
 unfold nQ
 by_cases h0:(n:Int)=0
 ·rw [if_pos h0];exact Nat.zero_le _
 ·rw [if_neg h0]
  have hn:n≠0:=fun z=>h0 (by rw [z];rfl)
  have:n.log2 < k:=(Nat.log2_lt hn).mpr h
  show (n:Int).natAbs.log2+1<=k
  rw [Int.natAbs_natCast]
  omega
@[simp] theorem aPk(i j:Int):aDi (.int i) (.int j)=aH (0<=j/\j<=1000000/\i.natAbs < 18446744073709551616) (.ok (.int (i * 2 ^ j.toNat))):=rfl
@[simp] theorem bAv(i j:Int):aBw (.int i) (.int j)=aH (0<=j) (.ok (.int (i / 2 ^ j.toNat))):=rfl
@[simp] theorem aHc(i j:Int):zV (.int i) (.int j)=aH (0<=i/\0<=j) (.ok (.int ((i.toNat &&& j.toNat:Nat):Int))):=rfl
@[simp] theorem aSj(i j:Int):dOr (.int i) (.int j)=aH (0<=i/\0<=j) (.ok (.int ((i.toNat ||| j.toNat:Nat):Int))):=rfl
@[simp] theorem aUx(i:Int):aB5 (.int i) = .ok (.int (nQ i:Nat)):=rfl
theorem aHd(n r:Nat):(((n:Int) / 2 ^ r).toNat &&& (1:Int).toNat)=if n.testBit r=true then 1 else 0:=by
 have e:((n:Int) / 2 ^ r).toNat=n / 2 ^ r:=by
  have:(n:Int) / 2 ^ r=((n / 2 ^ r:Nat):Int):=by push_cast;rfl
  rw [this,Int.toNat_natCast]
 rw [e,show (1:Int).toNat=1 from rfl,Nat.and_one_is_mod,Nat.testBit_eq_decide_div_mod_eq]
 by_cases h:n / 2 ^ r % 2=1
 ·simp [h]
 ·have:n / 2 ^ r % 2=0:=by omega
  simp [this]
theorem aA1(n r:Nat):dG [.int n,.int r] = .ok (.bl (n.testBit r)):=by
 have hb:=aHd n r
 have h0:0<=(n:Int) / 2 ^ r:=Int.ediv_nonneg (by omega) (Int.pow_nonneg (by decide))
 refine cN rfl ?_
 unfold wO
 show cY _ [some (.v (.int n)),some (.v (.int r))]=_
 have e1:e2 aBw (aB 0) (aB 1) [some (.v (.int n)),some (.v (.int r))] = .ok (.int ((n:Int) / 2 ^ r)):=by simp
 have e2':e2 zV (e2 aBw (aB 0) (aB 1)) (eC (.int 1)) [some (.v (.int n)),some (.v (.int r))] = .ok (.int ((if n.testBit r=true then 1 else 0:Nat):Int)):=by
  rw [aBt,e1,aN,aOt,aN,aHc,aG ⟨h0,by decide⟩,hb]
 rw [pI,aBt,e2']
 cases n.testBit r<;>simp
theorem qZ{tg:Tg}{C E:Ex}{st:PSt}{q:Nat->Bool}{G:Nat->D}:∀ (ks:List Nat),(∀ k∈ks,∃ s1,tg (.int k) st = .ok s1/\C s1 = .ok (.bl (q k))/\E s1 = .ok (G k))->nP tg C E st (nats ks) = .ok ((ks.filter q).map G)
 | [],_=>rfl
 | k :: ks,h=>by
  obtain ⟨s1,e1,e2,e3⟩:=h k List.mem_cons_self
  have ih:=qZ ks fun k hk=>h k (List.mem_cons_of_mem _ hk)
  show nP tg C E st (.int k :: nats ks)=_
  rw [rM,e1]
  cases hq:q k with
  | true =>
   rw [List.filter_cons_of_pos hq,List.map_cons]
   simp [e2,e3,hq,ih]
  | false =>
   rw [List.filter_cons_of_neg (by rw [hq];decide)]
   simp [e2,hq,ih]
theorem aAm(n:Nat):fL 0 n=nats (List.range n):=by
 rw [aAi]
 rfl
theorem nC{n k:Nat}(h:n < 2 ^ k)(hk:k<=2000):bV [.int n] = .ok (.lst (nats (aM n))):=by
 have hb:=aHb h
 have e:=qZ (tg:=tgN 1) (C:=rP) (E:=rO) (st:=[some (.v (.int n)),none]) (q:=fun r=>n.testBit r) (G:=fun r => .int r) (List.range (nQ n)) (fun r _=>⟨_,rfl,by
  simp [rP,aA1 n r],by simp [rO]⟩)
 refine cN rfl ?_
 unfold wQ
 show cY _ [some (.v (.int n)),none]=_
 have hi:tQ (e1 aB5 (aB 0)) [some (.v (.int n)),none] = .ok (nats (List.range (nQ n))):=by
  simp [show ((nQ n:Nat):Int)<=(big:Int) from aO (by omega)]
  exact aAm _
 rw [pI,xW,hi]
 simp only [aN,bQ,List.length_range]
 rw [aG (aQ (by omega)),show clr [1] [some (Sl.v (D.int n)),none]=[some (.v (.int n)),none] from rfl,e]
 rfl
theorem aEd(a:Option Sl):∀ (l:List Nat) (b:Nat) (x2:Option Sl),(∀ r∈l,r<=1000000)->∃ x2',forR (tgN 2) jT (nats l) [a,some (.v (.int b)),x2] = .ok (.nx [a,some (.v (.int (orN l b))),x2'])
 | [],b,x2,_=>⟨x2,rfl⟩
 | r :: l,b,x2,h=>by
  obtain ⟨x2',e⟩:=aEd a l (b ||| 2 ^ r) (some (.v (.int r))) fun r hr=>h r (List.mem_cons_of_mem _ hr)
  refine ⟨x2',?_⟩
  have hr:=h r List.mem_cons_self
  have hr':(r:Int)<=1000000:=by omega
  have ee:((1:Int) * 2 ^ (r:Int).toNat)=((2 ^ r:Nat):Int):=by push_cast;simp
  show forR (tgN 2) jT (.int r :: nats l) _=_
  rw [jQ]
  have e3:(2:Int) ^ r=((2 ^ r:Nat):Int):=by push_cast;rfl
  have t:jT [a,some (.v (.int b)),some (.v (.int r))] = .ok (.nx [a,some (.v (.int ((b ||| 2 ^ r:Nat):Int))),some (.v (.int r))]):=by
   have h1:e2 aDi (eC (.int 1)) (aB 2) [a,some (.v (.int b)),some (.v (.int r))] = .ok (.int ((2 ^ r:Nat):Int)):=by
    simp only [aBt,aOt,aKq,aN,List.getElem?_cons_succ,List.getElem?_cons_zero]
    rw [aPk,aG ⟨by omega,hr',by decide⟩,ee]
   unfold jT
   rw [aKu,aBt,h1]
   simp only [aKq,aN,List.getElem?_cons_succ,List.getElem?_cons_zero]
   rw [aSj,aG ⟨Int.natCast_nonneg _,Int.natCast_nonneg _⟩,Int.toNat_natCast,Int.toNat_natCast]
   rfl
  show (jT [a,some (.v (.int b)),some (.v (.int r))]).bind _=_
  rw [t]
  exact e
theorem aBa{l:List Nat}(h:∀ r∈l,r<=1000000)(hl:l.length<=1000000):fD [.lst (nats l)] = .ok (.int (cV l)):=by
 obtain ⟨x2',e⟩:=aEd (some (.v (.lst (nats l)))) l 0 none h
 refine cN rfl ?_
 unfold zW
 refine aZ (st':=[some (.v (.lst (nats l))),some (.v (.int 0)),none]) (by simp) ?_
 refine aZ (st':=[some (.v (.lst (nats l))),some (.v (.int (cV l))),x2']) ?_ (by simp)
 rw [aKv,show itE (aB 0) [some (Sl.v (D.lst (nats l))),some (.v (.int 0)),none] = .ok (nats l) from rfl,aN]
 exact e
theorem aJf{n k:Nat}(h:n < 2 ^ k):(List.range k).filter (fun r=>n.testBit r)=aM n:=by
 have hb:=aHb h
 unfold aM
 obtain ⟨d,rfl⟩:∃ d,k=nQ n+d:=⟨k - nQ n,by omega⟩
 have h0:((List.range d).map (nQ n + ·)).filter (fun r=>n.testBit r)=[]:=List.filter_eq_nil_iff.mpr fun x hx=>by
  obtain ⟨y,_,rfl⟩:=List.mem_map.mp hx
  rw [aHa (Nat.le_add_right _ _)]
  decide
 rw [List.range_add,List.filter_append,h0,List.append_nil]
end Pu
namespace Pu
inductive Rch (S:List (List Nat)) (c:Nat) (al:Nat->Bool) (s:Nat):Nat->Prop where
 | here:Rch S c al s s
 | on {r l:Nat}:Rch S c al s r->l < c->al (stp S r l)=true->Rch S c al s (stp S r l)
theorem cW(n:Nat):(aM n).Nodup:=List.nodup_range.filter _
theorem aBb{l:List Nat}{k:Nat}(h:∀ r∈l,r < k):cV l < 2 ^ k:=Nat.lt_pow_two_of_testBit _ fun r hr=>by
 rw [jH]
 exact decide_eq_false fun z=>by have:=h r z;omega
open Classical in
noncomputable def dB(S:List (List Nat))(c n r:Nat):Nat:=cV ((List.range S.length).filter fun g=>decide (Rch S c (fun g=>n.testBit g) r g))
section
variable{S:List (List Nat)}{rk:List Nat}{c n:Nat}
theorem aFl(M:Mch S rk c){al:Nat->Bool}{s g:Nat}(hs:s < S.length)(h:Rch S c al s g):g < S.length:=by
 induction h with
 | here=>exact hs
 | on _ hl _ ih=>obtain ⟨_,_,_,h⟩:=aJ9 M ih hl;exact h
theorem aFm{al:Nat->Bool}{s g:Nat}(hs:al s=true)(h:Rch S c al s g):al g=true:=by
 cases h with
 | here=>exact hs
 | on _ _ ha=>exact ha
open Classical in
theorem lX(M:Mch S rk c){r:Nat}(hr:r < S.length)(g:Nat):(dB S c n r).testBit g=true ↔ Rch S c (fun g=>n.testBit g) r g:=by
 unfold dB
 rw [jH,decide_eq_true_eq,List.mem_filter,List.mem_range,decide_eq_true_eq]
 exact ⟨fun h=>h.2,fun h=>⟨aFl M hr h,h⟩⟩
theorem nD:dB S c n r < 2 ^ S.length:=aBb fun g hg=>List.mem_range.mp (List.mem_filter.mp hg).1
theorem aCd(M:Mch S rk c){a b:Nat}(ha:a < S.length):b∈S.getD a [] ↔ ∃ l,l < c/\stp S a l=b:=by
 have hr:=(M.row S[a] (List.getElem_mem ha)).1
 have hg:S.getD a []=S[a]:=by rw [List.getD_eq_getElem?_getD,List.getElem?_eq_getElem ha];rfl
 have e:∀ l,stp S a l=S[a].getD l 0:=fun l=>by unfold stp;rw [hg]
 rw [hg]
 constructor
 ·intro h
  obtain ⟨l,hl,rfl⟩:=List.mem_iff_getElem.mp h
  exact ⟨l,by omega,by rw [e,List.getD_eq_getElem?_getD,List.getElem?_eq_getElem hl];rfl⟩
 ·rintro ⟨l,hl,rfl⟩
  have hl':l < S[a].length:=by omega
  rw [e,List.getD_eq_getElem?_getD,List.getElem?_eq_getElem hl']
  exact List.getElem_mem hl'
theorem Rch.trans{al:Nat->Bool}{a b d:Nat}(h1:Rch S c al a b)(h2:Rch S c al b d):Rch S c al a d:=by
 induction h2 with
 | here=>exact h1
 | on _ hl ha ih=>exact .on ih hl ha
end
theorem aX7(g:Nat)(l:List Nat):dIn (.int g) (.lst (nats l)) = .ok (.bl (decide (g∈l))):=by
 obtain ⟨p1,p2,_⟩:=eY l
 rw [<-vB]
 exact aG ⟨by rw [p2];exact Nat.zero_le 60,rfl,p1⟩
theorem aX8{n:Nat}(h:n<=1000000):aDi (.int 1) (.int n) = .ok (.int ((2 ^ n:Nat):Int)):=by
 have e:((2 ^ n:Nat):Int)=1 * 2 ^ (n:Int).toNat:=by rw [Int.one_mul,Int.toNat_natCast];push_cast;rfl
 rw [e]
 exact aG ⟨by omega,by omega,by decide⟩
theorem aLc(a b:Nat):zV (.int a) (.int b) = .ok (.int ((a &&& b:Nat):Int)):=by
 rw [<-Int.toNat_natCast a,<-Int.toNat_natCast b]
 exact aG ⟨by omega,by omega⟩
theorem rA(g:Nat)(l:List Nat):lO (nats l) (.int g)=decide (g∈l):=by
 unfold lO nats
 rw [List.any_map]
 by_cases h:g∈l
 ·rw [decide_eq_true h,List.any_eq_true]
  exact ⟨g,h,by simp [eqK]⟩
 ·rw [decide_eq_false h,List.any_eq_false]
  intro x hx
  have : ¬ (x : Int) = (g : Int) := fun z => h (by have e : x = g := by omega
                                                   rw [<-e];exact hx)
  simp [eqK,this]
theorem uR(V:Nat->D){g:Nat}:∀ {l:List Nat},g∈l->pA (nats l) (l.map V) (.int g)=some (V g)
 | [],h=>nomatch h
 | x :: l,h=>by
  show pA (.int x :: nats l) (V x :: l.map V) (.int g)=_
  unfold pA
  rw [List.zip_cons_cons,List.find?_cons]
  by_cases e:x=g
  ·simp [eqK,e]
  ·have:¬ (x:Int)=(g:Int):=by omega
   simp only [eqK,beq_eq_false_iff_ne.mpr this]
   exact uR V ((List.mem_cons.mp h).resolve_left fun z=>e z.symm)
theorem aCe(l:List Nat)(x:Nat):nats (l++[x])=nats l++[.int x]:=by unfold nats;simp
theorem yO{ks vs:List D}{g:Nat}{d:D}(h:pA ks vs (.int g)=some d):dIx (.dct false ks vs) (.int g) = .ok d:=by
 show aH (keyOk false (.int g)=true) (ofO (pA ks vs (.int g)))=_
 rw [aG (c:=keyOk false (.int g)=true) rfl,h]
 rfl
end Pu
namespace Pu
section
variable{S:List (List Nat)}{rk:List Nat}{s c p j:Nat}{al:Nat->Bool}{acc:List (Nat × List Nat)}
theorem BM.sound(b:BM S s c al p j acc):∀ (k:Nat) (x:Nat × List Nat),acc[k]?=some x->Rch S c al s x.1:=by
 intro k
 induction k using Nat.strongRecOn with
 | ind k ih =>
  intro x hx
  by_cases hk:k=0
  ·subst hk
   rw [b.hd] at hx
   cases hx
   exact .here
  ·obtain ⟨h0,q,y,ch,h1,h2,_⟩:=b.par k x hx (by omega)
   have hl:x.2.length=y.2.length+1:=by rw [h2];simp
   have hq:q < k:=by
    rcases Nat.lt_trichotomy q k with h | h | h
    ·exact h
    ·subst h
     rw [hx] at h1
     cases h1
     omega
    ·rcases b.ord k q x y hx h1 h with h3 | ⟨h3,_⟩ <;> omega
   obtain ⟨_,x2,x3⟩:=b.lt x (List.mem_of_getElem? hx)
   obtain ⟨_,y2,_⟩:=b.lt y (List.mem_of_getElem? h1)
   have hch:=x3 ch (by rw [h2];simp)
   have e:x.1=stp S y.1 (ch - 97):=by rw [<-x2,h2,vC,y2]
   rw [e] at h0 ⊢
   exact .on (ih q hq y h1) (by omega) h0
theorem BM.whole(b:BM S s c al acc.length 0 acc){g:Nat}:g∈acc.map (·.1) ↔ Rch S c al s g:=by
 constructor
 ·intro h
  obtain ⟨x,hx,rfl⟩:=List.mem_map.mp h
  obtain ⟨k,hk⟩:=List.mem_iff_getElem?.mp hx
  exact b.sound k x hk
 ·intro h
  induction h with
  | here=>exact List.mem_map.mpr ⟨_,List.mem_of_getElem? b.hd,rfl⟩
  | on _ hl ha ih =>
   obtain ⟨x,hx,rfl⟩:=List.mem_map.mp ih
   obtain ⟨k,hk⟩:=List.mem_iff_getElem?.mp hx
   obtain ⟨y,h1,h2,_⟩:=b.cls k x _ hk hl (.inl (List.getElem?_eq_some_iff.mp hk).1) ha
   exact List.mem_map.mpr ⟨y,h1,h2⟩
end
end Pu
namespace Pu
inductive Pw (B:Nat->Nat->Prop) (K:Nat->Prop):Nat->Nat->Prop where
 | one {a b:Nat}:B a b->Pw B K a b
 | mid {a m b:Nat}:K m->Pw B K a m->Pw B K m b->Pw B K a b
theorem Pw.cut{B:Nat->Nat->Prop}{K K':Nat->Prop}{k a b:Nat}(hK:∀ m,K' m->K m\/m=k)(h:Pw B K' a b):Pw B K a b\/(Pw B K a k/\Pw B K k b):=by
 induction h with
 | one h=>exact .inl (.one h)
 | mid hm _ _ i1 i2 =>
  rename_i a m b _ _
  rcases hK m hm with hm | rfl
  ·rcases i1 with x | ⟨x1,x2⟩
   ·rcases i2 with y | ⟨y1,y2⟩
    ·exact .inl (.mid hm x y)
    ·exact .inr ⟨.mid hm x y1,y2⟩
   ·rcases i2 with y | ⟨y1,y2⟩
    ·exact .inr ⟨x1,.mid hm x2 y⟩
    ·exact .inr ⟨x1,y2⟩
  ·exact .inr ⟨i1.elim id fun z=>z.1,i2.elim id fun z=>z.2⟩
theorem Pw.mono{B:Nat->Nat->Prop}{K K':Nat->Prop}{a b:Nat}(hK:∀ m,K m->K' m)(h:Pw B K a b):Pw B K' a b:=by
 induction h with
 | one h=>exact .one h
 | mid hm _ _ i1 i2=>exact .mid (hK _ hm) i1 i2
def gD(V:Nat->Nat)(m:Nat):Nat->Nat:=fun r=>if (V r).testBit m=true then V r ||| V m else V r
theorem aLd{B:Nat->Nat->Prop}{R:Nat->Prop}(hR:∀ a b,R a->B a b->R b):∀ (ks ds:List Nat) (V:Nat->Nat),(∀ k∈ks,R k)->(∀ r,R r->∀ g,(V r).testBit g=true ↔ Pw B (· ∈ ds) r g)->∀ r,R r->∀ g,((ks.foldl gD V) r).testBit g=true ↔ Pw B (· ∈ ds++ks) r g
 | [],ds,V,_,h,r,hr,g=>by rw [List.append_nil];exact h r hr g
 | k :: ks,ds,V,hk,h,r,hr,g=>by
  have e:ds++k :: ks=(ds++[k])++ks:=by simp
  rw [e]
  refine aLd hR ks (ds++[k]) (gD V k) (fun x hx=>hk x (List.mem_cons_of_mem _ hx)) (fun r hr g=>?_) r hr g
  have hk':=hk k List.mem_cons_self
  have up:∀ {a b:Nat},Pw B (· ∈ ds) a b->Pw B (· ∈ ds++[k]) a b:=fun z=>z.mono fun m hm=>List.mem_append_left _ hm
  have in_k:k∈ds++[k]:=by simp
  unfold gD
  by_cases hb:(V r).testBit k=true
  ·rw [if_pos hb,Nat.testBit_or,Bool.or_eq_true,h r hr g,h k hk' g]
   constructor
   ·rintro (z | z)
    ·exact up z
    ·exact .mid in_k (up ((h r hr k).mp hb)) (up z)
   ·intro z
    rcases z.cut (K:=(· ∈ ds)) (k:=k) (fun m hm=>by simpa using hm) with y | ⟨_,y⟩
    ·exact .inl y
    ·exact .inr y
  ·rw [if_neg hb,h r hr g]
   constructor
   ·exact up
   ·intro z
    rcases z.cut (K:=(· ∈ ds)) (k:=k) (fun m hm=>by simpa using hm) with y | ⟨y,_⟩
    ·exact y
    ·exact absurd ((h r hr k).mpr y) hb
section
variable{S:List (List Nat)}{rk:List Nat}{c n:Nat}
def nR(S:List (List Nat))(n:Nat):Nat->Nat:=fun r=>(cV (S.getD r []) ||| 2 ^ r) &&& n
theorem aPl{r g:Nat}:(nR S n r).testBit g=true ↔ (r=g\/g∈S.getD r [])/\n.testBit g=true:=by
 unfold nR
 rw [Nat.testBit_and,Nat.testBit_or,jH,Nat.testBit_two_pow,Bool.and_eq_true,Bool.or_eq_true,decide_eq_true_eq,decide_eq_true_eq]
 exact ⟨fun h=>⟨h.1.symm,h.2⟩,fun h=>⟨h.1.symm,h.2⟩⟩
theorem aN3(M:Mch S rk c)(hn:n < 2 ^ S.length){r:Nat}(hr:r∈aM n)(g:Nat):(((aM n).foldl gD (nR S n)) r).testBit g=true ↔ Rch S c (fun g=>n.testBit g) r g:=by
 have hp:=aLd (B:=fun a b=>(a=b\/b∈S.getD a [])/\n.testBit b=true) (R:=(· ∈ aM n)) (fun a b _ h=>bF.mpr h.2) (aM n) [] (nR S n) (fun k hk=>hk) (fun r _ g=>by
  rw [aPl]
  constructor
  ·exact fun h => .one h
  ·intro h
   cases h with
   | one h=>exact h
   | mid h _ _=>cases h) r hr g
 rw [hp,List.nil_append]
 clear hp
 constructor
 ·intro h
  have hi:∀ {a b:Nat},Pw (fun a b=>(a=b\/b∈S.getD a [])/\n.testBit b=true) (· ∈ aM n) a b->a∈aM n->Rch S c (fun g=>n.testBit g) a b:=by
   intro a b h
   induction h with
   | one h =>
    intro ha
    obtain ⟨rfl | h1,h2⟩:=h
    ·exact .here
    ·obtain ⟨l,hl,rfl⟩:=(aCd M (cF hn ha)).mp h1
     exact .on .here hl h2
   | mid hm _ _ i1 i2=>exact fun ha=>Rch.trans (i1 ha) (i2 hm)
  exact hi h hr
 ·intro h
  induction h with
  | here=>exact .one ⟨.inl rfl,bF.mp hr⟩
  | on h1 hl ha ih =>
   have hx:_∈aM n:=bF.mpr (aFm (al:=fun g=>n.testBit g) (bF.mp hr) h1)
   exact .mid hx ih (.one ⟨.inr ((aCd M (cF hn hx)).mpr ⟨_,hl,rfl⟩),ha⟩)
theorem aPm(M:Mch S rk c)(hn:n < 2 ^ S.length){r:Nat}(hr:r∈aM n):((aM n).foldl gD (nR S n)) r=dB S c n r:=Nat.eq_of_testBit_eq fun g=>by
 have e:=(aN3 M hn hr g).trans (lX M (cF hn hr) g).symm
 cases h1:(((aM n).foldl gD (nR S n)) r).testBit g with
 | true=>exact (e.mp h1).symm
 | false =>
  cases h2:(dB S c n r).testBit g with
  | true=>rw [e.mpr h2] at h1;cases h1
  | false=>rfl
theorem aLe(a b:Nat):dOr (.int a) (.int b) = .ok (.int ((a ||| b:Nat):Int)):=by
 rw [<-Int.toNat_natCast a,<-Int.toNat_natCast b]
 exact aG ⟨by omega,by omega⟩
def tU(S:List (List Nat))(n:Nat)(ks:List Nat)(V:Nat->Nat)(x4 x5:Option Sl):PSt:=[some (.v (.lst (stD S))),some (.v (.int n)),some (.v (.lst (nats (aM n)))),some (.o (.d false (nats ks)) (ks.map fun r=>D.int (V r:Nat))),x4,x5]
theorem aSk{ks:List Nat}{V:Nat->Nat}{r:Nat}{x:D}(hr:r ∉ ks):lA (nats ks) (.int r)=nats (ks++[r])/\oR (nats ks) (ks.map fun r=>D.int (V r:Nat)) (.int r) x=(ks.map fun r=>D.int (V r:Nat))++[x]:=by
 have hk:lO (nats ks) (.int r)=false:=by rw [rA,decide_eq_false hr]
 unfold lA oR
 rw [hk,aCe]
 exact ⟨rfl,rfl⟩
theorem aSl{ks:List Nat}{V:Nat->Nat}{r x:Nat}(hr:r∈ks):lA (nats ks) (.int r)=nats ks/\oR (nats ks) (ks.map fun r=>D.int (V r:Nat)) (.int r) (.int x)=ks.map fun k=>D.int ((if k=r then x else V k:Nat):Int):=by
 have hk:lO (nats ks) (.int r)=true:=by rw [rA,decide_eq_true hr]
 unfold lA oR
 rw [hk,if_pos rfl,if_pos rfl]
 refine ⟨rfl,?_⟩
 unfold nats
 rw [List.zip_map',List.map_map]
 refine List.map_congr_left fun k _=>?_
 show (if eqK (.int (k:Int)) (.int (r:Int))=true then D.int (x:Int) else D.int (V k:Int))=_
 by_cases e:k=r
 ·rw [if_pos e,if_pos (by rw [e];simp [eqK])]
 ·have:¬ (k:Int)=(r:Int):=by omega
  rw [if_neg e,if_neg (by simp [eqK,this])]
theorem aFn{i:Nat}{g f:Ex}{st:PSt}{k d:D}{ks vs:List D}(hf:f st = .ok d)(hg:g st = .ok k)(hs:st[i]?=some (some (.o (.d false ks) vs)))(hk:keyOk false k=true)(hl:vs.length < 1000):sDPut i g f st = .ok (.nx (st.set i (some (.o (.d false (lA ks k)) (oR ks vs k d))))):=by
 unfold sDPut
 rw [hf,aN,hg,aN,hs]
 exact aG ⟨hk,bC (by omega)⟩
theorem aEe(M:Mch S rk c):∀ (rs ks:List Nat) (x4:Option Sl),(ks++rs).Nodup->(∀ r∈ks++rs,r < S.length)->∃ x4',forR (tgN 4) uE (nats rs) (tU S n ks (nR S n) x4 none) = .ok (.nx (tU S n (ks++rs) (nR S n) x4' none))
 | [],ks,x4,_,_=>⟨x4,by rw [List.append_nil];rfl⟩
 | r :: rs,ks,x4,nd,hl=>by
  have n8:=M.most
  have h1:ks++r :: rs=(ks++[r])++rs:=by simp
  rw [h1] at nd hl
  obtain ⟨x4',e⟩:=aEe M rs (ks++[r]) (some (.v (.int r))) nd hl
  refine ⟨x4',?_⟩
  rw [h1]
  have hr:r ∉ ks:=fun z=>(List.nodup_append.mp (List.nodup_append.mp nd).1).2.2 r z r (List.mem_singleton.mpr rfl) rfl
  have hrl:r < S.length:=hl r (by simp)
  have hlen:ks.length<=S.length:=fU S.length ks (List.nodup_append.mp (List.nodup_append.mp nd).1).1 fun x hx=>hl x (by simp [hx])
  have hg:S.getD r []=S[r]:=by rw [List.getD_eq_getElem?_getD,List.getElem?_eq_getElem hrl];rfl
  have hrow:=M.row S[r] (List.getElem_mem hrl)
  have c3:=M.c3
  have hb:=aBa (l:=S[r]) (fun x hx=>by have:=hrow.2 x hx;omega) (by rw [hrow.1];omega)
  obtain ⟨p1,p2⟩:=aSk (V:=nR S n) (x := .int (nR S n r:Nat)) hr
  refine qL rfl (s2:=tU S n (ks++[r]) (nR S n) (some (.v (.int r))) none) ?_ e
  have hv:e2 zV (e2 dOr (aX fD (aC (e2 dIx (aB 0) (aB 4)) (aW))) (e2 aDi (eC (.int 1)) (aB 4))) (aB 1) (tU S n ks (nR S n) (some (.v (.int r))) none) = .ok (.int (nR S n r:Nat)):=by
   unfold nR
   rw [hg]
   exact aU (aU (aY (bH (aU rfl rfl (jE (wY hrl))) rfl) hb) (aU rfl rfl (aX8 (by omega))) (aLe _ _)) rfl (aLc _ _)
  refine (aFn hv rfl rfl rfl (by rw [List.length_map];omega)).trans ?_
  rw [p1,p2]
  unfold tU
  rw [List.map_append]
  rfl
theorem aN4{ks:List Nat}{V:Nat->Nat}{r m:Nat}(hl:ks.length < 1000)(hr:r∈ks)(hm:m∈ks):lB (tU S n ks V (some (.v (.int r))) (some (.v (.int m)))) = .ok (.nx (tU S n ks (fun k=>if k=r then gD V m r else V k) (some (.v (.int r))) (some (.v (.int m))))):=by
 have gr:e2 dIx (cZ 3) (aB 4) (tU S n ks V (some (.v (.int r))) (some (.v (.int m)))) = .ok (.int (V r:Nat)):=aU rfl rfl (yO (uR (fun r=>D.int (V r:Nat)) hr))
 have gm:e2 dIx (cZ 3) (aB 5) (tU S n ks V (some (.v (.int r))) (some (.v (.int m)))) = .ok (.int (V m:Nat)):=aU rfl rfl (yO (uR (fun r=>D.int (V r:Nat)) hm))
 have t:=aY (bH gr (show aC (aB 5) aW (tU S n ks V (some (.v (.int r))) (some (.v (.int m)))) = .ok [.int m] from rfl)) (aA1 (V r) m)
 by_cases hb:(V r).testBit m=true
 ·rw [hb] at t
  obtain ⟨p1,p2⟩:=aSl (V:=V) (x:=V r ||| V m) hr
  refine aB3 t ((aFn (aU gr gm (aLe _ _)) rfl rfl rfl (by rw [List.length_map];omega)).trans ?_)
  rw [p1,p2]
  unfold gD
  rw [if_pos hb]
  rfl
 ·rw [Bool.eq_false_iff.mpr hb] at t
  refine qK t ?_
  have:(fun k=>if k=r then gD V m r else V k)=V:=funext fun k=>by
   by_cases e:k=r
   ·rw [if_pos e,e];unfold gD;rw [if_neg hb]
   ·rw [if_neg e]
  rw [this]
  rfl
theorem aEf{ks:List Nat}{V:Nat->Nat}{m:Nat}(hl:ks.length < 1000)(hm:m∈ks):∀ (rs:List Nat) (W:Nat->Nat) (x4:Option Sl),(∀ r∈rs,r∈ks)->W m=V m->(∀ r∈rs,W r=V r\/W r=gD V m r)->∃ W' x4',forR (tgN 4) lB (nats rs) (tU S n ks W x4 (some (.v (.int m)))) = .ok (.nx (tU S n ks W' x4' (some (.v (.int m)))))/\∀ r,W' r=if r∈rs then gD V m r else W r
 | [],W,x4,_,_,_=>⟨W,x4,rfl,fun r=>by rw [if_neg (by simp)]⟩
 | r :: rs,W,x4,hs,hw,hv=>by
  have ho:gD W m r=gD V m r:=by
   rcases hv r List.mem_cons_self with h | h
   ·unfold gD;rw [h,hw]
   ·unfold gD at h ⊢
    rw [h,hw]
    by_cases hb:(V r).testBit m=true
    ·rw [if_pos hb]
     by_cases hb2:(V r ||| V m).testBit m=true
     ·rw [if_pos hb2,Nat.or_assoc,Nat.or_self]
     ·rw [if_neg hb2]
    ·rw [if_neg hb,if_neg hb]
  have hom:gD V m m=V m:=by
   unfold gD
   split
   ·exact Nat.or_self _
   ·rfl
  obtain ⟨W',x4',e,h⟩:=aEf hl hm rs (fun k=>if k=r then gD W m r else W k) (some (.v (.int r))) (fun x hx=>hs x (List.mem_cons_of_mem _ hx)) (by
   show (if m=r then gD W m r else W m)=V m
   by_cases e:m=r
   ·rw [if_pos e,ho,<-e,hom]
   ·rw [if_neg e,hw]) (fun x hx=>by
   show (if x=r then gD W m r else W x)=V x\/(if x=r then gD W m r else W x)=gD V m x
   by_cases e:x=r
   ·rw [if_pos e,ho,e];exact .inr rfl
   ·rw [if_neg e];exact hv x (List.mem_cons_of_mem _ hx))
  refine ⟨W',x4',qL rfl (aN4 hl (hs r List.mem_cons_self) hm) e,fun x=>?_⟩
  rw [h x]
  by_cases hx:x∈rs
  ·rw [if_pos hx,if_pos (List.mem_cons_of_mem _ hx)]
  ·rw [if_neg hx]
   by_cases e:x=r
   ·rw [if_pos e,if_pos (by rw [e];exact List.mem_cons_self),ho,e]
   ·rw [if_neg e,if_neg (by simp [e,hx])]
theorem aCf{ks:List Nat}{V W:Nat->Nat}{x4 x5:Option Sl}(h:∀ k∈ks,V k=W k):tU S n ks V x4 x5=tU S n ks W x4 x5:=by
 unfold tU
 rw [List.map_congr_left fun k hk=>congrArg (fun x:Nat=>D.int (x:Int)) (h k hk)]
theorem aEg(hl:(aM n).length < 1000):∀ (ms:List Nat) (V:Nat->Nat) (x4 x5:Option Sl),(∀ m∈ms,m∈aM n)->∃ x4' x5',forR (tgN 5) uF (nats ms) (tU S n (aM n) V x4 x5) = .ok (.nx (tU S n (aM n) (ms.foldl gD V) x4' x5'))
 | [],V,x4,x5,_=>⟨x4,x5,rfl⟩
 | m :: ms,V,x4,x5,hs=>by
  obtain ⟨W,y4,e,h⟩:=aEf (S:=S) (n:=n) (V:=V) hl (hs m List.mem_cons_self) (aM n) V x4 (fun r hr=>hr) rfl fun r _ => .inl rfl
  obtain ⟨z4,z5,e'⟩:=aEg hl ms (gD V m) y4 (some (.v (.int m))) fun x hx=>hs x (List.mem_cons_of_mem _ hx)
  refine ⟨z4,z5,qL rfl (iH (L:=lB) rfl e) ?_⟩
  rw [aCf (W:=gD V m) fun k hk=>by rw [h k,if_pos hk]]
  exact e'
theorem aHe(M:Mch S rk c)(hn:n < 2 ^ S.length):gF [.lst (stD S),.int n] = .ok (.dct false (nats (aM n)) ((aM n).map fun r=>D.int (dB S c n r:Nat))):=by
 have n8:=M.most
 have hro:=nC hn (by omega)
 have hlen:(aM n).length<=S.length:=fU S.length _ (cW _) fun x hx=>cF hn hx
 obtain ⟨x4,e1⟩:=aEe (n:=n) M (aM n) [] none (cW n) fun r hr=>cF hn hr
 obtain ⟨y4,y5,e2⟩:=aEg (S:=S) (n:=n) (by omega) (aM n) (nR S n) x4 none fun m hm=>hm
 refine cN rfl (aZ (st':=[some (.v (.lst (stD S))),some (.v (.int n)),some (.v (.lst (nats (aM n)))),none,none,none]) (cM (aY rfl hro)) (aZ (st':=tU S n [] (nR S n) none none) rfl (aZ (iH rfl e1) (aZ (iH rfl e2) ?_))))
 rw [aCf fun k hk=>aPm M hn hk]
 rfl
end
end Pu
namespace Pu
noncomputable def eN(S:List (List Nat))(c n r:Nat):Nat:=cV ((aM (dB S c n r)).filter fun g=>(dB S c n g).testBit r)
def roundN(S:List (List Nat))(m:Nat):Bool:=decide (1 < (aM m).length)||decide ((aM m).headD 0∈S.getD ((aM m).headD 0) [])
noncomputable def gP(S:List (List Nat))(c n:Nat):List Nat:=(aM n).foldl (fun ps r=>if eN S c n r ∉ ps/\roundN S (eN S c n r)=true then ps++[eN S c n r] else ps) []
section
variable{S:List (List Nat)}{rk:List Nat}{c n:Nat}
theorem aLf:eN S c n r < 2 ^ S.length:=aBb fun g hg=>cF nD (List.mem_filter.mp hg).1
theorem aPn(M:Mch S rk c){m:Nat}(hm:m < 2 ^ S.length)(h0:m≠0):nZ [.lst (stD S),.int m] = .ok (.bl (roundN S m)):=by
 have n8:=M.most
 have hro:=nC hm (by omega)
 obtain ⟨r,T,eT⟩:∃ r T,aM m=r :: T:=by
  cases h:aM m with
  | nil =>
   refine absurd ?_ h0
   have:=fV m
   rw [h] at this
   exact this.symm
  | cons r T=>exact ⟨r,T,rfl⟩
 rw [eT] at hro
 have hr:r < S.length:=cF hm (by rw [eT];exact List.mem_cons_self)
 refine cN rfl (aZ (st':=[some (.v (.lst (stD S))),some (.v (.int m)),some (.v (.lst (nats (r :: T))))]) (cM (aY rfl hro)) (fQ ?_))
 have ln:e1 dR (aB 2) [some (.v (.lst (stD S))),some (.v (.int m)),some (.v (.lst (nats (r :: T))))] = .ok (.int ((T.length+1:Nat):Int)):=by
  show R.ok (D.int (((nats (r :: T)).length:Nat):Int))=_
  rw [bQ]
  rfl
 have v0:e2 dIx (aB 2) (eC (.int 0)) [some (.v (.lst (stD S))),some (.v (.int m)),some (.v (.lst (nats (r :: T))))] = .ok (.int r):=aU rfl rfl (jE (atI_nat (i:=0) (by rw [bQ];exact Nat.succ_pos _)))
 have hg:S.getD r []=S[r]:=by rw [List.getD_eq_getElem?_getD,List.getElem?_eq_getElem hr];rfl
 have t:=aGz (aU ln (rfl:eC (.int 1) _=_) (rfl:dGt _ _=_)) fun _=>aU v0 (aU (rfl:aB 0 _ = .ok (.lst (stD S))) v0 (jE (wY hr))) (aX7 r S[r])
 refine pM t ?_
 unfold roundN
 rw [eT]
 show (decide ((1:Int) < ((T.length+1:Nat):Int))||decide (r∈S[r]))=(decide (1 < T.length+1)||decide (r∈S.getD r []))
 rw [hg]
 congr 1
 exact decide_eq_decide.mpr (by omega)
noncomputable def pst(S:List (List Nat))(c n:Nat)(ps:List Nat)(x4 x5:Option Sl):PSt:=[some (.v (.lst (stD S))),some (.v (.int n)),some (.v (.dct false (nats (aM n)) ((aM n).map fun r=>D.int (dB S c n r:Nat)))),some (.o .l (nats ps)),x4,x5,none]
theorem aJg(M:Mch S rk c)(hn:n < 2 ^ S.length){r:Nat}(hr:r∈aM n)(ps:List Nat)(hps:ps.length<=1000)(x5:Option Sl):∃ x5',nM (pst S c n ps (some (.v (.int r))) x5) = .ok (.nx (pst S c n (if eN S c n r ∉ ps/\roundN S (eN S c n r)=true then ps++[eN S c n r] else ps) (some (.v (.int r))) x5')):=by
 have n8:=M.most
 have hrl:=cF hn hr
 have hrb:=bF.mp hr
 have hro:=nC (nD (S:=S) (c:=c) (n:=n) (r:=r)) (by omega)
 have hin:∀ g∈aM (dB S c n r),g∈aM n:=fun g hg=>bF.mpr (aFm (al:=fun g=>n.testBit g) hrb ((lX M hrl g).mp (bF.mp hg)))
 have gk:∀ {g:Nat},g∈aM n->pA (nats (aM n)) ((aM n).map fun r=>D.int (dB S c n r:Nat)) (.int g)=some (.int (dB S c n g:Nat)):=fun {g} h=>uR (fun r=>D.int (dB S c n r:Nat)) h
 have hlen:(aM (dB S c n r)).length<=S.length:=fU S.length _ (cW _) fun x hx=>cF nD hx
 have ce:=qZ (tg:=tgN 6) (C:=sY) (E:=sX) (st:=pst S c n ps (some (.v (.int r))) x5) (q:=fun g=>(dB S c n g).testBit r) (G:=fun g => .int g) (aM (dB S c n r)) (fun g hg=>⟨_,rfl,aY (bH (aU rfl rfl (yO (gk (hin g hg)))) rfl) (aA1 (dB S c n g) r),rfl⟩)
 have hi:itE (aX bV (aC (e2 dIx (aB 2) (aB 4)) aW)) (pst S c n ps (some (.v (.int r))) x5) = .ok (nats (aM (dB S c n r))):=aAj (aY (bH (aU rfl rfl (yO (gk hr))) rfl) hro)
 have hcomp:=vA (is:=[6]) hi (by rw [bQ];omega) ce
 have hbi:fD [.lst (nats ((aM (dB S c n r)).filter fun g=>(dB S c n g).testBit r))] = .ok (.int (eN S c n r)):=aBa (fun g hg=>by have:=cF nD (List.mem_filter.mp hg).1;omega) (by have:=List.length_filter_le (fun g=>(dB S c n g).testBit r) (aM (dB S c n r));omega)
 have hne:eN S c n r≠0:=fun z=>by
  have:(eN S c n r).testBit r=true:=by
   unfold eN
   rw [jH,decide_eq_true_eq,List.mem_filter]
   have h0:(dB S c n r).testBit r=true:=(lX M hrl r).mpr .here
   exact ⟨bF.mpr h0,h0⟩
  rw [z,Nat.zero_testBit] at this
  cases this
 have hgo:=aPn M (aLf (S:=S) (c:=c) (n:=n) (r:=r)) hne
 obtain ⟨p1,p2,_⟩:=eY ps
 refine ⟨some (.v (.int (eN S c n r))),aZ (st':=pst S c n ps (some (.v (.int r))) (some (.v (.int (eN S c n r))))) (cM (aY (bH hcomp rfl) hbi)) ?_⟩
 have t:=wX (st:=pst S c n ps (some (.v (.int r))) (some (.v (.int (eN S c n r))))) (aU (f:=aB 5) (g:=cZ 3) rfl rfl (show jF (.int (eN S c n r)) (.lst (nats ps)) = .ok (.bl (!decide (eN S c n r∈ps))) by rw [<-vB];exact aG ⟨by rw [p2];exact Nat.zero_le 60,rfl,p1⟩)) fun _=>aY (r:=aC (aB 0) (aC (aB 5) aW)) rfl hgo
 by_cases h:eN S c n r ∉ ps/\roundN S (eN S c n r)=true
 ·rw [if_pos h]
  refine aB3 (pM t (by rw [decide_eq_false h.1,h.2];rfl)) ?_
  rw [aC3 (xs:=nats ps) (d := .int (eN S c n r)) rfl rfl (by rw [bQ];omega),<-aCe]
  rfl
 ·rw [if_neg h]
  refine qK (pM t ?_) rfl
  cases h1:roundN S (eN S c n r) with
  | false=>rw [Bool.and_false]
  | true=>rw [decide_eq_true (Classical.byContradiction fun z=>h ⟨z,h1⟩)];rfl
theorem aCg(M:Mch S rk c)(hn:n < 2 ^ S.length):∀ (rs:List Nat) (ps:List Nat) (x4 x5:Option Sl),(∀ r∈rs,r∈aM n)->ps.length+rs.length<=1000->∃ x4' x5',forR (tgN 4) nM (nats rs) (pst S c n ps x4 x5) = .ok (.nx (pst S c n (rs.foldl (fun ps r=>if eN S c n r ∉ ps/\roundN S (eN S c n r)=true then ps++[eN S c n r] else ps) ps) x4' x5'))
 | [],ps,x4,x5,_,_=>⟨x4,x5,rfl⟩
 | r :: rs,ps,x4,x5,h,hl=>by
  rw [List.length_cons] at hl
  obtain ⟨x5',e1⟩:=aJg M hn (h r List.mem_cons_self) ps (by omega) x5
  obtain ⟨y4,y5,e2⟩:=aCg M hn rs (if eN S c n r ∉ ps/\roundN S (eN S c n r)=true then ps++[eN S c n r] else ps) (some (.v (.int r))) x5' (fun r hr=>h r (List.mem_cons_of_mem _ hr)) (by
   split
   ·rw [List.length_append,List.length_singleton];omega
   ·omega)
  exact ⟨y4,y5,qL rfl e1 e2⟩
theorem aHf(M:Mch S rk c)(hn:n < 2 ^ S.length):mL [.lst (stD S),.int n] = .ok (.lst (nats (gP S c n))):=by
 have n8:=M.most
 have hro:=nC hn (by omega)
 have hlen:(aM n).length<=S.length:=fU S.length _ (cW _) fun x hx=>cF hn hx
 obtain ⟨y4,y5,e⟩:=aCg M hn (aM n) [] none none (fun _ h=>h) (by simp;omega)
 exact cN rfl (aZ (cM (aY rfl (aHe M hn))) (aZ (st':=pst S c n [] none none) (uZ (sE rfl)) (aZ (iH (aAj (aY rfl hro)) e) rfl)))
theorem aCh(M:Mch S rk c)(hn:n < 2 ^ S.length):dY [mD S rk c,.int n] = .ok (.lst (nats (gP S c n))) :=
 cN rfl (fQ (aY (bH (show jM "Machine" "steps" (mD S rk c)=_ from qY) rfl) (aHf M hn)))
end
end Pu
namespace Pu
section
variable{S:List (List Nat)}{rk:List Nat}{c n:Nat}
theorem aJh:jM "Machine" "ranks" (mD S rk c) = .ok (.lst (nats rk)):=by unfold mD;rw [uC,aG rfl];rfl
theorem aBc:∀ (l m:List Nat),eU (nats l) (nats m)=decide (l=m)
 | [],[]=>by simp [nats,eU]
 | [],y :: m=>by simp [nats,eU]
 | x :: l,[]=>by simp [nats,eU]
 | x :: l,y :: m=>by
  rw [aA0,aA0]
  unfold eU
  rw [aBc l m]
  by_cases h:x=y
  ·subst h
   simp [eqD]
  ·have:¬ (x:Int)=(y:Int):=by omega
   simp [eqD,h,this]
theorem Rch.mono{al al':Nat->Bool}(m:∀ g,al g=true->al' g=true){a b:Nat}(h:Rch S c al a b):Rch S c al' a b:=by
 induction h with
 | here=>exact .here
 | on _ hl ha ih=>exact .on ih hl (m _ ha)
def inN(n:Nat):Nat->Bool:=fun g=>n.testBit g
def Mut(S:List (List Nat))(c n a b:Nat):Prop:=Rch S c (inN n) a b/\Rch S c (inN n) b a
theorem oF(M:Mch S rk c){r g:Nat}(hr:r < S.length):(eN S c n r).testBit g=true ↔ Mut S c n r g:=by
 unfold eN
 rw [jH,decide_eq_true_eq,List.mem_filter,bF,lX M hr]
 constructor
 ·rintro ⟨h1,h2⟩
  exact ⟨h1,(lX M (aFl M hr h1) r).mp h2⟩
 ·rintro ⟨h1,h2⟩
  exact ⟨h1,(lX M (aFl M hr h1) r).mpr h2⟩
theorem Mut.symm{a b:Nat}(h:Mut S c n a b):Mut S c n b a:=⟨h.2,h.1⟩
theorem Mut.trans{a b d:Nat}(h1:Mut S c n a b)(h2:Mut S c n b d):Mut S c n a d:=⟨Rch.trans h1.1 h2.1,Rch.trans h2.2 h1.2⟩
theorem aHg(M:Mch S rk c){r g:Nat}(hr:r < S.length)(h:Mut S c n r g):eN S c n g=eN S c n r:=Nat.eq_of_testBit_eq fun x=>by
 have hg:=aFl M hr h.1
 have e:(eN S c n g).testBit x=true ↔ (eN S c n r).testBit x=true:=by
  rw [oF M hg,oF M hr]
  exact ⟨fun z=>h.trans z,fun z=>h.symm.trans z⟩
 cases h1:(eN S c n g).testBit x with
 | true=>exact (e.mp h1).symm
 | false =>
  cases h2:(eN S c n r).testBit x with
  | true=>rw [e.mpr h2] at h1;cases h1
  | false=>rfl
def LpN(S:List (List Nat))(c n:Nat):Prop:=n≠0/\(∀ a∈aM n,∀ b∈aM n,Rch S c (inN n) a b)/\roundN S n=true
theorem aHh(f:Nat->Nat)(q:Nat->Bool):∀ (rs ps:List Nat) (m:Nat),m∈rs.foldl (fun ps r=>if f r ∉ ps/\q (f r)=true then ps++[f r] else ps) ps ↔ m∈ps\/∃ r∈rs,f r=m/\q m=true
 | [],ps,m=>by simp
 | r :: rs,ps,m=>by
  rw [List.foldl_cons,aHh f q rs]
  by_cases h:f r ∉ ps/\q (f r)=true
  ·rw [if_pos h]
   constructor
   ·rintro (h1 | ⟨r',h1,h2⟩)
    ·rcases List.mem_append.mp h1 with h1 | h1
     ·exact .inl h1
     ·rw [List.mem_singleton] at h1
      exact .inr ⟨r,List.mem_cons_self,h1.symm,by rw [h1];exact h.2⟩
    ·exact .inr ⟨r',List.mem_cons_of_mem _ h1,h2⟩
   ·rintro (h1 | ⟨r',h1,h2,h3⟩)
    ·exact .inl (List.mem_append_left _ h1)
    ·rcases List.mem_cons.mp h1 with rfl | h1
     ·exact .inl (List.mem_append_right _ (by rw [h2];simp))
     ·exact .inr ⟨r',h1,h2,h3⟩
  ·rw [if_neg h]
   constructor
   ·rintro (h1 | ⟨r',h1,h2⟩)
    ·exact .inl h1
    ·exact .inr ⟨r',List.mem_cons_of_mem _ h1,h2⟩
   ·rintro (h1 | ⟨r',h1,h2,h3⟩)
    ·exact .inl h1
    ·rcases List.mem_cons.mp h1 with rfl | h1
     ·refine .inl (Classical.byContradiction fun z=>h ⟨by rw [h2];exact z,by rw [h2];exact h3⟩)
     ·exact .inr ⟨r',h1,h2,h3⟩
theorem vD{m:Nat}:m∈gP S c n ↔ ∃ r∈aM n,eN S c n r=m/\roundN S m=true:=by
 unfold gP
 rw [aHh (fun r=>eN S c n r) (roundN S)]
 simp
theorem aHi(f:Nat->Nat)(q:Nat->Bool)(m:Nat):∀ (rs:List Nat),(∀ r∈rs,f r=m)->rs.foldl (fun ps r=>if f r ∉ ps/\q (f r)=true then ps++[f r] else ps) [m]=[m]
 | [],_=>rfl
 | r :: rs,h=>by
  rw [List.foldl_cons,if_neg fun z=>z.1 (by rw [h r List.mem_cons_self];simp)]
  exact aHi f q m rs fun r hr=>h r (List.mem_cons_of_mem _ hr)
theorem aPo(M:Mch S rk c){r:Nat}(hn:n < 2 ^ S.length)(hr:r∈aM n):r∈aM (eN S c n r):=bF.mpr ((oF M (cF hn hr)).mpr ⟨.here,.here⟩)
theorem aEh(M:Mch S rk c)(hn:n < 2 ^ S.length):gP S c n=[n] ↔ LpN S c n:=by
 constructor
 ·intro h
  have hm:n∈gP S c n:=by rw [h];simp
  obtain ⟨r,hr,e,hq⟩:=vD.mp hm
  have hrl:=cF hn hr
  refine ⟨(fun z=>by rw [z] at hr;rw [bF,Nat.zero_testBit] at hr;cases hr),fun a ha b hb=>?_,hq⟩
  have ha':=(oF (n:=n) M hrl).mp (by rw [e];exact bF.mp ha)
  have hb':=(oF (n:=n) M hrl).mp (by rw [e];exact bF.mp hb)
  exact Rch.trans ha'.2 hb'.1
 ·rintro ⟨h0,hs,hq⟩
  have all:∀ r∈aM n,eN S c n r=n:=fun r hr=>Nat.eq_of_testBit_eq fun g=>by
   have e:(eN S c n r).testBit g=true ↔ n.testBit g=true:=by
    rw [oF M (cF hn hr)]
    constructor
    ·exact fun z=>aFm (al:=inN n) (bF.mp hr) z.1
    ·exact fun z=>⟨hs r hr g (bF.mpr z),hs g (bF.mpr z) r hr⟩
   cases h1:(eN S c n r).testBit g with
   | true=>exact (e.mp h1).symm
   | false =>
    cases h2:n.testBit g with
    | true=>rw [e.mpr h2] at h1;cases h1
    | false=>rfl
  unfold gP
  cases h:aM n with
  | nil =>
   refine absurd ?_ h0
   have:=fV n
   rw [h] at this
   exact this.symm
  | cons r T =>
   rw [h] at all
   have er:=all r List.mem_cons_self
   rw [List.foldl_cons,if_pos ⟨by simp,by rw [er];exact hq⟩,er,List.nil_append]
   exact aHi (fun r=>eN S c n r) (roundN S) n T fun r hr=>all r (List.mem_cons_of_mem _ hr)
theorem aSm(M:Mch S rk c){m r:Nat}(hn:n < 2 ^ S.length)(hm:LpN S c m)(hs:∀ g∈aM m,g∈aM n)(hr:r∈aM m):∀ g∈aM m,g∈aM (eN S c n r):=fun g hg=>by
 have up:∀ {a b:Nat},Rch S c (inN m) a b->Rch S c (inN n) a b:=fun h=>Rch.mono (fun g hg=>bF.mp (hs g (bF.mpr hg))) h
 exact bF.mpr ((oF M (cF hn (hs r hr))).mpr ⟨up (hm.2.1 r hr g hg),up (hm.2.1 g hg r hr)⟩)
end
end Pu
namespace Pu
section
variable{S:List (List Nat)}{rk:List Nat}{c n:Nat}
def aSn(rk:List Nat)(n:Nat):Int:=aDh ((aM n).map fun r=>(rk.getD r 0:Int))
theorem aX9(M:Mch S rk c)(hn:n < 2 ^ S.length)(h0:n≠0):rQ [mD S rk c,.int n] = .ok (.int (aSn rk n)):=by
 have n8:=M.most
 have hro:=nC hn (by omega)
 have hlen:(aM n).length<=S.length:=fU S.length _ (cW _) fun x hx=>cF hn hx
 have hpos:0 < (aM n).length:=by
  cases h:aM n with
  | nil =>
   refine absurd ?_ h0
   have:=fV n
   rw [h] at this
   exact this.symm
  | cons r T=>simp
 have ce:=oH (tg:=tgN 2) (c:=fH) (f:=oA) (st:=[some (.v (mD S rk c)),some (.v (.int n)),none]) (fun d=>match d with | .int i => .int (rk.getD i.toNat 0:Nat) | d=>d) (nats (aM n)) fun d hd=>by
  obtain ⟨r,hr,rfl⟩:=qX hd
  have hr':r < rk.length:=by rw [M.rks];exact cF hn hr
  have ea:atI (nats rk) (r:Int)=some (.int (rk.getD r 0:Nat)):=by
   rw [atI_nat (by rw [bQ];exact hr')]
   simp [nats,List.getD_eq_getElem?_getD,List.getElem?_eq_getElem hr']
  refine ⟨_,rfl,rfl,?_⟩
  simp [oA,aJh,ea]
 have em:(nats (aM n)).map (fun d=>match d with | .int i=>D.int (rk.getD i.toNat 0:Nat) | d=>d)=((aM n).map fun r=>(rk.getD r 0:Int)).map D.int:=by
  unfold nats
  simp [Function.comp_def]
 rw [em] at ce
 have hc:dU [2] (tgN 2) (itE (aX bV (aC (aB 1) aW))) fH oA [some (.v (mD S rk c)),some (.v (.int n)),none] = .ok (.lst (((aM n).map fun r=>(rk.getD r 0:Int)).map D.int)):=by
  have hi:itE (aX bV (aC (aB 1) aW)) [some (.v (mD S rk c)),some (.v (.int n)),none] = .ok (nats (aM n)):=by simp [hro]
  rw [xW,hi]
  simp only [aN,bQ]
  rw [aG (aQ (by omega)),show clr [2] [some (Sl.v (mD S rk c)),some (.v (.int n)),none]=[some (.v (mD S rk c)),some (.v (.int n)),none] from rfl,ce]
  rfl
 refine cN rfl ?_
 unfold wR
 have h0':¬ (n:Int)=0:=by omega
 refine fJ (by simp [h0',h0]) ?_
 show sNX _ [some (.v (mD S rk c)),some (.v (.int n)),none]=_
 rw [aWt,pI,aZs,hc]
 have hm:xY (.lst (((aM n).map fun r=>(rk.getD r 0:Int)).map D.int)) = .ok (.int (aSn rk n)):=by
  show (vQ _).bind _=_
  rw [qP,aN,aG (by rw [List.length_map];exact hpos)]
  rfl
 rw [aN,hm]
 rfl
end
end Pu
namespace Pu
section
variable{S:List (List Nat)}{rk:List Nat}{c n:Nat}
theorem aCi(M:Mch S rk c)(hn:n < 2 ^ S.length):lQ [mD S rk c,.int n] = .ok (.bl (decide (gP S c n=[n]))):=by
 have e:=aCh M hn
 obtain ⟨p1,p2,_⟩:=eY (gP S c n)
 have h:=aBc (gP S c n) [n]
 refine cN rfl ?_
 unfold zX
 have e1:[D.int (n:Int)]=nats [n]:=rfl
 simp [e,p1,p2]
 rw [e1,h]
end
end Pu
namespace Pu
section
variable{S:List (List Nat)}{rk:List Nat}{c n:Nat}
theorem aLg(M:Mch S rk c)(hn:n < 2 ^ S.length)(h0:n≠0):oG [mD S rk c,.int n] = .ok (.bl (decide (aSn rk n % 2=0))):=by
 have e:=aX9 M hn h0
 refine cN rfl ?_
 unfold zY
 by_cases h:aSn rk n % 2=0
 ·simp [e2X,e,h]
 ·simp [e2X,e,h]
end
end Pu
namespace Pu
def cvL(ns:List Int)(k:Nat):Int:=if k < ns.length then ns.getD k 0 else if ns.length=0 then 7919 * (k:Int) else ns.getD (k % ns.length) 0 / ((k:Int)+1)+7919 * (k:Int)
theorem aLh{ns:List Int}{k:Nat}(h:k < ns.length):atI (ns.map D.int) (k:Int)=some (.int (ns.getD k 0)):=by
 rw [atI_nat (by simpa using h)]
 simp [List.getD_eq_getElem?_getD,List.getElem?_eq_getElem h]
theorem aCj:∀ ns:List Int,dC (ns.map D.int)=true/\dX (ns.map D.int)=0
 | []=>⟨rfl,by simp⟩
 | x :: ns=>by
  obtain ⟨h1,h2⟩:=aCj ns
  rw [List.map_cons]
  exact ⟨by simp [h1],by simp [h2]⟩
theorem aPp(ns:List Int):eU (ns.map D.int) []=decide (ns.length=0):=by
 cases ns<;>simp [eU]
theorem aPq(ns:List Int)(k:Nat)(hk:k<=100000):gC [.lst (ns.map D.int),.int k] = .ok (.int (cvL ns k)):=by
 have ln:e1 dR (aB 0) [some (.v (.lst (ns.map D.int))),some (.v (.int k))] = .ok (.int (ns.length:Nat)):=by
  show R.ok (D.int (((ns.map D.int).length:Nat):Int))=_
  rw [List.length_map]
 have m7:∀ i:Int,mW (.int 7919) (.int i) = .ok (.int (7919 * i)):=fun i=>aG (.inl (by decide))
 refine cN rfl ?_
 unfold cvL
 by_cases h:k < ns.length
 ·rw [if_pos h]
  exact aC1 (aB3 (aU rfl ln (by show R.ok (D.bl (decide ((k:Int) < (ns.length:Nat))))=_;rw [aWx h])) (fQ (aU rfl rfl (jE (aLh h)))))
 ·rw [if_neg h]
  obtain ⟨p1,p2⟩:=aCj ns
  have t2:e2 dEq (aB 0) (pY (aW)) [some (.v (.lst (ns.map D.int))),some (.v (.int k))] = .ok (.bl (decide (ns.length=0))):=aU rfl (sE rfl) (by
   rw [<-aPp]
   exact aG ⟨by show dX (ns.map D.int)+1<=64;rw [p2];decide,p1,rfl⟩)
  refine aZ (qK (aU rfl ln (by show R.ok (D.bl (decide ((k:Int) < (ns.length:Nat))))=_;rw [aWy h])) rfl) ?_
  by_cases h0:ns.length=0
  ·rw [if_pos h0]
   exact aC1 (aB3 (pM t2 (decide_eq_true h0)) (fQ (aU rfl rfl (m7 _))))
  ·rw [if_neg h0]
   have hm:k % ns.length < ns.length:=Nat.mod_lt _ (Nat.pos_of_ne_zero h0)
   have ec:((k % ns.length:Nat):Int)=(k:Int) % (ns.length:Nat):=by push_cast;rfl
   have e:=aLh hm
   rw [ec] at e
   exact aZ (qK (pM t2 (decide_eq_false h0)) rfl) (fQ (aU (aU (aU rfl (aU rfl ln (uN (by omega))) (jE e)) (aU rfl rfl rfl) (aB6 ⟨by omega,by omega⟩)) (aU rfl rfl (m7 _)) rfl))
theorem aA2(ns:List Int)(i:Int)(h:0<=i)(hi:i<=100000):gC [.lst (ns.map D.int),.int i] = .ok (.int (cvL ns i.toNat)):=by
 have:=aPq ns i.toNat (by omega)
 rwa [Int.toNat_of_nonneg h] at this
def pC(c k m:Int):Int :=
 let a:=(c % 2147483647+7919 * k) * 48271 % 2147483629
 let b:=a * a % 2147483647 * 69621 % 2147483587
 b * b % 2147483629 % m
theorem lF(c k:Int){m:Int}(h:0 < m):0<=pC c k m/\pC c k m < m:=⟨Int.emod_nonneg _ (by omega),Int.emod_lt_of_pos _ h⟩
theorem gY(c k m:Int)(h:0 < m):bT [.int c,.int k,.int m] = .ok (.int (pC c k m)):=by
 unfold bT wN pC
 have a0:∀ x:Int,0<=x % 2147483629:=fun x=>Int.emod_nonneg _ (by decide)
 have a1:∀ x:Int,x % 2147483629 < 2147483629:=fun x=>Int.emod_lt_of_pos _ (by decide)
 have b0:∀ x:Int,0<=x % 2147483587:=fun x=>Int.emod_nonneg _ (by decide)
 have b1:∀ x:Int,x % 2147483587 < 2147483587:=fun x=>Int.emod_lt_of_pos _ (by decide)
 generalize hA:(c % 2147483647+7919 * k) * 48271 % 2147483629=a
 have h1:=a0 ((c % 2147483647+7919 * k) * 48271)
 have h2:=a1 ((c % 2147483647+7919 * k) * 48271)
 rw [hA] at h1 h2
 generalize hB:a * a % 2147483647 * 69621 % 2147483587=b
 have h3:=b0 (a * a % 2147483647 * 69621)
 have h4:=b1 (a * a % 2147483647 * 69621)
 rw [hB] at h3 h4
 have g1 : -18446744073709551616 < a:=by omega
 have g2:a < 18446744073709551616:=by omega
 have g3 : -18446744073709551616 < b:=by omega
 have g4:b < 18446744073709551616:=by omega
 simp [hA,g1,g2,hB,g3,g4,h]
end Pu
namespace Pu
section
variable{ns:List Int}{cl f:Int}{n c:Nat}
def mst(ns:List Int)(mo cl f:Int)(n c:Nat)(S rk:List D)(x9 x10 x11 x12:Option Sl):PSt :=
 [some (.v (.lst (ns.map D.int))),some (.v (.int 0)),some (.v (.int mo)),some (.v (.int cl)),some (.v (.int n)),some (.v (.int c)),some (.v (.int f)),some (.o .l S),some (.o .l rk),x9,x10,x11,x12,none]
theorem aPr(r:List Nat)(k v:Nat):(nats r).set k (.int (v:Int))=nats (r.set k v):=by
 unfold nats
 rw [List.map_set]
theorem aSo(S:List (List Nat))(r:List Nat):stD (S++[r])=stD S++[.lst (nats r)]:=by unfold stD;simp
theorem aN5(rk:List Nat){v:Int}(h:0<=v):nats (rk++[v.toNat])=nats rk++[.int v]:=by
 unfold nats
 rw [List.map_append,List.map_singleton,Int.toNat_of_nonneg h]
theorem aSp{v f:Int}(h0:0<=v)(h7:v < 7):mW (.int v) (.int f) = .ok (.int (v * f)):=aG (.inl ⟨by omega,by omega⟩)
theorem aXa{i:Nat}{g e:Ex}{st:PSt}{d:D}{j:Int}{xs:List D}(he:e st = .ok d)(hg:g st = .ok (.int j))(hs:st[i]?=some (some (.o .l xs)))(h0:0<=j)(h1:j < xs.length):aOs i g e st = .ok (.nx (st.set i (some (.o .l (xs.set j.toNat d))))):=by
 have:ixN xs.length j=some j.toNat:=by
  unfold ixN
  rw [if_pos h0,if_pos h1]
 rw [aS4,he,aN,hg,aN,hs]
 show R.bind (ofO (ixN xs.length j)) _=_
 rw [this]
 rfl
theorem aJi(mo:Int)(hf:0<=f)(hn:1<=n/\n<=8)(hc:1<=c/\c<=3)(S:List (List Nat))(rk:List Nat)(hS:S.length<=1000)(hrk:rk.length<=1000)(x:Nat)(hx:x < n)(x10 x11 x12:Option Sl) :
  ∃ r v y10 y11 y12,iM (mst ns mo cl f n c (stD S) (nats rk) (some (.v (.int x))) x10 x11 x12) = .ok (.nx (mst ns mo cl f n c (stD (S++[r])) (nats (rk++[v])) (some (.v (.int x))) y10 y11 y12))/\r.length=c/\∀ z∈r,z < n:=by
 have hcell:=aA2 ns (0+2+x) (by omega) (by omega)
 generalize cvL ns (0+2+(x:Int)).toNat=one at hcell
 have n0:(0:Int) < n:=by omega
 have c0:(0:Int) < c:=by omega
 obtain ⟨r0,e0,l0,b0⟩:=aE6 (E:=qQ) (st:=mst ns mo cl f n c (stD S) (nats rk) (some (.v (.int x))) (some (.v (.int one))) x11 x12) (j:=13) (v:=5) (n:=c) (m:=n) rfl (by omega) (fun k hk=>⟨pC one (11+k) n,aY rfl (gY _ _ _ n0),lF _ _ n0⟩)
 have m0:=gY one 10 7 (by decide)
 obtain ⟨m1,m2⟩:=lF one 10 (m:=7) (by decide)
 generalize pC one 10 7=rv at m0 m1 m2
 obtain ⟨r1,e1',l1,b1⟩:=aE6 (E:=iK) (st:=mst ns mo cl f n c (stD S) (nats rk) (some (.v (.int x))) (some (.v (.int one))) (some (.o .l (nats r0))) (some (.v (.int rv)))) (j:=13) (v:=5) (n:=c) (m:=n) rfl (by omega) (fun k hk=>by
  have go:∀ w:Int,0 < w/\w < 1073741824->atI [D.int 1,.int 8,.int 64] (k:Int)=some (.int w)->∃ i,iK (((mst ns mo cl f n c (stD S) (nats rk) (some (.v (.int x))) (some (.v (.int one))) (some (.o .l (nats r0))) (some (.v (.int rv)))).set 13 none).set 13 (some (.v (.int k)))) = .ok (.int i)/\0<=i/\i < n:=fun w hw ha=>by
   refine ⟨one / w % n,aU (aU rfl (aU (sE rfl) rfl (?_:_=R.ok (D.int w))) (aB6 hw)) rfl (uN n0),Int.emod_nonneg _ (by omega),Int.emod_lt_of_pos _ n0⟩
   show ofO (atI [D.int 1,.int 8,.int 64] (k:Int))=_
   rw [ha]
   rfl
  have h3:k=0\/k=1\/k=2:=by omega
  rcases h3 with rfl | rfl | rfl
  ·exact go 1 (by decide) rfl
  ·exact go 8 (by decide) rfl
  ·exact go 64 (by decide) rfl)
 have m6:=gY cl 6 2 (by decide)
 have m3:=gY cl 3 2 (by decide)
 have m8:=gY one 8 4 (by decide)
 have m9:=gY one 9 c c0
 obtain ⟨m91,m92⟩:=lF one 9 (m:=c) c0
 have up:∀ {r:List Nat} {v:Int} (b:Bd),0<=v->v < 7->r.length=c->(∀ z∈r,z < n)->b (mst ns mo cl f n c (stD S) (nats rk) (some (.v (.int x))) (some (.v (.int one))) (some (.o .l (nats r0))) (some (.v (.int rv)))) = .ok (.nx (mst ns mo cl f n c (stD S) (nats rk) (some (.v (.int x))) (some (.v (.int one))) (some (.o .l (nats r))) (some (.v (.int v))))) ->
   ∃ r v y10 y11 y12,(bU b (bU (sFz [11] (zR 7 (aB 11))) (zR 8 (e2 mW (aB 12) (aB 6))))) (mst ns mo cl f n c (stD S) (nats rk) (some (.v (.int x))) (some (.v (.int one))) (some (.o .l (nats r0))) (some (.v (.int rv)))) = .ok (.nx (mst ns mo cl f n c (stD (S++[r])) (nats (rk++[v])) (some (.v (.int x))) y10 y11 y12))/\r.length=c/\∀ z∈r,z < n:=fun {r v} b h0 h7 hl hr h=>by
  refine ⟨r,(v * f).toNat,some (.v (.int one)),some (.v (.lst (nats r))),some (.v (.int v)),aZ h ?_,hl,hr⟩
  rw [aSo,aN5 rk (Int.mul_nonneg h0 hf)]
  refine aZ (st':=mst ns mo cl f n c (stD S++[.lst (nats r)]) (nats rk) (some (.v (.int x))) (some (.v (.int one))) (some (.v (.lst (nats r)))) (some (.v (.int v)))) ?_ ?_
  ·exact aC3 (st:=mst ns mo cl f n c (stD S) (nats rk) (some (.v (.int x))) (some (.v (.int one))) (some (.v (.lst (nats r)))) (some (.v (.int v)))) rfl rfl (by rw [fM];omega)
  ·exact aC3 (aU rfl rfl (aSp h0 h7)) rfl (by rw [bQ];omega)
 have key:∃ r v y10 y11 y12,(bU (sIf (e2 dEq (aX bT (aC (aB 3) (aC (eC (.int 6)) (aC (eC (.int 2)) (aW))))) (eC (.int 0))) (bU (pG 11 (dU [13] (tgN 13) (tQ (aB 5)) fH (iK))) (eF 12 (e2 nY (e2 xV (aB 10) (eC (.int 512))) (eC (.int 7))))) (sIf (pB (e2 dEq (aX bT (aC (aB 3) (aC (eC (.int 3)) (aC (eC (.int 2)) (aW))))) (eC (.int 0))) (e2 dGt (aX bT (aC (aB 10) (aC (eC (.int 8)) (aC (eC (.int 4)) (aW))))) (eC (.int 0)))) (aOs 11 (aX bT (aC (aB 10) (aC (eC (.int 9)) (aC (aB 5) (aW))))) (e2 nY (e2 kZ (aB 9) (eC (.int 1))) (aB 4))) (dN))) (bU (sFz [11] (zR 7 (aB 11))) (zR 8 (e2 mW (aB 12) (aB 6))))) (mst ns mo cl f n c (stD S) (nats rk) (some (.v (.int x))) (some (.v (.int one))) (some (.o .l (nats r0))) (some (.v (.int rv)))) = .ok (.nx (mst ns mo cl f n c (stD (S++[r])) (nats (rk++[v])) (some (.v (.int x))) y10 y11 y12))/\r.length=c/\∀ z∈r,z < n:=by
  have t6:=aU (op:=dEq) (f:=aX bT (aC (aB 3) (aC (eC (.int 6)) (aC (eC (.int 2)) (aW))))) (g:=eC (.int 0)) (st:=mst ns mo cl f n c (stD S) (nats rk) (some (.v (.int x))) (some (.v (.int one))) (some (.o .l (nats r0))) (some (.v (.int rv)))) (aY rfl m6) rfl (uO _ _)
  by_cases h6:pC cl 6 2=0
  ·rw [decide_eq_true h6] at t6
   refine up (r:=r1) (v:=one / 512 % 7) _ (Int.emod_nonneg _ (by decide)) (Int.emod_lt_of_pos _ (by decide)) l1 (fun z hz=>by have:=b1 z hz;omega) (aB3 t6 ?_)
   exact aZ (st':=mst ns mo cl f n c (stD S) (nats rk) (some (.v (.int x))) (some (.v (.int one))) (some (.o .l (nats r1))) (some (.v (.int rv)))) (uZ e1') (cM (aU (aU rfl rfl (aB6 (by decide))) rfl (uN (by decide))))
  ·rw [decide_eq_false h6] at t6
   have t3:=wX (st:=mst ns mo cl f n c (stD S) (nats rk) (some (.v (.int x))) (some (.v (.int one))) (some (.o .l (nats r0))) (some (.v (.int rv)))) (aU (aY (r:=aC (aB 3) (aC (eC (.int 3)) (aC (eC (.int 2)) (aW)))) rfl m3) (rfl:eC (.int 0) _=_) (uO _ _)) (fun _=>aU (op:=dGt) (aY (r:=aC (aB 10) (aC (eC (.int 8)) (aC (eC (.int 4)) (aW)))) rfl m8) (rfl:eC (.int 0) _=_) rfl)
   cases h3:decide (pC cl 3 2=0)&&decide (0 < pC one 8 4) with
   | true =>
    rw [h3] at t3
    have hv:((x:Int)+1) % n=(((x+1) % n:Nat):Int):=by push_cast;rfl
    have hp:=aPr r0 (pC one 9 c).toNat ((x+1) % n)
    rw [<-hv] at hp
    refine up (r:=r0.set (pC one 9 c).toNat ((x+1) % n)) (v:=rv) _ m1 m2 (by rw [List.length_set];exact l0) (fun z hz=>by
     rcases List.mem_or_eq_of_mem_set hz with hz | rfl
     ·have:=b0 z hz;omega
     ·exact Nat.mod_lt _ (by omega)) (qK t6 (aB3 t3 ?_))
    rw [<-hp]
    exact aXa (aU (aU rfl rfl rfl) rfl (uN n0)) (aY rfl m9) rfl m91 (by rw [bQ,l0];exact m92)
   | false =>
    rw [h3] at t3
    exact up (r:=r0) (v:=rv) _ m1 m2 l0 (fun z hz=>by have:=b0 z hz;omega) (qK t6 (qK t3 rfl))
 obtain ⟨r,v,y10,y11,y12,hk,hl,hr⟩:=key
 refine ⟨r,v,y10,y11,y12,?_,hl,hr⟩
 exact aZ (st':=mst ns mo cl f n c (stD S) (nats rk) (some (.v (.int x))) (some (.v (.int one))) x11 x12) (cM (aY rfl hcell)) (aZ (st':=mst ns mo cl f n c (stD S) (nats rk) (some (.v (.int x))) (some (.v (.int one))) (some (.o .l (nats r0))) x12) (uZ e0) (aZ (st':=mst ns mo cl f n c (stD S) (nats rk) (some (.v (.int x))) (some (.v (.int one))) (some (.o .l (nats r0))) (some (.v (.int rv)))) (cM (aY rfl m0)) hk))
theorem aCk(mo:Int)(hf:0<=f)(hn:1<=n/\n<=8)(hc:1<=c/\c<=3):∀ (ks:List Nat) (S:List (List Nat)) (rk:List Nat) (x9 x10 x11 x12:Option Sl),(∀ x∈ks,x < n)->S.length+ks.length<=1000->rk.length=S.length->(∀ r∈S,r.length=c/\∀ z∈r,z < n) ->
  ∃ S' rk' y9 y10 y11 y12,forR (tgN 9) iM (ks.map fun (k:Nat)=>D.int (k:Int)) (mst ns mo cl f n c (stD S) (nats rk) x9 x10 x11 x12) = .ok (.nx (mst ns mo cl f n c (stD S') (nats rk') y9 y10 y11 y12))/\S'.length=S.length+ks.length/\rk'.length=S'.length/\∀ r∈S',r.length=c/\∀ z∈r,z < n
 | [],S,rk,x9,x10,x11,x12,_,_,he,hr=>⟨S,rk,x9,x10,x11,x12,rfl,rfl,he,hr⟩
 | x :: ks,S,rk,x9,x10,x11,x12,hk,hl,he,hr=>by
  rw [List.length_cons] at hl
  obtain ⟨r,v,y10,y11,y12,t,tl,tr⟩:=aJi (ns:=ns) (cl:=cl) mo hf hn hc S rk (by omega) (by omega) x (hk x List.mem_cons_self) x10 x11 x12
  obtain ⟨S',rk',z9,z10,z11,z12,e,h1,h2,h3⟩:=aCk mo hf hn hc ks (S++[r]) (rk++[v]) (some (.v (.int x))) y10 y11 y12 (fun x hx=>hk x (List.mem_cons_of_mem _ hx)) (by rw [List.length_append,List.length_singleton];omega) (by rw [List.length_append,List.length_append,List.length_singleton,List.length_singleton,he]) (fun r' hr'=>by
   rcases List.mem_append.mp hr' with h | h
   ·exact hr r' h
   ·rw [List.mem_singleton.mp h];exact ⟨tl,tr⟩)
  refine ⟨S',rk',z9,z10,z11,z12,?_,by rw [h1,List.length_append,List.length_singleton,List.length_cons];omega,h2,h3⟩
  rw [<-e,List.map_cons,jQ]
  show (iM (mst ns mo cl f n c (stD S) (nats rk) (some (.v (.int x))) x10 x11 x12)).bind _=_
  rw [t]
  rfl
end
theorem aUy{xs:List D}{a:Int}(h:xs.length=4)(h0:0<=a)(h1:a < 4):∃ d∈xs,dIx (.lst xs) (.int a) = .ok d:=by
 obtain ⟨d,hd,e⟩:=aS7 h0 (show a < xs.length by omega)
 exact ⟨d,hd,by show ofO (atI xs a)=_;rw [e];rfl⟩
theorem aPs(ns:List Int){mo:Int}(h1:1<=mo)(h8:mo<=8):∃ S rk c,gZ [.lst (ns.map D.int),.int 0,.int mo] = .ok (.tup [.lst (stD S),.lst (nats rk)])/\Mch S rk c:=by
 have hc0:=aA2 ns 0 (by decide) (by decide)
 have hc1:=aA2 ns (0+1) (by decide) (by decide)
 generalize cvL ns (0:Int).toNat=cl at hc0
 generalize cvL ns (0+1:Int).toNat=cl1 at hc1
 let st (x3 x4 x5 x6 x7 x8:Option Sl):PSt:=[some (.v (.lst (ns.map D.int))),some (.v (.int 0)),some (.v (.int mo)),x3,x4,x5,x6,x7,x8,none,none,none,none,none]
 obtain ⟨w,hw,w1,w8⟩:∃ w:Int,e2 dIx (pY (aC (eC (.int 4)) (aC (eC (.int 5)) (aC (eC (.int 5)) (aC (aB 2) aW))))) (aX bT (aC (aB 3) (aC (eC (.int 5)) (aC (eC (.int 4)) aW)))) (st (some (.v (.int cl))) none none none none none) = .ok (.int w)/\1<=w/\w<=8:=by
  obtain ⟨a1,a2⟩:=lF cl 5 (m:=4) (by decide)
  obtain ⟨d,hd,e⟩:=aUy (xs:=[.int 4,.int 5,.int 5,.int mo]) rfl a1 a2
  have:∃ w:Int,d = .int w/\1<=w/\w<=8:=by
   simp only [List.mem_cons,List.not_mem_nil,or_false] at hd
   rcases hd with rfl | rfl | rfl | rfl
   ·exact ⟨4,rfl,by decide,by decide⟩
   ·exact ⟨5,rfl,by decide,by decide⟩
   ·exact ⟨5,rfl,by decide,by decide⟩
   ·exact ⟨mo,rfl,h1,h8⟩
  obtain ⟨w,rfl,hw⟩:=this
  exact ⟨w,aU (sE rfl) (aY rfl (gY cl 5 4 (by decide))) e,hw⟩
 have m1:=gY cl 1 w (by omega)
 obtain ⟨m11,m12⟩:=lF cl 1 (m:=w) (by omega)
 have m2:=gY cl 2 3 (by decide)
 obtain ⟨m21,m22⟩:=lF cl 2 (m:=3) (by decide)
 obtain ⟨n,hn⟩:∃ n:Nat,1+pC cl 1 w=n:=⟨(1+pC cl 1 w).toNat,by omega⟩
 obtain ⟨c,hc⟩:∃ c:Nat,1+pC cl 2 3=c:=⟨(1+pC cl 2 3).toNat,by omega⟩
 obtain ⟨f,hf,f0⟩:∃ f:Int,e2 dIx (pY (aC (eC (.int 1)) (aC (eC (.int 1)) (aC (eC (.int 1)) (aC (e2 kZ (eC (.int 1)) (e2 mW (eC (.int 2)) (e2 nY (aX gC (aC (aB 0) (aC (e2 kZ (aB 1) (eC (.int 1))) (aW)))) (e2 aOq (eC (.int 10)) (eC (.int 27)))))) (aW)))))) (aX bT (aC (aB 3) (aC (eC (.int 4)) (aC (eC (.int 4)) (aW))))) (st (some (.v (.int cl))) (some (.v (.int n))) (some (.v (.int c))) none none none) = .ok (.int f)/\0<=f:=by
  obtain ⟨a1,a2⟩:=lF cl 4 (m:=4) (by decide)
  have g0:0<=cl1 % 10 ^ 27:=Int.emod_nonneg _ (by decide)
  obtain ⟨d,hd,e⟩:=aUy (xs:=[.int 1,.int 1,.int 1,.int (1+2 * (cl1 % 10 ^ 27))]) rfl a1 a2
  have:∃ w:Int,d = .int w/\0<=w:=by
   simp only [List.mem_cons,List.not_mem_nil,or_false] at hd
   rcases hd with rfl | rfl | rfl | rfl
   ·exact ⟨1,rfl,by decide⟩
   ·exact ⟨1,rfl,by decide⟩
   ·exact ⟨1,rfl,by decide⟩
   ·exact ⟨_,rfl,by omega⟩
  obtain ⟨w,rfl,hw⟩:=this
  refine ⟨w,aU (sE (bH rfl (bH rfl (bH rfl (bH (aU rfl (aU rfl (aU (aY rfl hc1) (aU rfl rfl (?_:_=R.ok (D.int (10 ^ 27)))) (uN (j:=10 ^ 27) (by decide))) (?_:_=R.ok (D.int (2 * (cl1 % 10 ^ 27))))) rfl) rfl))))) (aY rfl (gY cl 4 4 (by decide))) e,hw⟩
  ·exact aG ⟨by decide,by decide,by decide⟩
  ·exact aG (.inl (by decide))
 obtain ⟨S,rk,y9,y10,y11,y12,e,k1,k2,k3⟩:=aCk (ns:=ns) (cl:=cl) (f:=f) (n:=n) (c:=c) mo f0 (by omega) (by omega) (List.range n) [] [] none none none none (fun x hx=>List.mem_range.mp hx) (by simp;omega) rfl (fun _ h=>nomatch h)
 rw [List.length_range,List.length_nil,Nat.zero_add] at k1
 refine ⟨S,rk,c,cN rfl ?_,⟨by omega,by omega,by omega,by omega,by rw [k1];exact k3,k2⟩⟩
 refine aZ (st':=st (some (.v (.int cl))) none none none none none) (cM (aY rfl hc0)) ?_
 refine aZ (st':=st (some (.v (.int cl))) (some (.v (.int n))) none none none none) (cM (aU rfl (aY (bH rfl (bH rfl (bH hw rfl))) m1) (by rw [<-hn];rfl))) ?_
 refine aZ (st':=st (some (.v (.int cl))) (some (.v (.int n))) (some (.v (.int c))) none none none) (cM (aU rfl (aY rfl m2) (by rw [<-hc];rfl))) ?_
 refine aZ (st':=st (some (.v (.int cl))) (some (.v (.int n))) (some (.v (.int c))) (some (.v (.int f))) none none) (cM hf) ?_
 refine aZ (st':=st (some (.v (.int cl))) (some (.v (.int n))) (some (.v (.int c))) (some (.v (.int f))) (some (.o .l [])) none) (uZ (sE rfl)) ?_
 refine aZ (st':=mst ns mo cl f n c [] [] none none none none) (uZ (sE rfl)) ?_
 refine aZ (st':=mst ns mo cl f n c (stD S) (nats rk) y9 y10 y11 y12) (iH (aH0 rfl (by omega)) e) ?_
 exact fQ (aG (aQ (by show 2<=_;decide)))
end Pu
namespace Pu
theorem bAw{a b n r:Nat}{st:PSt}(ha:st[a]?=some (some (.v (.int (n:Int)))))(hb:st[b]?=some (some (.v (.int (r:Int))))):(e2 dEq (e2 zV (e2 aBw (aB a) (aB b)) (eC (.int 1))) (eC (.int 1))) st = .ok (.bl (n.testBit r)):=by
 have ht:=aHd n r
 have h0:0<=(n:Int) / 2 ^ r:=Int.ediv_nonneg (by omega) (Int.pow_nonneg (by decide))
 have t1:e2 aBw (aB a) (aB b) st = .ok (.int ((n:Int) / 2 ^ r)):=by simp [ha,hb]
 have t2:e2 zV (e2 aBw (aB a) (aB b)) (eC (.int 1)) st = .ok (.int ((if n.testBit r=true then 1 else 0:Nat):Int)):=by
  rw [aBt,t1,aN,aOt,aN,aHc,aG ⟨h0,by decide⟩,ht]
 rw [aBt,t2]
 cases n.testBit r<;>simp
section
variable{S:List (List Nat)}{rk:List Nat}{s c p j n:Nat}{acc:List (Nat × List Nat)}
def ast(S:List (List Nat))(n s:Nat)(acc:List (Nat × List Nat))(p:Nat)(x5:Option Sl):PSt :=
 [some (.v (.lst (stD S))),some (.v (.int n)),some (.v (.int s)),some (.o .l (kD acc)),some (.v (.int p)),x5]
theorem aJj(M:Mch S rk c)(b:BM S s c (inN n) p j acc)(g:Nat)(w:List Nat):lC (ast S n s acc p (some (.v (.int g)))) = .ok (.nx (ast S n s (bst (inN n) acc g w) p (some (.v (.int g))))):=by
 have n8:=M.most
 have hlen:=b.len
 obtain ⟨p1,p2,_⟩:=eY (acc.map (·.1))
 have t2:e2 jF (aB 5) (cZ 3) (ast S n s acc p (some (.v (.int g)))) = .ok (.bl (!decide (g∈acc.map (·.1)))):=aU rfl rfl (by
  show jF (.int g) (.lst (kD acc))=_
  rw [<-vB,aLa]
  exact aG ⟨by rw [p2];decide,rfl,p1⟩)
 have t:=wX (bAw (a:=1) (b:=5) (n:=n) (r:=g) (st:=ast S n s acc p (some (.v (.int g)))) rfl rfl) fun _=>t2
 unfold bst
 by_cases h:inN n g=true/\g ∉ acc.map (·.1)
 ·rw [if_pos h]
  rw [show n.testBit g=true from h.1,decide_eq_false h.2] at t
  refine aB3 t ?_
  rw [aC3 (xs:=kD acc) (d := .int g) rfl rfl (by rw [aCa];omega),<-aJd acc g w]
  rfl
 ·rw [if_neg h]
  refine qK (pM t ?_) rfl
  cases h1:n.testBit g with
  | false=>rfl
  | true=>rw [decide_eq_true (Classical.byContradiction fun z=>h ⟨h1,z⟩)];rfl
theorem aAn(M:Mch S rk c):∀ (m j:Nat) (acc:List (Nat × List Nat)) (x5:Option Sl) (x:Nat × List Nat),j+m=c->BM S s c (inN n) p j acc->acc[p]?=some x ->
  ∃ acc' y5,forR (tgN 5) lC ((List.range' j m).map fun l=>D.int (stp S x.1 l:Nat)) (ast S n s acc p x5) = .ok (.nx (ast S n s acc' p y5))/\BM S s c (inN n) p c acc'/\acc'[p]?=some x
 | 0,j,acc,x5,x,hj,b,hx=>⟨acc,x5,rfl,by rw [show c=j by omega] at b ⊢; exact b,hx⟩
 | m+1,j,acc,x5,x,hj,b,hx=>by
  obtain ⟨acc',y5,e,b',hx'⟩:=aAn M m (j+1) _ (some (.v (.int (stp S x.1 j)))) x (by omega) (b.turn M hx (by omega)) (aPi hx)
  refine ⟨acc',y5,?_,b',hx'⟩
  rw [List.range'_succ,List.map_cons,jQ]
  show (lC (ast S n s acc p (some (.v (.int (stp S x.1 j)))))).bind _=_
  rw [aJj M b _ (x.2++[97+j])]
  exact e
theorem aPt(M:Mch S rk c){h:Nat}(hh:h < S.length):nats S[h]=(List.range' 0 c).map fun l=>D.int (stp S h l:Nat):=by
 have hr:=(M.row S[h] (List.getElem_mem hh)).1
 have e:∀ l,stp S h l=S[h].getD l 0:=fun l=>by simp [stp,List.getD_eq_getElem?_getD,List.getElem?_eq_getElem hh]
 have h1:=M.c1
 have h3:=M.c3
 simp only [e]
 generalize S[h]=r at hr
 match r,hr with
 | [],hr=>simp at hr;omega
 | [a],hr=>subst hr;rfl
 | [a,b],hr=>subst hr;rfl
 | [a,b,d],hr=>subst hr;rfl
 | _ :: _ :: _ :: _ :: r,hr=>simp at hr;omega
theorem aAo(M:Mch S rk c):∀ (m p:Nat) (acc:List (Nat × List Nat)) (x5:Option Sl) (f:Nat),S.length+1<=m+p->m<=f->BM S s c (inN n) p 0 acc->p<=acc.length ->
  ∃ acc' y5,jG oV uI f (ast S n s acc p x5) = .ok (.nx (ast S n s acc' acc'.length y5))/\BM S s c (inN n) acc'.length 0 acc'
 | 0,p,acc,x5,f,hm,hf,b,hp=>by have:=b.len;omega
 | m+1,p,acc,x5,f,hm,hf,b,hp=>by
  obtain ⟨f,rfl⟩:∃ g,f=g+1:=⟨f - 1,by omega⟩
  have test:oV (ast S n s acc p x5) = .ok (.bl (decide ((p:Int) < ((kD acc).length:Nat)))):=aU rfl rfl rfl
  rw [aCa] at test
  by_cases h:p < acc.length
  ·have hx:acc[p]?=some acc[p]:=List.getElem?_eq_getElem h
   generalize acc[p]=x at hx
   obtain ⟨l1,_,_⟩:=b.lt x (List.mem_of_getElem? hx)
   obtain ⟨acc',y5,e,b',hx'⟩:=aAn M c 0 acc x5 x (by omega) b hx
   have hp':p < acc'.length:=(List.getElem?_eq_some_iff.mp hx').1
   obtain ⟨acc2,z5,ew,b3⟩:=aAo M m (p+1) acc' y5 f (by omega) (by omega) b'.next (by omega)
   refine ⟨acc2,z5,aH1 (pM test (aWx h)) (st':=ast S n s acc' (p+1) y5) (aZ (st':=ast S n s acc' p y5) (iH (xs:=nats S[x.1]) ?_ ?_) (cM rfl)) ew,b3⟩
   ·show ((e2 dIx (aB 0) (e2 dIx (cZ 3) (aB 4))) (ast S n s acc p x5)).bind _=_
    rw [aU (rfl:aB 0 (ast S n s acc p x5)=_) (aU rfl rfl (jE (aUw hx))) (jE (wY l1))]
    rfl
   ·rw [aPt M l1]
    exact e
  ·have:p=acc.length:=by omega
   subst this
   exact ⟨acc,x5,aE5 (pM test (aWy h)),b⟩
theorem aPu(M:Mch S rk c){s:Nat}(hs:s < S.length)(n:Nat):∃ l:List Nat,iT [.lst (stD S),.int n,.int s] = .ok (.lst (nats l))/\l.Nodup/\∀ g,g∈l ↔ Rch S c (inN n) s g:=by
 have n8:=M.most
 obtain ⟨acc,x5,e,b⟩:=aAo (n:=n) M (S.length+1) 0 [(s,[])] none 100000 (by omega) (by omega) (BM.start hs) (by simp)
 refine ⟨acc.map (·.1),cN rfl ?_,b.nd,fun g=>b.whole⟩
 unfold rT
 refine aZ (st':=[some (.v (.lst (stD S))),some (.v (.int n)),some (.v (.int s)),some (.o .l (kD [(s,[])])),none,none]) (by simp [kD,aQ]) ?_
 refine aZ (st':=ast S n s [(s,[])] 0 none) (by simp [ast]) ?_
 refine aZ (st':=ast S n s acc acc.length x5) (by rw [aE1];exact e) ?_
 simp [ast,ofK,aLa]
theorem sub_len{l m:List Nat}(h1:l.Nodup)(hs:∀ x∈l,x∈m)(he:l.length=m.length){x:Nat}(hx:x∈m):x∈l:=by
 refine Classical.byContradiction fun hn=>?_
 have:(x :: l).length<=m.length:=List.Nodup.length_le_of_subset (List.nodup_cons.mpr ⟨hn,h1⟩) fun y hy=>by
  rcases List.mem_cons.mp hy with rfl | hy
  ·exact hx
  ·exact hs y hy
 rw [List.length_cons] at this
 omega
theorem aN6(M:Mch S rk c){r:Nat}{T:List Nat}(hr:r < S.length){x0:D}{e:Ex}{st:PSt}(hm:aM n=r :: T)(hv:st[2]?=some (some (.v (.lst (nats (r :: T))))))(he:e st = .ok (.lst (stD S))):(eOr (e2 dGt (e1 dR (aB 2)) (eC (.int 1))) (pB (e2 dEq (e1 dR (aB 2)) (eC (.int 1))) (e2 dIn (e2 dIx (aB 2) (eC (.int 0))) (e2 dIx e (e2 dIx (aB 2) (eC (.int 0))))))) st = .ok (.bl (roundN S n)):=by
 have v2:aB 2 st = .ok (.lst (nats (r :: T))):=by unfold aB;rw [hv]
 have ln:e1 dR (aB 2) st = .ok (.int ((T.length+1:Nat):Int)):=by
  show (aB 2 st).bind dR=_
  rw [v2]
  show R.ok (D.int (((nats (r :: T)).length:Nat):Int))=_
  rw [bQ]
  rfl
 have v0:e2 dIx (aB 2) (eC (.int 0)) st = .ok (.int r):=aU v2 rfl (jE (atI_nat (i:=0) (by rw [bQ];exact Nat.succ_pos _)))
 have hg:S.getD r []=S[r]:=by rw [List.getD_eq_getElem?_getD,List.getElem?_eq_getElem hr];rfl
 obtain ⟨p1,p2,_⟩:=eY S[r]
 have i0:e2 dIn (e2 dIx (aB 2) (eC (.int 0))) (e2 dIx e (e2 dIx (aB 2) (eC (.int 0)))) st = .ok (.bl (decide (r∈S[r]))):=aU v0 (aU he v0 (jE (wY hr))) (by rw [<-vB];exact aG ⟨by rw [p2];exact Nat.zero_le 60,rfl,p1⟩)
 have t:=aGz (aU ln (rfl:eC (.int 1) st=_) (rfl:dGt _ _=_)) fun _=>wX (aU ln (rfl:eC (.int 1) st=_) (uO _ _)) fun _=>i0
 refine pM t ?_
 unfold roundN
 rw [hm]
 show (decide ((1:Int) < ((T.length+1:Nat):Int))||(decide (((T.length+1:Nat):Int)=1)&&decide (r∈S[r])))=(decide (1 < T.length+1)||decide (r∈S.getD r []))
 rw [hg]
 by_cases h:1 < T.length+1
 ·rw [decide_eq_true h,decide_eq_true (by omega:(1:Int) < ((T.length+1:Nat):Int))];rfl
 ·rw [decide_eq_false h,decide_eq_false (by omega:¬ (1:Int) < ((T.length+1:Nat):Int)),decide_eq_true (by omega:((T.length+1:Nat):Int)=1)];rfl
open Classical in
theorem aJk(M:Mch S rk c)(hn:n < 2 ^ S.length):lD [.lst (stD S),.int n] = .ok (.bl (decide (LpN S c n))):=by
 have n8:=M.most
 have ce:=qZ (tg:=tgN 3) (C:=qU) (E:=qT) (st:=[some (.v (.lst (stD S))),some (.v (.int n)),none,none]) (q:=fun r=>n.testBit r) (G:=fun r => .int r) (List.range S.length) (fun r _=>⟨_,rfl,bAw (a:=1) (b:=3) rfl rfl,rfl⟩)
 rw [aJf hn] at ce
 have hi:tQ (e1 dR (aB 0)) [some (.v (.lst (stD S))),some (.v (.int n)),none,none] = .ok (nats (List.range S.length)):=aH0 (by rw [<-fM S];rfl) (by omega)
 refine cN rfl (aZ (st':=[some (.v (.lst (stD S))),some (.v (.int n)),some (.v (.lst (nats (aM n)))),none]) (cM (vA hi (by rw [bQ,List.length_range];omega) ce)) ?_)
 obtain ⟨x',look⟩:=aC2 (L:=qW) (j:=3) (fun x=>[some (.v (.lst (stD S))),some (.v (.int n)),some (.v (.lst (nats (aM n)))),x]) (fun _ _=>rfl) (fun r => !decide (∀ b∈aM n,Rch S c (inN n) r b)) (fun _ => .bl false) (aM n) (fun r hr=>by
  have hrl:=cF hn hr
  obtain ⟨l,e,nd,hl⟩:=aPu M hrl n
  have hsub:∀ x∈l,x∈aM n:=fun x hx=>bF.mpr (aFm (al:=inN n) (bF.mp hr) ((hl x).mp hx))
  have t:=aU (op:=dNe) (f:=e1 dR (aX iT (aC (aB 0) (aC (aB 1) (aC (aB 3) (aW)))))) (g:=e1 dR (aB 2)) (st:=[some (.v (.lst (stD S))),some (.v (.int n)),some (.v (.lst (nats (aM n)))),some (.v (.int r))]) (x := .int (l.length:Nat)) (y := .int ((aM n).length:Nat)) (by rw [<-bQ l];show R.bind (iT [.lst (stD S),.int n,.int r]) _=_;rw [e];rfl) (by rw [<-bQ (aM n)];rfl) (aWw _ _)
  by_cases h:∀ b∈aM n,Rch S c (inN n) r b
  ·have he:l.length=(aM n).length:=Nat.le_antisymm (List.Nodup.length_le_of_subset nd hsub) (List.Nodup.length_le_of_subset (cW n) fun x hx=>(hl x).mpr (h x hx))
   rw [if_neg (by rw [decide_eq_true h];decide)]
   exact qK (pM t (by rw [decide_eq_true (by omega)];rfl)) rfl
  ·have he:¬ l.length=(aM n).length:=fun z=>h fun b hb=>(hl b).mp (sub_len nd hsub z hb)
   rw [if_pos (by rw [decide_eq_false h];rfl)]
   exact aB3 (pM t (by rw [decide_eq_false (by omega)];rfl)) rfl) none
 cases hf:(aM n).find? (fun r => !decide (∀ b∈aM n,Rch S c (inN n) r b)) with
 | some k =>
  rw [hf] at look
  have h1:=List.find?_some hf
  have h2:=List.mem_of_find?_eq_some hf
  have hno:¬ LpN S c n:=fun z=>by
   rw [decide_eq_true (z.2.1 k h2)] at h1
   cases h1
  rw [decide_eq_false hno]
  exact aC1 (iH rfl look)
 | none =>
  rw [hf] at look
  have hall:∀ a∈aM n,∀ b∈aM n,Rch S c (inN n) a b:=fun a ha=>by
   have:=List.find?_eq_none.mp hf a ha
   exact Classical.byContradiction fun z=>this (by rw [decide_eq_false z];rfl)
  refine aZ (iH rfl look) (fQ ?_)
  cases hm:aM n with
  | nil =>
   have h0:n=0:=by
    have:=fV n
    rw [hm] at this
    exact this.symm
   rw [decide_eq_false fun z=>z.1 h0]
   exact aGz (p:=false) (q:=false) (aU rfl rfl rfl) fun _=>wX (p:=false) (q:=false) (aU rfl rfl (uO 0 1)) fun h=>nomatch h
  | cons r T =>
   have h0:n≠0:=fun z=>by
    have:r∈aM n:=by rw [hm];exact List.mem_cons_self
    rw [z,bF,Nat.zero_testBit] at this
    cases this
   have hrl:r < S.length:=cF hn (by rw [hm];exact List.mem_cons_self)
   have hd:decide (LpN S c n)=roundN S n:=by
    by_cases h:roundN S n=true
    ·rw [h,decide_eq_true ⟨h0,hall,h⟩]
    ·rw [decide_eq_false fun z=>h z.2.2];simpa using h
   rw [hd]
   exact aN6 M (x0 := .non) hrl hm rfl rfl
open Classical in
noncomputable def aFo(S:List (List Nat))(c:Nat):List Nat:=(List.range' 1 (2 ^ S.length - 1)).filter fun m=>decide (LpN S c m)
open Classical in
theorem aN7{m:Nat}:m∈aFo S c ↔ m < 2 ^ S.length/\LpN S c m:=by
 unfold aFo
 rw [List.mem_filter,List.mem_range'_1,decide_eq_true_eq]
 constructor
 ·rintro ⟨h1,h2⟩
  exact ⟨by omega,h2⟩
 ·rintro ⟨h1,h2⟩
  have:=h2.1
  exact ⟨by omega,h2⟩
theorem aJl(n:Nat):fL 1 n=nats (List.range' 1 n):=by
 unfold fL nats
 rw [List.range'_eq_map_range,List.map_map]
 refine List.map_congr_left fun k _=>?_
 show D.int (1+(k:Int))=D.int ((1+k:Nat):Int)
 push_cast
 rfl
theorem aFp(M:Mch S rk c):2 ^ S.length<=256:=by
 have:=M.most
 have:2 ^ S.length<=2 ^ 8:=Nat.pow_le_pow_right (by decide) this
 omega
theorem aN8(M:Mch S rk c):oE [.lst (stD S)] = .ok (.lst (nats (aFo S c))):=by
 have n8:=M.most
 have n2:=aFp M
 have n1:1<=2 ^ S.length:=Nat.one_le_two_pow
 have ce:=qZ (tg:=tgN 1) (C:=oX) (E:=oW) (st:=[some (.v (.lst (stD S))),none]) (q:=fun m=>@decide (LpN S c m) (Classical.propDecidable _)) (G:=fun r => .int r) (List.range' 1 (2 ^ S.length - 1)) (fun m hm=>⟨_,rfl,by
  have hlt:m < 2 ^ S.length:=by have:=(List.mem_range'_1.mp hm).2;omega
  have:=aJk M hlt
  simp [oX,this],by simp [oW]⟩)
 refine cN rfl ?_
 unfold rW
 show cY _ [some (.v (.lst (stD S))),none]=_
 have hi:aRy (eC (.int 1)) (e2 aDi (eC (.int 1)) (e1 dR (aB 0))) [some (.v (.lst (stD S))),none] = .ok (nats (List.range' 1 (2 ^ S.length - 1))):=by
  rw [<-aJl]
  have g1:(S.length:Int)<=1000000:=by omega
  have g2:(2:Int) ^ S.length=((2 ^ S.length:Nat):Int):=by push_cast;rfl
  have g3:(2:Int) ^ S.length<=(big:Int):=by rw [g2];exact aO (by omega)
  have g4 : -(big:Int)<=(2:Int) ^ S.length:=by rw [g2];exact aP (by omega)
  have g5 : -(big:Int)<=1:=aP (by decide)
  have g6:(1:Int)<=(big:Int):=aO (by decide)
  have g7:((2:Int) ^ S.length - 1).toNat=2 ^ S.length - 1:=by rw [g2];omega
  simp [fM,g1,g3,g4,g5,g6,g7]
 rw [pI,xW,hi]
 simp only [aN,bQ,List.length_range']
 rw [aG (aQ (by omega)),show clr [1] [some (Sl.v (.lst (stD S))),none]=[some (.v (.lst (stD S))),none] from rfl,ce]
 rfl
end
end Pu
namespace Pu
section
variable{S:List (List Nat)}{rk:List Nat}{c n:Nat}
theorem aXb{m o:Nat}:o ||| m=o ↔ ∀ g∈aM m,g∈aM o:=by
 constructor
 ·intro h g hg
  rw [bF] at hg ⊢
  rw [<-h,Nat.testBit_or,hg,Bool.or_true]
 ·intro h
  refine Nat.eq_of_testBit_eq fun g=>?_
  rw [Nat.testBit_or]
  cases hm:m.testBit g with
  | false=>rw [Bool.or_false]
  | true=>rw [bF.mp (h g (bF.mpr hm))];rfl
theorem aXc{m o:Nat}(h1:∀ g∈aM m,g∈aM o)(h2:∀ g∈aM o,g∈aM m):m=o:=by
 rw [<-fV m,<-fV o]
 exact aFk fun r=>⟨h1 r,h2 r⟩
theorem aPv{m o:Nat}(hm:LpN S c m)(hs:∀ g∈aM m,g∈aM o):roundN S o=true:=by
 have hq:=hm.2.2
 have hne:∃ r,r∈aM m:=by
  cases h:aM m with
  | nil =>
   refine absurd ?_ hm.1
   have:=fV m
   rw [h] at this
   exact this.symm
  | cons r T=>exact ⟨r,by simp⟩
 obtain ⟨r,hr⟩:=hne
 have hl:(aM m).length<=(aM o).length:=List.Nodup.length_le_of_subset (cW m) fun x hx=>hs x hx
 unfold roundN at hq ⊢
 by_cases h1:1 < (aM o).length
 ·rw [decide_eq_true h1];rfl
 ·have he:(aM m).length=(aM o).length:=by
   have:0 < (aM m).length:=List.length_pos_of_mem hr
   omega
  have:m=o:=aXc hs fun g hg=>sub_len (cW m) hs he hg
  rw [<-this]
  exact hq
end
end Pu
namespace Pu
section
variable{S:List (List Nat)}{rk:List Nat}{c n:Nat}
theorem aXd:cV (List.range n) < 2 ^ n:=aBb fun r hr=>List.mem_range.mp hr
theorem aSq(M:Mch S rk c):mY [mD S rk c] = .ok (.int (cV (List.range S.length))):=by
 have n8:=M.most
 refine cN rfl (fQ (aY (bH (d := .lst (nats (List.range S.length))) ?_ rfl) (aBa (fun r hr=>by have:=List.mem_range.mp hr;omega) (by rw [List.length_range];omega))))
 show R.bind (jM "Machine" "many" (mD S rk c)) aFf=_
 rw [aH3,aN,<-aAm]
 exact aG ⟨aP (by omega),aO (by omega)⟩
theorem aSr(M:Mch S rk c){st:PSt}(h:st[0]?=some (some (.v (mD S rk c)))):aX gF (aC (e1 (jM "Machine" "steps") (aB 0)) (aC (aX mY (aC (aB 0) (aW))) (aW))) st = .ok (.dct false (nats (aM (cV (List.range S.length)))) ((aM (cV (List.range S.length))).map fun r=>D.int (dB S c (cV (List.range S.length)) r:Nat))):=by
 have e:aB 0 st = .ok (mD S rk c):=by unfold aB;rw [h]
 exact aY (bH (show R.bind (aB 0 st) (jM "Machine" "steps")=_ by rw [e,aN,qY]) (bH (aY (bH e rfl) (aSq M)) rfl)) (aHe M aXd)
theorem aSs{r:Nat}(hr:r < S.length):dIx (.dct false (nats (aM (cV (List.range S.length)))) ((aM (cV (List.range S.length))).map fun r=>D.int (dB S c (cV (List.range S.length)) r:Nat))) (.int r) = .ok (.int (dB S c (cV (List.range S.length)) r:Nat)):=yO (uR (fun r=>D.int (dB S c (cV (List.range S.length)) r:Nat)) (lW.mpr (List.mem_range.mpr hr)))
theorem aHj(M:Mch S rk c){r:Nat}(hr:r < S.length):iB [mD S rk c,.int r] = .ok (.int (dB S c (cV (List.range S.length)) r)) :=
 cN rfl (fQ (aU (aSr M rfl) rfl (aSs hr)))
end
end Pu
namespace Pu
section
variable{S:List (List Nat)}{rk:List Nat}{c n s g:Nat}{al:Nat->Bool}{acc:List (Nat × List Nat)}
def Pat(S:List (List Nat))(c:Nat)(al:Nat->Bool):List Nat->Nat->Nat->Prop
 | [],s,g=>s=g
 | ch :: u,s,g=>∃ l,l < c/\ch=97+l/\al (stp S s l)=true/\Pat S c al u (stp S s l) g
theorem vG:∀ {u v:List Nat} {s r g:Nat},Pat S c al u s r->Pat S c al v r g->Pat S c al (u++v) s g
 | [],v,s,r,g,h1,h2=>by
  have e:s=r:=h1
  rw [e]
  exact h2
 | ch :: u,v,s,r,g,h1,h2=>by
  obtain ⟨l,a,b,d,e⟩:=h1
  exact ⟨l,a,b,d,vG e h2⟩
theorem aLi:∀ {u v:List Nat} {s g:Nat},Pat S c al (u++v) s g->∃ r,Pat S c al u s r/\Pat S c al v r g
 | [],v,s,g,h=>⟨s,rfl,h⟩
 | ch :: u,v,s,g,h=>by
  obtain ⟨l,a,b,d,e⟩:=h
  obtain ⟨r,h1,h2⟩:=aLi e
  exact ⟨r,⟨l,a,b,d,h1⟩,h2⟩
theorem aN9{u v w:List Nat}(h1:slB u v)(h2:slB v w):slB u w:=by
 rcases h1 with h1 | ⟨h1,h3⟩
 ·rcases h2 with h2 | ⟨h2,_⟩
  ·exact .inl (by omega)
  ·exact .inl (by omega)
 ·rcases h2 with h2 | ⟨h2,h4⟩
  ·exact .inl (by omega)
  ·exact .inr ⟨by omega,List.lt_trans h3 h4⟩
theorem snoc_ind{P:List Nat->Prop}(h0:P [])(h1:∀ u a,P u->P (u++[a])):∀ (k:Nat) (u:List Nat),u.length=k->P u
 | 0,u,h=>by rw [List.length_eq_zero_iff.mp h];exact h0
 | k+1,u,h=>by
  rcases List.eq_nil_or_concat u with e | ⟨v,a,e⟩
  ·rw [e] at h;simp at h
  ·rw [List.concat_eq_append] at e
   rw [e] at h ⊢
   exact h1 v a (snoc_ind h0 h1 k v (by simpa using h))
theorem BM.least(b:BM S s c al acc.length 0 acc):∀ (u:List Nat) (g:Nat),Pat S c al u s g->∃ y∈acc,y.1=g/\(y.2=u\/slB y.2 u):=fun u =>
 snoc_ind (P:=fun u=>∀ g,Pat S c al u s g->∃ y∈acc,y.1=g/\(y.2=u\/slB y.2 u)) (fun g h=>⟨(s,[]),List.mem_of_getElem? b.hd,h,.inl rfl⟩) (fun u a ih g h=>by
  obtain ⟨r,h1,l,hl,ea,ha,e⟩:=aLi h
  obtain ⟨y,hy,rfl,hq⟩:=ih r h1
  have e':stp S y.1 l=g:=e
  obtain ⟨i,hi⟩:=List.mem_iff_getElem?.mp hy
  obtain ⟨z,hz,ez,hw⟩:=b.cls i y l hi hl (.inl (List.getElem?_eq_some_iff.mp hi).1) ha
  refine ⟨z,hz,ez.trans e',?_⟩
  rw [ea]
  rcases hq with rfl | hq
  ·exact hw
  ·have:=aL9 (97+l) (97+l) hq
   rcases hw with hw | hw
   ·rw [hw];exact .inr this
   ·exact .inr (aN9 hw this)) u.length u rfl
theorem BM.path(b:BM S s c al acc.length 0 acc):∀ (k:Nat) (x:Nat × List Nat),acc[k]?=some x->Pat S c al x.2 s x.1:=by
 intro k
 induction k using Nat.strongRecOn with
 | ind k ih =>
  intro x hx
  by_cases hk:k=0
  ·subst hk
   rw [b.hd] at hx
   cases hx
   exact rfl
  ·obtain ⟨h0,q,y,ch,h1,h2,_⟩:=b.par k x hx (by omega)
   have hl:x.2.length=y.2.length+1:=by rw [h2];simp
   have hq:q < k:=by
    rcases Nat.lt_trichotomy q k with h | h | h
    ·exact h
    ·subst h
     rw [hx] at h1
     cases h1
     omega
    ·rcases b.ord k q x y hx h1 h with h3 | ⟨h3,_⟩ <;> omega
   obtain ⟨_,x2,x3⟩:=b.lt x (List.mem_of_getElem? hx)
   obtain ⟨_,y2,_⟩:=b.lt y (List.mem_of_getElem? h1)
   have hch:=x3 ch (by rw [h2];simp)
   have e:x.1=stp S y.1 (ch - 97):=by rw [<-x2,h2,vC,y2]
   rw [h2]
   exact vG (ih q hq y h1) ⟨ch - 97,by omega,by omega,by rw [<-e];exact h0,e.symm⟩
def Lst(S:List (List Nat))(c:Nat)(al:Nat->Bool)(s g:Nat)(u:List Nat):Prop:=Pat S c al u s g/\∀ v,Pat S c al v s g->u=v\/slB u v
theorem aXe(n:Nat):(fun g=>decide (g∈aM n))=fun g=>n.testBit g:=funext fun g=>by
 cases h:n.testBit g with
 | true=>exact decide_eq_true (bF.mpr h)
 | false=>exact decide_eq_false fun z=>by rw [bF.mp z] at h;cases h
theorem aXf(M:Mch S rk c)(hn:n < 2 ^ S.length)(hs:s < S.length)(g:Nat):(nA [mD S rk c,.int n,.int s,.int g] = .ok .non/\¬ (n.testBit s=true/\∃ u,Pat S c (fun g=>n.testBit g) u s g))\/∃ u,nA [mD S rk c,.int n,.int s,.int g] = .ok (.str u)/\n.testBit s=true/\Lst S c (fun g=>n.testBit g) s g u/\Ltr c u/\u.length+1<=(aM n).length:=by
 have n8:=M.most
 cases hb:n.testBit s with
 | false=>exact .inl ⟨cN rfl (aC1 (aB3 (rZ (p:=false) (aY rfl (by rw [aA1,hb]))) (fQ rfl))),fun z=>nomatch z.1⟩
 | true =>
  obtain ⟨acc,e,b⟩:=aSi M hs (aM n)
  rw [aXe] at b
  have hr:∀ {d:D},aP4 (aX jV (aC (e1 (jM "Machine" "steps") (aB 0)) (aC (aB 2) (aC (aX bV (aC (aB 1) (aW))) (aW))))) (aB 3) (eC .non) [some (.v (mD S rk c)),some (.v (.int n)),some (.v (.int s)),some (.v (.int g))] = .ok d->nA [mD S rk c,.int n,.int s,.int g] = .ok d:=fun hd=>cN rfl (fJ (qK (rZ (p:=true) (aY rfl (by rw [aA1,hb]))) rfl) (fQ hd))
  have hg:∀ {r:R D},aBx (.dct false (kD acc) (wD acc)) (.int g) .non=r->aP4 (aX jV (aC (e1 (jM "Machine" "steps") (aB 0)) (aC (aB 2) (aC (aX bV (aC (aB 1) (aW))) (aW))))) (aB 3) (eC .non) [some (.v (mD S rk c)),some (.v (.int n)),some (.v (.int s)),some (.v (.int g))]=r:=fun h=>by
   unfold aP4
   rw [aY (bH (show jM "Machine" "steps" (mD S rk c)=_ from qY) (bH rfl (bH (aY rfl (nC hn (by omega))) rfl))) e]
   exact h
  have hh:=aJe g acc
  by_cases hm:g∈acc.map (·.1)
  ·rw [decide_eq_true hm] at hh
   obtain ⟨x,hx,rfl⟩:=List.mem_map.mp hm
   obtain ⟨k,hk⟩:=List.mem_iff_getElem?.mp hx
   have hkl:=(List.getElem?_eq_some_iff.mp hk).1
   refine .inr ⟨x.2,hr (hg ?_),rfl,⟨b.path k x hk,fun v hv=>?_⟩,(b.lt x hx).2.2,?_⟩
   ·show aH (keyOk false (.int x.1)=true) _=_
    rw [aG (c:=keyOk false (.int x.1)=true) rfl,if_pos hh,aPj b.nd hx]
    rfl
   ·obtain ⟨y,hy,ey,hq⟩:=b.least v x.1 hv
    obtain ⟨j,hj⟩:=List.mem_iff_getElem?.mp hy
    have:y=x:=by
     have hkj:j=k:=by
      have h1:(acc.map (·.1))[j]?=some x.1:=by rw [List.getElem?_map,hj,<-ey];rfl
      have h2:(acc.map (·.1))[k]?=some x.1:=by rw [List.getElem?_map,hk];rfl
      obtain ⟨a1,b1⟩:=List.getElem?_eq_some_iff.mp h1
      obtain ⟨a2,b2⟩:=List.getElem?_eq_some_iff.mp h2
      exact (List.getElem_inj b.nd).mp (b1.trans b2.symm)
     rw [hkj,hk] at hj
     exact (Option.some.inj hj).symm
    rw [this] at hq
    exact hq
   ·have h1:=b.wlen k x hk
    have h2:(acc.map (·.1)).length<=(aM n).length:=List.Nodup.length_le_of_subset b.nd fun y hy=>by
     obtain ⟨z,hz,rfl⟩:=List.mem_map.mp hy
     obtain ⟨j,hj⟩:=List.mem_iff_getElem?.mp hz
     by_cases hj0:j=0
     ·subst hj0
      rw [b.hd] at hj
      cases hj
      exact bF.mpr hb
     ·exact bF.mpr (b.par j z hj (by omega)).1
    rw [List.length_map] at h2
    omega
  ·rw [decide_eq_false hm] at hh
   refine .inl ⟨hr (hg ?_),fun ⟨_,u,hu⟩=>?_⟩
   ·show aH (keyOk false (.int g)=true) _=_
    rw [aG (c:=keyOk false (.int g)=true) rfl,if_neg (by rw [hh];decide)]
   ·obtain ⟨y,hy,ey,_⟩:=b.least u g hu
    exact hm (List.mem_map.mpr ⟨y,hy,ey⟩)
end
end Pu
namespace Pu
theorem uT{b:Bd}{st:PSt}{x:Fl}(h:b st = .ok x):sNX b st = .ok x:=by unfold sNX;rw [h];rfl
theorem aPw{f:Ex}{st:PSt}{x:D}(h:f st = .ok x):eNX f st = .ok x:=by unfold eNX;rw [h];rfl
theorem aLj{l:Nat}(h:l < 3):dIx (.str [97,98,99]) (.int l) = .ok (.str [97+l]):=by
 show aH _ _=_
 rw [aG (aQ (by show 3<=_;omega)),atI_nat (xs:=[97,98,99]) (i:=l) (by show l < 3;exact h)]
 have:l=0\/l=1\/l=2:=by omega
 rcases this with rfl | rfl | rfl<;>rfl
theorem aXg(l m:List Nat):dEq (.lst (nats l)) (.lst (nats m)) = .ok (.bl (decide (l=m))):=by
 obtain ⟨p1,p2,_⟩:=eY l
 obtain ⟨q1,_,_⟩:=eY m
 have:=aBc l m
 simp [p1,p2,q1,this]
section
variable{S:List (List Nat)}{rk:List Nat}{c n s g r:Nat}{al:Nat->Bool}
theorem aFq:∀ {u:List Nat} {s g:Nat},Pat S c al u s g->Ltr c u
 | [],_,_,_=>fun _ h=>nomatch h
 | ch :: u,s,g,⟨l,a,b,_,e⟩=>fun x hx=>by
  rcases List.mem_cons.mp hx with rfl | hx
  ·omega
  ·exact aFq e x hx
theorem yP:∀ {u:List Nat} {s g:Nat},Pat S c al u s g->lE S s u=g
 | [],_,_,h=>h
 | ch :: u,s,g,⟨l,a,b,_,e⟩=>by
  show lE S (stp S s (ch - 97)) u=g
  rw [b,show 97+l - 97=l by omega]
  exact yP e
theorem aHk:∀ {u:List Nat} {s g:Nat},Pat S c al u s g->∀ y∈runs S s u,al y=true
 | [],_,_,_=>fun _ h=>nomatch h
 | ch :: u,s,g,⟨l,a,b,d,e⟩=>fun y hy=>by
  have hy':y∈stp S s (ch - 97) :: runs S (stp S s (ch - 97)) u:=hy
  rw [b,show 97+l - 97=l by omega] at hy'
  rcases List.mem_cons.mp hy' with rfl | hy'
  ·exact d
  ·exact aHk e y hy'
theorem aCl:∀ (x y:List Nat) (q:Nat),runs S q (x++y)=runs S q x++runs S (lE S q x) y
 | [],_,_=>rfl
 | ch :: x,y,q=>congrArg (stp S q (ch - 97) :: ·) (aCl x y _)
theorem aFr:∀ (x:List Nat) (q:Nat),lE S q x∈q :: runs S q x
 | [],_=>List.mem_cons_self
 | ch :: x,q=>List.mem_cons_of_mem _ (aFr x (stp S q (ch - 97)))
theorem aPx{x:List Nat}(h:x≠[])(q:Nat):lE S q x∈runs S q x:=by
 cases x with
 | nil=>exact absurd rfl h
 | cons ch x=>exact aFr x (stp S q (ch - 97))
theorem aSt{s g:Nat}(h:Rch S c al s g):∃ u,Pat S c al u s g:=by
 induction h with
 | here=>exact ⟨[],rfl⟩
 | on _ hl ha ih =>
  obtain ⟨u,hu⟩:=ih
  exact ⟨u++[97+_],vG hu ⟨_,hl,rfl,ha,rfl⟩⟩
structure Rnd(S:List (List Nat))(c n r:Nat)(u:List Nat):Prop where
 pat:Pat S c (fun g=>n.testBit g) u r r
 ne:u≠[]
 len:u.length<=(aM n).length * (aM n).length
 all:∀ g∈aM n,g∈runs S r u
def aPy(S:List (List Nat))(rk:List Nat)(c n r:Nat)(x:List Nat)(h:Nat)(x5:Option Sl):PSt:=[some (.v (mD S rk c)),some (.v (.int n)),some (.v (.int r)),some (.v (.str x)),some (.v (.int h)),x5]
theorem aJm{p:List D->R D}{xs:List D}{f:Ex}{e:Exs}{st:PSt}(hf:f st = .ok (mD S rk c))(hr:e st = .ok xs):qO "Machine" "rooms_along" p [] f e st=p (mD S rk c :: xs):=by
 rw [aBu,hf,hr]
 show aH _ (p (mD S rk c :: (xs++[])))=_
 rw [List.append_nil]
 exact aG ⟨rfl,by decide⟩
theorem aHl(M:Mch S rk c)(hn:n < 2 ^ S.length)(hL:LpN S c n){a b:Nat}(ha:a∈aM n)(hb:b∈aM n):∃ u,nA [mD S rk c,.int n,.int a,.int b] = .ok (.str u)/\Pat S c (fun g=>n.testBit g) u a b/\u.length+1<=(aM n).length:=by
 rcases aXf M hn (cF hn ha) b with ⟨_,h2⟩ | ⟨u,h1,_,h3,_,h5⟩
 ·exact absurd ⟨bF.mp ha,aSt (hL.2.1 a ha b hb)⟩ h2
 ·exact ⟨u,h1,h3.1,h5⟩
theorem xF(M:Mch S rk c)(hn:n < 2 ^ S.length)(hL:LpN S c n)(hr:r∈aM n):∀ (gs:List Nat) (x:List Nat) (h j:Nat) (x5:Option Sl),(∀ g∈gs,g∈aM n)->Pat S c (fun g=>n.testBit g) x r h->h∈aM n->x.length<=j * ((aM n).length - 1)->j+gs.length<=8 ->
  ∃ x' h' j' x5',forR (tgN 5) yI (nats gs) (aPy S rk c n r x h x5) = .ok (.nx (aPy S rk c n r x' h' x5'))/\Pat S c (fun g=>n.testBit g) x' r h'/\h'∈aM n/\x'.length<=j' * ((aM n).length - 1)/\j'<=j+(gs.filter fun g => !decide (g=r)).length/\(∀ g∈gs,g∈r :: runs S r x')/\∀ g∈r :: runs S r x,g∈r :: runs S r x'
 | [],x,h,j,x5,_,h1,h2,h3,_=>⟨x,h,j,x5,rfl,h1,h2,h3,Nat.le_add_right _ _,fun _ z=>(nomatch z),fun _ z=>z⟩
 | g :: gs,x,h,j,x5,hg,h1,h2,h3,h4=>by
  have n8:=M.most
  rw [List.length_cons] at h4
  have hk:(aM n).length<=8:=Nat.le_trans (fU S.length _ (cW _) fun y hy=>cF hn hy) n8
  have hx:x.length<=100:=by
   have:j * ((aM n).length - 1)<=8 * 7:=Nat.mul_le_mul (by omega) (by omega)
   omega
  have hrl:=cF hn hr
  obtain ⟨p1,p2,_⟩:=eY (r :: runs S r x)
  have t:e2 jF (aB 5) (qO "Machine" "rooms_along" (bG) [] (aB 0) (aC (aB 2) (aC (aB 3) (aW)))) (aPy S rk c n r x h (some (.v (.int g)))) = .ok (.bl (!decide (g∈r :: runs S r x))):=aU rfl ((aJm rfl rfl).trans (aH7 M hrl x (aFq h1) (by omega))) (by
   rw [<-vB]
   exact aG ⟨by rw [p2];exact Nat.zero_le 60,rfl,p1⟩)
  by_cases hm:g∈r :: runs S r x
  ·rw [decide_eq_true hm] at t
   obtain ⟨x',h',j',x5',e,k1,k2,k3,k4,k5,k6⟩:=xF M hn hL hr gs x h j (some (.v (.int g))) (fun y hy=>hg y (List.mem_cons_of_mem _ hy)) h1 h2 h3 (by omega)
   refine ⟨x',h',j',x5',qL rfl (qK t rfl) e,k1,k2,k3,Nat.le_trans k4 ?_,fun y hy=>?_,k6⟩
   ·by_cases z:(!decide (g=r))=true
    ·rw [List.filter_cons_of_pos (p:=fun g => !decide (g=r)) z,List.length_cons];omega
    ·rw [List.filter_cons_of_neg (p:=fun g => !decide (g=r)) z];exact Nat.le_refl _
   ·rcases List.mem_cons.mp hy with rfl | hy
    ·exact k6 _ hm
    ·exact k5 y hy
  ·rw [decide_eq_false hm] at t
   have hgr:g≠r:=fun z=>hm (by rw [z];exact List.mem_cons_self)
   obtain ⟨u,w1,w2,w3⟩:=aHl M hn hL h2 (hg g List.mem_cons_self)
   have hl:(x++u).length<=(j+1) * ((aM n).length - 1):=by
    rw [List.length_append,Nat.add_mul,Nat.one_mul]
    omega
   obtain ⟨x',h',j',x5',e,k1,k2,k3,k4,k5,k6⟩:=xF M hn hL hr gs (x++u) g (j+1) (some (.v (.int g))) (fun y hy=>hg y (List.mem_cons_of_mem _ hy)) (vG h1 w2) (hg g List.mem_cons_self) hl (by omega)
   have up:∀ y∈r :: runs S r x,y∈r :: runs S r (x++u):=fun y hy=>by
    rw [aCl]
    rcases List.mem_cons.mp hy with rfl | hy
    ·exact List.mem_cons_self
    ·exact List.mem_cons_of_mem _ (List.mem_append_left _ hy)
   refine ⟨x',h',j',x5',qL rfl (aB3 t (aZ (st':=aPy S rk c n r (x++u) h (some (.v (.int g)))) (cM (aU rfl (aY rfl w1) (aG (aQ (by omega))))) (cM rfl))) e,k1,k2,k3,Nat.le_trans k4 ?_,fun y hy=>?_,fun y hy=>k6 y (up y hy)⟩
   ·rw [List.filter_cons_of_pos (by rw [decide_eq_false hgr];rfl),List.length_cons];omega
   ·rcases List.mem_cons.mp hy with rfl | hy
    ·refine k6 _ ?_
     have:=aFr (S:=S) (x++u) r
     rw [yP (vG h1 w2)] at this
     exact this
    ·exact k5 y hy
theorem aXh{l:List Nat}(nd:l.Nodup)(hr:r∈l):(l.filter fun g => !decide (g=r)).length+1<=l.length:=by
 have h1:(l.filter fun g => !decide (g=r)).length < l.length:=by
  rcases Nat.lt_or_eq_of_le (List.length_filter_le (fun g => !decide (g=r)) l) with h | h
  ·exact h
  ·have:=List.length_filter_eq_length_iff.mp h r hr
   rw [decide_eq_true rfl] at this
   cases this
 omega
theorem aJn(M:Mch S rk c)(hn:n < 2 ^ S.length)(hL:LpN S c n)(hr:r∈aM n):∃ u,rY [mD S rk c,.int n,.int r] = .ok (.str u)/\Rnd S c n r u:=by
 have n8:=M.most
 have c3:=M.c3
 have hrl:=cF hn hr
 have hro:=nC hn (by omega)
 have hk:(aM n).length<=8:=Nat.le_trans (fU S.length _ (cW _) fun y hy=>cF hn hy) n8
 have a1:sIf (eNX (pX (aX lQ (aC (aB 0) (aC (aB 1) (aW)))))) (qF "NoLoop" (aC (eC (.str [116,104,105,115,32,115,101,116,32,111,102,32,114,111,111,109,115,32,105,115,32,110,111,32,108,111,111,112])) (aW))) dN [some (.v (mD S rk c)),some (.v (.int n)),some (.v (.int r)),none,none,none] = .ok (.nx [some (.v (mD S rk c)),some (.v (.int n)),some (.v (.int r)),none,none,none]):=qK (aPw (rZ (p:=true) (aY rfl (by rw [aCi M hn,decide_eq_true ((aEh M hn).mpr hL)])))) rfl
 have a2:sIf (eNX (pX (aX dG (aC (aB 1) (aC (aB 2) (aW)))))) (qF "NoLoop" (aC (eC (.str [116,104,101,32,114,111,111,109,32,105,115,32,110,111,116,32,105,110,32,116,104,101,32,108,111,111,112])) (aW))) dN [some (.v (mD S rk c)),some (.v (.int n)),some (.v (.int r)),none,none,none] = .ok (.nx [some (.v (mD S rk c)),some (.v (.int n)),some (.v (.int r)),none,none,none]):=qK (aPw (rZ (p:=true) (aY rfl (by rw [aA1,bF.mp hr])))) rfl
 have t3:=aU (op:=dEq) (f:=aX bV (aC (aB 1) (aW))) (g:=pY (aC (aB 2) (aW))) (st:=[some (.v (mD S rk c)),some (.v (.int n)),some (.v (.int r)),none,none,none]) (aY rfl hro) (sE (ds:=nats [r]) rfl) (aXg (aM n) [r])
 by_cases h1:aM n=[r]
 ·rw [decide_eq_true h1] at t3
  have hq:=hL.2.2
  unfold roundN at hq
  rw [h1] at hq
  have hq':r∈S.getD r []:=by
   have:=of_decide_eq_true (show decide (r∈S.getD r [])=true from hq)
   exact this
  have hg:S.getD r []=S[r]:=by rw [List.getD_eq_getElem?_getD,List.getElem?_eq_getElem hrl];rfl
  rw [hg] at hq'
  have hrow:=(M.row S[r] (List.getElem_mem hrl)).1
  have hs:((S[r].map fun (x:Nat)=>(x:Int)).findIdx? fun i=>i==(r:Int)).isSome=true:=by
   rw [List.findIdx?_isSome,List.any_eq_true]
   exact ⟨(r:Int),List.mem_map.mpr ⟨r,hq',rfl⟩,by simp⟩
  obtain ⟨k,hk'⟩:=Option.isSome_iff_exists.mp hs
  obtain ⟨k1,k2,_⟩:=List.findIdx?_eq_some_iff_getElem.mp hk'
  rw [List.length_map] at k1
  have hkr:S[r][k]=r:=by
   rw [List.getElem_map,beq_iff_eq] at k2
   exact Int.ofNat_inj.mp k2
  have hst:stp S r k=r:=by
   unfold stp
   rw [hg,List.getD_eq_getElem?_getD,List.getElem?_eq_getElem k1]
   exact hkr
  have hix:eMt aKz (e2 dIx (e1 (jM "Machine" "steps") (aB 0)) (aB 2)) (aC (aB 2) (aW)) [some (.v (mD S rk c)),some (.v (.int n)),some (.v (.int r)),none,none,none] = .ok (.int k):=by
   unfold eMt
   rw [aU (show e1 (jM "Machine" "steps") (aB 0) [some (.v (mD S rk c)),some (.v (.int n)),some (.v (.int r)),none,none,none]=_ from qY) rfl (jE (wY hrl))]
   show (vQ (nats S[r])).bind _=_
   rw [show nats S[r]=(S[r].map fun (x:Nat)=>(x:Int)).map D.int by rw [List.map_map];rfl,qP,aN,hk']
   show R.bind (.ok k) _=_
   rw [aN]
   exact aG (aQ (by rw [List.length_map,List.length_map];omega))
  refine ⟨[97+k],cN rfl (fJ a1 (fJ a2 (aC1 (uT (aB3 t3 (fQ (aU rfl hix (aLj (by omega)))))))) ),⟨⟨k,by omega,rfl,by rw [hst];exact bF.mp hr,hst⟩,by simp,by rw [h1];exact Nat.le_refl _,fun g hg=>?_⟩⟩
  rw [h1,List.mem_singleton] at hg
  show g∈stp S r (97+k - 97) :: []
  rw [show 97+k - 97=k by omega,hst,hg]
  exact List.mem_cons_self
 ·rw [decide_eq_false h1] at t3
  obtain ⟨g0,hg0,hne⟩:∃ g0∈aM n,g0≠r:=Classical.byContradiction fun z=>h1 (by
   have all:∀ y∈aM n,y=r:=fun y hy=>Classical.byContradiction fun w=>z ⟨y,hy,w⟩
   have nd:=cW n
   cases hm:aM n with
   | nil=>rw [hm] at hr;cases hr
   | cons a T =>
    rw [hm] at all nd
    have ea:=all a List.mem_cons_self
    cases T with
    | nil=>rw [ea]
    | cons b T =>
     have eb:=all b (by simp)
     exact absurd (by simp [ea,eb]) (List.nodup_cons.mp nd).1)
  obtain ⟨x,h,j,x5,e,k1,k2,k3,k4,k5,_⟩:=xF M hn hL hr (aM n) [] r 0 none (fun _ z=>z) rfl hr (Nat.zero_le _) (by omega)
  obtain ⟨y,w1,w2,w3⟩:=aHl M hn hL k2 hr
  have hc:=aXh (cW n) hr
  have hxl:x.length<=((aM n).length - 1) * ((aM n).length - 1):=Nat.le_trans k3 (Nat.mul_le_mul_right _ (by omega))
  have hxn:x≠[]:=fun z=>by
   rw [z] at k5
   rcases List.mem_cons.mp (k5 g0 hg0) with z' | z'
   ·exact hne z'
   ·cases z'
  have hp:=vG k1 w2
  have hne':x++y≠[]:=fun z=>hxn (List.append_eq_nil_iff.mp z).1
  have hlen:(x++y).length<=(aM n).length * (aM n).length:=by
   obtain ⟨k,hk2⟩:∃ k,(aM n).length=k+1:=⟨(aM n).length - 1,by omega⟩
   rw [hk2,Nat.add_sub_cancel] at hxl
   rw [List.length_append,hk2,Nat.add_mul,Nat.mul_add,Nat.one_mul]
   omega
  have h64:(aM n).length * (aM n).length<=8 * 8:=Nat.mul_le_mul hk hk
  refine ⟨x++y,cN rfl (fJ a1 (fJ a2 (fJ (uT (qK t3 rfl)) (aZ (uT (cM rfl)) (aZ (st':=aPy S rk c n r [] r none) (uT (cM rfl)) (aZ (uT (iH (aAj (aY rfl hro)) e)) (uT (fQ (aU rfl (aY rfl w1) (aG (aQ (by rw [List.length_append] at hlen;omega)))))))))))),⟨hp,hne',hlen,fun g hg=>?_⟩⟩
  rcases List.mem_cons.mp (k5 g hg) with rfl | z
  ·have:=aPx (S:=S) hne' g
   rwa [yP hp] at this
  ·rw [aCl]
   exact List.mem_append_left _ z
end
end Pu
namespace Pu
section
variable{S:List (List Nat)}{rk:List Nat}{c n:Nat}{f:Nat->Nat}{q s e:Nat}
theorem Lp.later(L:Lp S f q s e){s':Nat}(h:s<=s'):Lp S f q s' (s'+(e - s)):=by
 have:=L.lt
 exact ⟨by omega,fun n hn=>by rw [show s'+(e - s) - s'=e - s by omega];exact L.per n (by omega),(L.at s' h).symm⟩
theorem Lp.window(L:Lp S f q s e){a b:Nat}(h:s<=a)(hb:a+(e - s)<=b)(r:Nat):r∈seg S f q a b ↔ r∈seg S f q s e:=by
 rw [iU,iU]
 constructor
 ·rintro ⟨n,h1,_,rfl⟩
  obtain ⟨m,a1,a2,a3⟩:=L.into n (by omega)
  exact ⟨m,a1,a2,a3.symm⟩
 ·rintro ⟨n,h1,h2,rfl⟩
  obtain ⟨m,a1,a2,a3⟩:=L.sub (L.later h) n h1
  exact ⟨m,a1,by omega,a3.symm⟩
theorem aJo(hf:∀ n,97<=f n/\(f n:Int) < 97+c){al:Nat->Bool}{m:Nat}:∀ k,(∀ j,m < j->j<=m+k->al (fw S f q j)=true)->Rch S c al (fw S f q m) (fw S f q (m+k))
 | 0,_ => .here
 | k+1,h=>by
  have ih:=aJo hf (al:=al) (m:=m) k fun j h1 h2=>h j h1 (by omega)
  have h3:=h (m+k+1) (by omega) (by omega)
  have hk:=hf (m+k)
  exact Rch.on (l:=f (m+k) - 97) ih (by omega) h3
theorem aEi(M:Mch S rk c)(hf:∀ n,97<=f n/\(f n:Int) < 97+c)(hq:q < S.length)(L:Lp S f q s e):LpN S c (cV (seg S f q s e)):=by
 have hl:=L.lt
 have mem:∀ {x},x∈aM (cV (seg S f q s e)) ↔ ∃ n,s<=n/\n < e/\fw S f q n=x:=fun {x}=>by rw [lW,iU]
 have al:∀ j,s<=j->inN (cV (seg S f q s e)) (fw S f q j)=true:=fun j hj=>by
  obtain ⟨m,a1,a2,a3⟩:=L.into j hj
  exact bF.mp (mem.mpr ⟨m,a1,a2,a3.symm⟩)
 have h0:fw S f q s∈aM (cV (seg S f q s e)):=mem.mpr ⟨s,Nat.le_refl _,hl,rfl⟩
 refine ⟨fun z=>?_,fun a ha b hb=>?_,?_⟩
 ·rw [z,bF,Nat.zero_testBit] at h0
  cases h0
 ·obtain ⟨i,i1,i2,rfl⟩:=mem.mp ha
  obtain ⟨j,j1,j2,rfl⟩:=mem.mp hb
  have:=aJo (S:=S) (q:=q) hf (al:=inN (cV (seg S f q s e))) (m:=i) (j+(e - s) - i) fun k h1 h2=>al k (by omega)
  rw [show i+(j+(e - s) - i)=j+(e - s) by omega,L.at j j1] at this
  exact this
 ·unfold roundN
  by_cases h1:1 < (aM (cV (seg S f q s e))).length
  ·rw [decide_eq_true h1];rfl
  ·have h2:fw S f q (s+1)∈aM (cV (seg S f q s e)):=bF.mpr (al (s+1) (by omega))
   have:=hf s
   cases hm:aM (cV (seg S f q s e)) with
   | nil=>rw [hm] at h0;cases h0
   | cons x T =>
    rw [hm] at h0 h1 h2
    have hT:T=[]:=by
     cases T with
     | nil=>rfl
     | cons y T=>simp at h1
    subst hT
    have e0:=List.mem_singleton.mp h0
    have e1:=List.mem_singleton.mp h2
    have:x∈S.getD x []:=(aCd M (by rw [<-e0];exact uQ M hf hq s)).mpr ⟨f s - 97,by omega,by
     have h9:stp S (fw S f q s) (f s - 97)=fw S f q (s+1):=rfl
     rw [e0,e1] at h9
     exact h9⟩
    rw [Bool.or_eq_true]
    exact .inr (decide_eq_true this)
theorem aEj(M:Mch S rk c)(hf:∀ n,97<=f n/\(f n:Int) < 97+c)(hq:q < S.length)(n:Nat):fw S f q n∈aM (dB S c (cV (List.range S.length)) q):=by
 refine bF.mpr ((lX M hq _).mpr ?_)
 have:=aJo (S:=S) (q:=q) hf (al:=fun g=>(cV (List.range S.length)).testBit g) (m:=0) n fun j _ _=>by
  show (cV (List.range S.length)).testBit _=true
  rw [jH]
  exact decide_eq_true (List.mem_range.mpr (uQ M hf hq j))
 rw [Nat.zero_add] at this
 exact this
theorem aAp:(gP S c n).Nodup:=by
 unfold gP
 have:∀ (rs ps:List Nat),ps.Nodup->(rs.foldl (fun ps r=>if eN S c n r ∉ ps/\roundN S (eN S c n r)=true then ps++[eN S c n r] else ps) ps).Nodup:=by
  intro rs
  induction rs with
  | nil=>exact fun _ h=>h
  | cons r rs ih =>
   intro ps h
   refine ih _ ?_
   dsimp only
   by_cases hc:eN S c n r ∉ ps/\roundN S (eN S c n r)=true
   ·rw [if_pos hc]
    exact List.nodup_append.mpr ⟨h,by simp,fun a ha b hb=>by rw [List.mem_singleton.mp hb];exact fun z=>hc.1 (z ▸ ha)⟩
   ·rw [if_neg hc];exact h
 exact this _ _ List.nodup_nil
theorem aCm{p:Nat->Bool}{x:Nat}:∀ {l:List Nat},l.Nodup->x∈l->(∀ y∈l,p y=true ↔ y=x)->l.filter p=[x]
 | [],_,h,_=>nomatch h
 | a :: l,nd,hx,h=>by
  have nd':=List.nodup_cons.mp nd
  by_cases e:a=x
  ·subst e
   rw [List.filter_cons_of_pos ((h a List.mem_cons_self).mpr rfl),List.filter_eq_nil_iff.mpr fun y hy hq=>?_]
   have:=(h y (List.mem_cons_of_mem _ hy)).mp hq
   rw [this] at hy
   exact nd'.1 hy
  ·rw [List.filter_cons_of_neg fun z=>e ((h a List.mem_cons_self).mp z)]
   exact aCm nd'.2 ((List.mem_cons.mp hx).resolve_left fun z=>e z.symm) fun y hy=>h y (List.mem_cons_of_mem _ hy)
theorem aSu{a b:Nat}:0 < a &&& b ↔ ∃ g,a.testBit g=true/\b.testBit g=true:=by
 constructor
 ·intro h
  obtain ⟨g,hg⟩:=Nat.exists_testBit_of_ne_zero (Nat.pos_iff_ne_zero.mp h)
  rw [Nat.testBit_and,Bool.and_eq_true] at hg
  exact ⟨g,hg⟩
 ·rintro ⟨g,h1,h2⟩
  refine Nat.pos_of_ne_zero fun z=>?_
  have:(a &&& b).testBit g=true:=by rw [Nat.testBit_and,h1,h2];rfl
  rw [z,Nat.zero_testBit] at this
  cases this
theorem aHm(M:Mch S rk c)(hn:n < 2 ^ S.length){m:Nat}(hm:LpN S c m)(hs:∀ g∈aM m,g∈aM n):∃ p,(gP S c n).filter (fun y=>decide (0 < y &&& m))=[p]/\p ||| m=p:=by
 obtain ⟨r,hr⟩:∃ r,r∈aM m:=by
  cases h:aM m with
  | nil=>exact (hm.1 (by have:=fV m;rw [h] at this;exact this.symm)).elim
  | cons r T=>exact ⟨r,List.mem_cons_self⟩
 have sub:=aSm M hn hm hs hr
 have hrl:=cF hn (hs r hr)
 refine ⟨eN S c n r,aCm aAp (vD.mpr ⟨r,hs r hr,rfl,aPv hm sub⟩) fun y hy=>?_,aXb.mpr sub⟩
 rw [decide_eq_true_eq,aSu]
 constructor
 ·rintro ⟨g,h1,h2⟩
  obtain ⟨x,hx,rfl,_⟩:=vD.mp hy
  have gx:=(oF M (cF hn hx)).mp h1
  have gr:=(oF M hrl).mp (bF.mp (sub g (bF.mpr h2)))
  rw [<-aHg M (cF hn hx) gx,aHg M hrl gr]
 ·rintro rfl
  exact ⟨r,bF.mp (aPo M hn (hs r hr)),bF.mp hr⟩
end
end Pu
namespace Pu
theorem aSv{op:D->R D}{f:Ex}{st:PSt}{x:D}{z:R D}(h:f st = .ok x)(ho:op x=z):e1 op f st=z:=by
 show (f st).bind op=_
 rw [h]
 exact ho
theorem aJp{f:Ex}{st:PSt}{w:List Nat}(h:f st = .ok (.str w))(hl:w.length<=1000000):itE f st = .ok (w.map fun c => .str [c]):=by
 rw [aOw,h,aN]
 exact aG (aQ (Nat.le_trans hl (by decide)))
theorem aSw{l:List Nat}(nd:l.Nodup):aFg (l.map fun (x:Nat)=>(x:Int))=(aM (cV l)).map fun (x:Nat)=>(x:Int):=by
 have np:(aM (cV l)).Pairwise (· < ·):=List.Pairwise.filter _ List.pairwise_lt_range
 have perm:l.Perm (aM (cV l)):=(List.perm_ext_iff_of_nodup nd (cW _)).mpr fun a=>lW.symm
 exact List.Perm.eq_of_pairwise (le:=(· <= ·)) (fun a b _ _ h1 h2=>Int.le_antisymm h1 h2) (aGw _) (List.Pairwise.map _ (fun a b h=>by omega) np) ((aBy _).trans (perm.map _))
theorem aEk(l:List Nat):nats l=(l.map fun (x:Nat)=>(x:Int)).map D.int:=by rw [List.map_map];rfl
theorem aSx{l:List Nat}{vs:List D}(nd:l.Nodup)(hl:l.length < 64):aL0 (.dct false (nats l) vs) = .ok (.lst (nats (aM (cV l)))):=by
 rw [aEk (aM _),<-aSw nd,aEk l]
 show (vQ _).bind _=_
 rw [qP,aN]
 exact aG (by rw [List.length_map];exact hl)
def rgs(S:List (List Nat))(r:Nat)(x2 x3 x4 x5 x6:Option Sl):PSt:=[some (.v (.lst (stD S))),some (.v (.int r)),x2,x3,x4,x5,x6]
section
variable{S:List (List Nat)}{rk:List Nat}{c:Nat}{f:Nat->Nat}{q:Nat}{x2 x3 x5 x6:Option Sl}
theorem aPz(M:Mch S rk c){r ch:Nat}(hr:r < S.length)(h1:97<=ch)(h2:(ch:Int) < 97+c):(e2 dIx (e2 dIx (aB 0) (aB 1)) (eMt uB (eC (.str [97,98,99])) (aC (aB 4) (aW)))) (rgs S r x2 x3 (some (.v (.str [ch]))) x5 x6) = .ok (.int (stp S r (ch - 97):Nat)):=by
 obtain ⟨w,e1',e2',_⟩:=aFj M hr h1 h2
 refine aU (aU rfl rfl (jE e1')) ?_ (jE e2')
 show (ofO (gM [97,98,99] [ch] 0)).bind _=_
 rw [aH5 M.c3 h1 h2]
 rfl
theorem aA3(M:Mch S rk c)(hf:∀ n,97<=f n/\(f n:Int) < 97+c)(hq:q < S.length){L:Bd}(hL:∀ r ch:Nat,r < S.length->97<=ch->(ch:Int) < 97+c->L (rgs S r x2 x3 (some (.v (.str [ch]))) x5 x6) = .ok (.nx (rgs S (stp S r (ch - 97)) x2 x3 (some (.v (.str [ch]))) x5 x6))) :
  ∀ (x:List Nat) (n:Nat) (x4:Option Sl),(∀ i,i < x.length->x.getD i 0=f (n+i))->∃ y4,forR (tgN 4) L (x.map fun ch=>D.str [ch]) (rgs S (fw S f q n) x2 x3 x4 x5 x6) = .ok (.nx (rgs S (fw S f q (n+x.length)) x2 x3 y4 x5 x6))
 | [],n,x4,_=>⟨x4,rfl⟩
 | ch :: x,n,x4,h=>by
  have h0:ch=f n:=by have:=h 0 (by simp);simpa using this
  obtain ⟨a1,a2⟩:=hf n
  rw [<-h0] at a1 a2
  have hl:=hL (fw S f q n) ch (uQ M hf hq n) a1 a2
  have es:stp S (fw S f q n) (ch - 97)=fw S f q (n+1):=by rw [h0];rfl
  rw [es] at hl
  obtain ⟨y4,e⟩:=aA3 M hf hq hL x (n+1) (some (.v (.str [ch]))) fun i hi=>by
   have:=h (i+1) (by simp;omega)
   rw [show n+1+i=n+(i+1) by omega,<-this]
   simp
  rw [List.length_cons,show n+(x.length+1)=n+1+x.length by omega]
  exact ⟨y4,qL rfl hl e⟩
theorem aCn(M:Mch S rk c)(hf:∀ n,97<=f n/\(f n:Int) < 97+c)(hq:q < S.length){t:List Nat}{b:Nat}(hx:x3=some (.v (.str t)))(tl:t.length<=1000000)(ht:∀ j i,i < t.length->t.getD i 0=f (b+j * t.length+i)) :
  ∀ (ks:List D) (j:Nat) (x4 x5:Option Sl),∃ y4 y5,forR (tgN 5) vW ks (rgs S (fw S f q (b+j * t.length)) x2 x3 x4 x5 x6) = .ok (.nx (rgs S (fw S f q (b+(j+ks.length) * t.length)) x2 x3 y4 y5 x6))
 | [],j,x4,x5=>⟨x4,x5,rfl⟩
 | k :: ks,j,x4,x5=>by
  obtain ⟨y4,e⟩:=aA3 (x2:=x2) (x3:=x3) (x5:=some (.v k)) (x6:=x6) M hf hq (L:=vV) (fun r ch h1 h2 h3=>cM (aPz M h1 h2 h3)) t (b+j * t.length) x4 (ht j)
  rw [show b+j * t.length+t.length=b+(j+1) * t.length by rw [Nat.succ_mul];omega] at e
  obtain ⟨z4,z5,e2'⟩:=aCn M hf hq hx tl ht ks (j+1) y4 (some (.v k))
  rw [List.length_cons,show j+(ks.length+1)=j+1+ks.length by omega]
  exact ⟨z4,z5,qL rfl (iH (aJp (by subst hx;rfl) tl) e) e2'⟩
structure Met(S:List (List Nat))(l:List Nat)(vs:List D):Prop where
 len:vs.length=l.length
 nd:l.Nodup
 lt:∀ r∈l,r < S.length
abbrev aDk(l:List Nat)(vs:List D):Option Sl:=some (.o (.d false (nats l)) vs)
theorem aSy(M:Mch S rk c){l:List Nat}{vs:List D}(m:Met S l vs){r:Nat}(hr:r < S.length){x4:Option Sl}:∃ l' vs',sDPut 6 (aB 1) (eC (.bl true)) (rgs S r x2 x3 x4 x5 (aDk l vs)) = .ok (.nx (rgs S r x2 x3 x4 x5 (aDk l' vs')))/\Met S l' vs'/\∀ g,g∈l' ↔ g∈l\/g=r:=by
 have h8:=M.most
 have hl:=fU S.length l m.nd m.lt
 have e:=aFn (i:=6) (g:=aB 1) (f:=eC (.bl true)) (st:=rgs S r x2 x3 x4 x5 (aDk l vs)) (k := .int r) (d := .bl true) (ks:=nats l) (vs:=vs) rfl rfl rfl rfl (by rw [m.len];omega)
 by_cases h:r∈l
 ·have hk:lA (nats l) (.int r)=nats l:=by unfold lA;rw [rA,decide_eq_true h];rfl
  rw [hk] at e
  refine ⟨l,_,e,⟨?_,m.nd,m.lt⟩,fun g=>⟨.inl,fun z=>z.elim id fun z=>z ▸ h⟩⟩
  unfold oR
  rw [rA,decide_eq_true h,if_pos rfl,List.length_map,List.length_zip,bQ,m.len,Nat.min_self]
 ·have hk:lA (nats l) (.int r)=nats (l++[r]):=by unfold lA;rw [rA,decide_eq_false h,aCe];rfl
  rw [hk] at e
  refine ⟨l++[r],_,e,⟨?_,List.nodup_append.mpr ⟨m.nd,by simp,fun a ha b hb=>by rw [List.mem_singleton.mp hb];exact fun z=>h (z ▸ ha)⟩,fun g hg=>(List.mem_append.mp hg).elim (m.lt g) fun z=>by rw [List.mem_singleton.mp z];exact hr⟩,fun g=>by rw [List.mem_append,List.mem_singleton]⟩
  unfold oR
  rw [rA,decide_eq_false h,if_neg Bool.false_ne_true,List.length_append,List.length_append,m.len]
  rfl
theorem aHn(M:Mch S rk c)(hf:∀ n,97<=f n/\(f n:Int) < 97+c)(hq:q < S.length) :
  ∀ (x:List Nat) (n:Nat) (x4:Option Sl) (l:List Nat) (vs:List D),Met S l vs->(∀ i,i < x.length->x.getD i 0=f (n+i))->∃ y4 l' vs',forR (tgN 4) vX (x.map fun ch=>D.str [ch]) (rgs S (fw S f q n) x2 x3 x4 x5 (aDk l vs)) = .ok (.nx (rgs S (fw S f q (n+x.length)) x2 x3 y4 x5 (aDk l' vs')))/\Met S l' vs'/\∀ g,g∈l' ↔ g∈l\/g∈seg S f q (n+1) (n+1+x.length)
 | [],n,x4,l,vs,m,_=>⟨x4,l,vs,rfl,m,fun g=>⟨.inl,fun z=>z.elim id fun z=>by simp only [List.length_nil,Nat.add_zero,aB9] at z;cases z⟩⟩
 | ch :: x,n,x4,l,vs,m,h=>by
  have h0:ch=f n:=by have:=h 0 (by simp);simpa using this
  obtain ⟨a1,a2⟩:=hf n
  rw [<-h0] at a1 a2
  have es:stp S (fw S f q n) (ch - 97)=fw S f q (n+1):=by rw [h0];rfl
  have hg:=aPz (x2:=x2) (x3:=x3) (x5:=x5) (x6:=aDk l vs) M (uQ M hf hq n) a1 a2
  rw [es] at hg
  obtain ⟨l1,vs1,e1',m1,g1⟩:=aSy (x2:=x2) (x3:=x3) (x5:=x5) (x4:=some (.v (.str [ch]))) M m (uQ M hf hq (n+1))
  obtain ⟨y4,l2,vs2,e2',m2,g2⟩:=aHn M hf hq x (n+1) (some (.v (.str [ch]))) l1 vs1 m1 fun i hi=>by
   have:=h (i+1) (by simp;omega)
   rw [show n+1+i=n+(i+1) by omega,<-this]
   simp
  rw [List.length_cons,show n+(x.length+1)=n+1+x.length by omega]
  refine ⟨y4,l2,vs2,qL rfl (aZ (cM hg) e1') e2',m2,fun g=>?_⟩
  rw [g2,g1,show n+1+(x.length+1)=n+1+1+x.length by omega,uP (s:=n+1) (by omega),List.mem_cons]
  constructor
  ·rintro ((z | z) | z)
   ·exact .inl z
   ·exact .inr (.inl z)
   ·exact .inr (.inr z)
  ·rintro (z | z | z)
   ·exact .inl (.inl z)
   ·exact .inl (.inr z)
   ·exact .inr z
theorem aEm(M:Mch S rk c)(hf:∀ n,97<=f n/\(f n:Int) < 97+c)(hq:q < S.length){t:List Nat}{b:Nat}(hx:x3=some (.v (.str t)))(tl:t.length<=1000000)(ht:∀ j i,i < t.length->t.getD i 0=f (b+j * t.length+i)) :
  ∀ (ks:List D) (j:Nat) (x4 x5:Option Sl) (l:List Nat) (vs:List D),Met S l vs->∃ y4 y5 l' vs',forR (tgN 5) vY ks (rgs S (fw S f q (b+j * t.length)) x2 x3 x4 x5 (aDk l vs)) = .ok (.nx (rgs S (fw S f q (b+(j+ks.length) * t.length)) x2 x3 y4 y5 (aDk l' vs')))/\Met S l' vs'/\∀ g,g∈l' ↔ g∈l\/g∈seg S f q (b+j * t.length+1) (b+(j+ks.length) * t.length+1)
 | [],j,x4,x5,l,vs,m=>⟨x4,x5,l,vs,rfl,m,fun g=>⟨.inl,fun z=>z.elim id fun z=>by simp only [List.length_nil,Nat.add_zero,aB9] at z;cases z⟩⟩
 | k :: ks,j,x4,x5,l,vs,m=>by
  obtain ⟨y4,l1,vs1,e1',m1,g1⟩:=aHn (x2:=x2) (x3:=x3) (x5:=some (.v k)) M hf hq t (b+j * t.length) x4 l vs m (ht j)
  have ej:b+j * t.length+t.length=b+(j+1) * t.length:=by rw [Nat.succ_mul];omega
  rw [ej] at e1'
  obtain ⟨z4,z5,l2,vs2,e2',m2,g2⟩:=aEm M hf hq hx tl ht ks (j+1) y4 (some (.v k)) l1 vs1 m1
  rw [List.length_cons,show j+(ks.length+1)=j+1+ks.length by omega]
  refine ⟨z4,z5,l2,vs2,qL rfl (iH (aJp (by subst hx;rfl) tl) e1') e2',m2,fun g=>?_⟩
  have:(j+1) * t.length<=(j+1+ks.length) * t.length:=Nat.mul_le_mul_right _ (by omega)
  rw [g2,g1,<-yL (s:=b+j * t.length+1) (m:=b+(j+1) * t.length+1) (e:=b+(j+1+ks.length) * t.length+1) (by omega) (by omega),List.mem_append,show b+j * t.length+1+t.length=b+(j+1) * t.length+1 by omega]
  constructor
  ·rintro ((z | z) | z)
   ·exact .inl z
   ·exact .inr (.inl z)
   ·exact .inr (.inr z)
  ·rintro (z | z | z)
   ·exact .inl (.inl z)
   ·exact .inl (.inr z)
   ·exact .inr z
theorem aFs(M:Mch S rk c)(hq:q < S.length){b t:List Nat}(lb:Ltr c b)(l2:Ltr c t)(t1:1<=t.length)(tl:t.length<=10000)(bl:b.length<=10000):∃ s e,Lp S (lt b t) q s e/\jR [.lst (stD S),.int q,.str b,.str t] = .ok (.lst (nats (aM (cV (seg S (lt b t) q s e))))):=by
 have hf:=aC7 lb l2 t1
 have h8:=M.most
 obtain ⟨J,hJ,⟨i,hi,ei⟩,_⟩:=aAl (fun i=>fw S (lt b t) q (b.length+i * t.length)) S.length fun i=>uQ M hf hq _
 have L:=aL6 t1 hi ei
 have ht:∀ j i,i < t.length->t.getD i 0=lt b t (b.length+j * t.length+i):=fun j i h=>aJc j h
 obtain ⟨y4,e1'⟩:=aA3 (x2:=some (.v (.str b))) (x3:=some (.v (.str t))) (x5:=none) (x6:=none) M hf hq (L:=vU) (fun r ch h1 h2 h3=>cM (aPz M h1 h2 h3)) b 0 none fun i h=>aPd h
 obtain ⟨z4,z5,e2'⟩:=aCn (x2:=some (.v (.str b))) (x3:=some (.v (.str t))) (x6:=none) M hf hq rfl (by omega) ht (nats (List.range S.length)) 0 y4 none
 obtain ⟨w4,w5,l,vs,e3',m3,g3⟩:=aEm (x2:=some (.v (.str b))) (x3:=some (.v (.str t))) M hf hq rfl (by omega) ht (nats (List.range S.length)) S.length z4 z5 [] [] ⟨rfl,List.nodup_nil,fun _ h=>nomatch h⟩
 rw [bQ,List.length_range] at e2' e3' g3
 rw [Nat.zero_add] at e1'
 rw [Nat.zero_add,Nat.zero_mul,Nat.add_zero] at e2'
 have hll:=fU S.length l m3.nd m3.lt
 refine ⟨_,_,L,?_⟩
 have hm1:i * t.length<=S.length * t.length:=Nat.mul_le_mul_right _ (by omega)
 have hm2:J * t.length<=S.length * t.length:=Nat.mul_le_mul_right _ hJ
 have eset:cV (seg S (lt b t) q (b.length+i * t.length) (b.length+J * t.length))=cV l:=aFk fun r=>by
  rw [g3,<-L.window (a:=b.length+S.length * t.length+1) (b:=b.length+(S.length+S.length) * t.length+1) (by omega) (by rw [Nat.add_mul];omega)]
  exact ⟨.inr,fun z=>z.elim (fun z=>nomatch z) id⟩
 rw [eset]
 have rn:∀ x1 x2 x3 x4 x5,tQ (e1 dR (aB 0)) (rgs S x1 x2 x3 x4 x5 none) = .ok (nats (List.range S.length)):=fun x1 x2 x3 x4 x5=>aH0 (by show R.ok (D.int (((stD S).length:Nat):Int))=_;rw [fM]) (by omega)
 have rn':∀ x1 x2 x3 x4 x5,tQ (e1 dR (aB 0)) (rgs S x1 x2 x3 x4 x5 (aDk [] [])) = .ok (nats (List.range S.length)):=fun x1 x2 x3 x4 x5=>aH0 (by show R.ok (D.int (((stD S).length:Nat):Int))=_;rw [fM]) (by omega)
 refine cN rfl (aZ (iH (aJp rfl (by omega)) e1') (aZ (iH (rn _ _ _ _ _) e2') (aZ (st':=rgs S (fw S (lt b t) q (b.length+S.length * t.length)) (some (.v (.str b))) (some (.v (.str t))) z4 z5 (aDk [] [])) rfl (aZ (iH (rn' _ _ _ _ _) e3') ?_))))
 exact fQ (aSv rfl (aSx m3.nd (by omega)))
end
end Pu
namespace Pu
theorem neB(p:Bool):dNe (.bl p) (.bl p) = .ok (.bl false):=by
 have:dNe (.bl p) (.bl p) = .ok (.bl (!(p==p))):=aG ⟨Nat.zero_le 64,rfl,rfl⟩
 rw [this];cases p<;>rfl
theorem eqB(p:Bool):dEq (.bl p) (.bl p) = .ok (.bl true):=by
 have:dEq (.bl p) (.bl p) = .ok (.bl (p==p)):=aG ⟨Nat.zero_le 64,rfl,rfl⟩
 rw [this];cases p<;>rfl
theorem aXi(a b:Nat):dOr (.int a) (.int b) = .ok (.int ((a ||| b:Nat):Int)):=by
 have:dOr (.int (a:Int)) (.int (b:Int)) = .ok (.int (((a:Int).toNat ||| (b:Int).toNat:Nat):Int)):=aG ⟨by omega,by omega⟩
 rw [this,Int.toNat_natCast,Int.toNat_natCast]
theorem neL(l:List Nat):dNe (.lst (nats l)) (.lst (nats l)) = .ok (.bl false):=by
 obtain ⟨p1,p2,_⟩:=eY l
 have:=aBc l l
 simp [p1,p2,this]
theorem aFt{p:List D->R D}{ds:List D}{d:D}(h:p ds = .ok d):pNX p ds = .ok d:=by
 show (p ds).nox=_
 rw [h];rfl
theorem aQ0{p:List D->R D}{r:Exs}{st:PSt}{ds:List D}{x:R D}(h:r st = .ok ds)(hp:p ds=x):zU p r st=x:=by
 show (r st).nox.bind p=_
 rw [h]
 exact hp
theorem aLk{r:Exs}{st:PSt}{a b:D}(h:r st = .ok [a,b]):aJ3 r st = .ok (.tup [a,b]):=by
 show (r st).bind _=_
 rw [h]
 exact aG (aQ (show 2<=10000000 by decide))
theorem aHo{k:Nat}{tg:Tg}{C f:Ex}{st:PSt}:∀ ds:List D,(∀ d∈ds,∃ s1 c,tg d st = .ok s1/\C s1 = .ok (.bl true)/\f s1 = .ok (.str [c])/\97<=c/\c < 97+k)->∃ l:List Nat,nP tg C f st ds = .ok (l.map fun c=>D.str [c])/\l.length=ds.length/\Ltr (k:Int) l
 | [],_=>⟨[],rfl,rfl,fun _ h=>nomatch h⟩
 | d :: ds,h=>by
  obtain ⟨s1,c,e1',e2',e3,h1,h2⟩:=h d List.mem_cons_self
  obtain ⟨l,e,hl,ht⟩:=aHo (k:=k) ds fun d hd=>h d (List.mem_cons_of_mem _ hd)
  refine ⟨c :: l,?_,by simp [hl],fun z hz=>?_⟩
  ·rw [rM,e1',aN,e2',aN,qD,if_pos rfl,e3,aN,e]
   rfl
  ·rcases List.mem_cons.mp hz with rfl | hz
   ·exact ⟨h1,by omega⟩
   ·exact ht z hz
theorem aQ1{f:Ex}{st:PSt}{l:List Nat}(h:f st = .ok (.lst (l.map fun c=>D.str [c])))(hl:l.length<=1000000):eMt aE2 (eC (.str [])) (aC f aW) st = .ok (.str l):=by
 show ((aC f aW) st).bind _=_
 rw [bH h rfl]
 exact aS9 l hl
theorem aLl{k:Nat}(hk:1<=k)(hk3:k<=3)(cell:Int){lo mo:Nat}(h:lo<=mo)(hm:mo<=1000):∃ w:List Nat,mX [.int cell,.int k,.int lo,.int mo] = .ok (.str w)/\lo<=w.length/\w.length<=mo/\Ltr (k:Int) w:=by
 have m1:=gY cell 31 ((mo:Int) - lo+1) (by omega)
 obtain ⟨b0,b1⟩:=lF cell 31 (m:=(mo:Int) - lo+1) (by omega)
 obtain ⟨n,hn⟩:∃ n:Nat,(lo:Int)+pC cell 31 ((mo:Int) - lo+1)=(n:Int):=⟨((lo:Int)+pC cell 31 ((mo:Int) - lo+1)).toNat,by omega⟩
 obtain ⟨l,e,hl,ht⟩:=aHo (k:=k) (tg:=tgN 5) (C:=fH) (f:=vR) (st:=[some (.v (.int cell)),some (.v (.int k)),some (.v (.int lo)),some (.v (.int mo)),some (.v (.int n)),none]) ((List.range n).map fun (i:Nat)=>D.int (i:Int)) (fun d hd=>by
  obtain ⟨i,_,rfl⟩:=List.mem_map.mp hd
  have h5:=Int.emod_nonneg (i:Int) (show (5:Int)≠0 by decide)
  have h6:=Int.emod_lt_of_pos (i:Int) (show (0:Int) < 5 by decide)
  have m2:=gY (cell / ((i:Int) % 5+1)) (32+i) k (by omega)
  obtain ⟨p0,p1⟩:=lF (cell / ((i:Int) % 5+1)) (32+i) (m:=(k:Int)) (by omega)
  obtain ⟨p,hp⟩:∃ p:Nat,pC (cell / ((i:Int) % 5+1)) (32+i) k=(p:Int):=⟨(pC (cell / ((i:Int) % 5+1)) (32+i) k).toNat,by omega⟩
  rw [hp] at m2 p1
  exact ⟨_,97+p,rfl,rfl,aU rfl (aY (bH (aU rfl (aU (aU rfl rfl (uN (by decide))) rfl rfl) (aB6 ⟨by omega,by omega⟩)) (bH (aU rfl rfl rfl) (bH rfl rfl))) m2) (aLj (by omega)),by omega,by omega⟩)
 rw [List.length_map,List.length_range] at hl
 refine ⟨l,cN rfl (aZ (cM (aU rfl (aY (bH rfl (bH rfl (bH (aU (aU rfl rfl rfl) rfl rfl) rfl))) m1) rfl)) ?_),by omega,by omega,ht⟩
 rw [show (D.int ((lo:Int)+pC cell 31 ((mo:Int) - lo+1)))=D.int (n:Int) by rw [hn]]
 exact fQ (aQ1 (vA (aH0 rfl (by omega)) (by simp;omega) e) (by omega))
section
variable{S:List (List Nat)}{rk:List Nat}{c n:Nat}{q:Nat}
theorem aNa{p:List D->R D}{xs:List D}{f:Ex}{e:Exs}{st:PSt}{z:R D}(hf:f st = .ok (mD S rk c))(hr:e st = .ok xs)(h:p (mD S rk c :: xs)=z):qO "Machine" "lets" p [] f e st=z:=by
 rw [aBu,hf,hr]
 show aH _ (p (mD S rk c :: (xs++[])))=_
 rw [List.append_nil,<-h]
 exact aG ⟨rfl,by decide⟩
theorem aXj{f:Nat->Nat}{s e:Nat}(L:Lp S f q s e):aM (cV (seg S f q s e))≠[]:=fun z=>by
 have:fw S f q s∈aM (cV (seg S f q s e)):=lW.mpr (iU.mpr ⟨s,Nat.le_refl _,L.lt,rfl⟩)
 rw [z] at this
 cases this
theorem aLm{f:Nat->Nat}{s e:Nat}{v:Bool}(L:Lp S f q s e)(h:Ev S rk f q v):v=decide (mx rk (aM (cV (seg S f q s e))) % 2=0):=by
 rw [h.alone ⟨s,e,L,rfl⟩,aL5 (l2:=aM (cV (seg S f q s e))) (aJa L.lt) fun r=>lW.symm]
theorem aXk{f:Nat->Nat}{s e:Nat}(M:Mch S rk c)(hf:∀ n,97<=f n/\(f n:Int) < 97+c)(hq:q < S.length):cV (seg S f q s e) < 2 ^ S.length:=aBb fun r hr=>by
 obtain ⟨n,_,_,rfl⟩:=iU.mp hr
 exact uQ M hf hq n
theorem aLn(hn:n < 2 ^ S.length):(aM n).length<=S.length:=fU S.length _ (cW _) fun x hx=>cF hn hx
theorem aNb(M:Mch S rk c)(hq:q < S.length){b t:List Nat}(lb:Ltr c b)(l2:Ltr c t)(t1:1<=t.length)(tl:t.length<=10000)(bl:b.length<=10000):iR [mD S rk c,.lst (stD S),.lst (nats rk),.int q,.tup [.str b,.str t]] = .ok (.bl true):=by
 obtain ⟨s,e,L,hr⟩:=aFs M hq lb l2 t1 tl bl
 have hf:=aC7 lb l2 t1
 have h8:=M.most
 have hB:=aXk (s:=s) (e:=e) M hf hq
 have hL:=aEi M hf hq L
 have hne:=aXj L
 obtain ⟨v,hv,hlet⟩:=aL7 M hq lb l2 t1 tl bl
 have ev:=aLm L hv
 have hsub:∀ g∈aM (cV (seg S (lt b t) q s e)),g∈aM (dB S c (cV (List.range S.length)) q):=fun g hg=>by
  obtain ⟨n,_,_,rfl⟩:=iU.mp (lW.mp hg)
  exact aEj M hf hq n
 obtain ⟨p,hp,hpo⟩:=aHm M nD hL hsub
 generalize cV (seg S (lt b t) q s e)=B at hr hB hL hne ev hp hpo
 have hml:=aLn hB
 have hb:=aBa (l:=aM B) (fun r hr=>by have:=cF hB hr;omega) (by omega)
 rw [fV] at hb
 have hil:=aCi M hB
 rw [decide_eq_true ((aEh M hB).mpr hL)] at hil
 have hg:=aLg M hB hL.1
 have hin:∀ r∈aM B,r < rk.length:=fun r hr=>by rw [M.rks];exact cF hB hr
 have hmx:∀ x6 x7 x8 x9,e1 xY (dU [10] (tgN 10) (itE (aB 5)) fH oU) [some (.v (mD S rk c)),some (.v (.lst (stD S))),some (.v (.lst (nats rk))),some (.v (.int q)),some (.v (.tup [.str b,.str t])),some (.v (.lst (nats (aM B)))),x6,x7,x8,x9,none] = .ok (.int (mx rk (aM B))):=fun x6 x7 x8 x9=>by
  refine aSv (vA (aAj rfl) (by rw [bQ];omega) (oH (rkD rk) _ fun d hd=>by
   obtain ⟨r,hr,rfl⟩:=qX hd
   exact ⟨_,rfl,rfl,aU rfl rfl (jE (aUv (hin r hr)))⟩)) (aPe hne)
 have hq':=aHj M hq
 have hpa:=aCh M (n:=dB S c (cV (List.range S.length)) q) nD
 have hcomp:∀ x7 x8:Option Sl,dU [9] (tgN 9) (itE (aX dY (aC (aB 0) (aC (aX iB (aC (aB 0) (aC (aB 3) (aW)))) (aW))))) (jP) (jO) [some (.v (mD S rk c)),some (.v (.lst (stD S))),some (.v (.lst (nats rk))),some (.v (.int q)),some (.v (.tup [.str b,.str t])),some (.v (.lst (nats (aM B)))),some (.v (.int B)),x7,x8,none,none] = .ok (.lst (nats [p])):=fun x7 x8=>by
  have hlen:(gP S c (dB S c (cV (List.range S.length)) q)).length<=1000000:=by
   have:=fU (2 ^ S.length) _ (aAp (S:=S) (c:=c) (n:=dB S c (cV (List.range S.length)) q)) fun x hx=>by
    obtain ⟨r,_,rfl,_⟩:=vD.mp hx
    exact aLf
   have:=aFp M
   omega
  refine vA (xs:=nats (gP S c (dB S c (cV (List.range S.length)) q))) (aAj (aY (bH rfl (bH (aY rfl hq') rfl)) hpa)) (by rw [bQ];exact hlen) ?_
  have:=qZ (tg:=tgN 9) (C:=jP) (E:=jO) (st:=[some (.v (mD S rk c)),some (.v (.lst (stD S))),some (.v (.lst (nats rk))),some (.v (.int q)),some (.v (.tup [.str b,.str t])),some (.v (.lst (nats (aM B)))),some (.v (.int B)),x7,x8,none,none]) (q:=fun y=>decide (0 < y &&& B)) (G:=fun k=>D.int (k:Nat)) (gP S c (dB S c (cV (List.range S.length)) q)) fun k _=>⟨_,rfl,aU (aU rfl rfl (aLc k B)) rfl (by
   show R.ok (D.bl (decide (((k &&& B:Nat):Int) > 0)))=_
   rw [show decide (((k &&& B:Nat):Int) > 0)=decide (0 < k &&& B) from decide_eq_decide.mpr (by omega)]),rfl⟩
  rw [hp] at this
  exact this
 refine cN rfl (aZ (cM (aY (bH rfl (bH rfl (bH (aU rfl rfl rfl) (bH (aU rfl rfl rfl) rfl)))) hr)) ?_)
 refine aZ (cM (aY rfl hb)) ?_
 refine aZ (cM (aU (aU (hmx _ _ _ _) rfl (uN (by decide))) rfl (uO _ _))) ?_
 refine aZ (qK (aGz (p:=false) (q:=false) (rZ (p:=true) (aY rfl hil)) fun _=>aGz (p:=false) (q:=false) (aU (aY rfl (aFt hg)) rfl (neB _)) fun _=>aU (aNa rfl rfl (aFt hlet)) rfl (by rw [ev];exact neB _)) rfl) ?_
 refine aZ (cM (hcomp _ _)) ?_
 refine fQ (wX (p:=true) (q:=true) (aU rfl rfl (uO _ _)) fun _=>aU (aU (aU rfl rfl rfl) rfl (aXi p B)) (aU rfl rfl rfl) ?_)
 rw [hpo]
 exact (uO _ _).trans (by rw [decide_eq_true rfl])
theorem aLo{f:Nat->Nat}:∀ (x:List Nat) (n:Nat),(∀ i,i < x.length->x.getD i 0=f (n+i))->lE S (fw S f q n) x=fw S f q (n+x.length)
 | [],_,_=>rfl
 | ch :: x,n,h=>by
  have h0:ch=f n:=by have:=h 0 (by simp);simpa using this
  have:=aLo (f:=f) x (n+1) fun i hi=>by
   have:=h (i+1) (by simp;omega)
   rw [show n+1+i=n+(i+1) by omega,<-this]
   simp
  rw [List.length_cons,show n+(x.length+1)=n+1+x.length by omega,<-this]
  show lE S (stp S (fw S f q n) (ch - 97)) x=lE S (fw S f q (n+1)) x
  rw [h0]
  rfl
theorem aNc{r s e:Nat}{u:List Nat}(Q:Rnd S c n r u)(L:Lp S (lt [] u) r s e):cV (seg S (lt [] u) r s e)=n:=by
 have u1:1<=u.length:=by
  cases hu:u with
  | nil=>exact (Q.ne hu).elim
  | cons a T=>simp
 have hu:∀ i,i < u.length->u.getD i 0=lt [] u (0+i):=fun i hi=>by
  have:=aJc (b:=[]) (t:=u) 0 hi
  rw [Nat.zero_mul,List.length_nil] at this
  exact this
 have e0:=aLo (S:=S) (q:=r) u 0 hu
 rw [Nat.zero_add] at e0
 have e1':lE S r u=r:=yP Q.pat
 have L0:Lp S (lt [] u) r 0 u.length:=⟨by omega,fun n _=>by
  have:=aB8 (b:=[]) (t:=u) (n:=n) (Nat.zero_le _) 1
  rw [Nat.one_mul] at this
  exact this,by rw [<-e0];exact e1'.symm⟩
 have er:=aC8 (S:=S) (q:=r) u 0 hu
 refine (aFk (l':=aM n) fun g=>?_).trans (fV n)
 have w1:g∈seg S (lt [] u) r s e ↔ g∈seg S (lt [] u) r 0 u.length:=by
  rw [iU,iU]
  constructor
  ·rintro ⟨m,h1,h2,rfl⟩
   obtain ⟨m',a1,a2,a3⟩:=L.sub L0 m h1
   exact ⟨m',a1,a2,a3.symm⟩
  ·rintro ⟨m,h1,h2,rfl⟩
   obtain ⟨m',a1,a2,a3⟩:=L0.sub L m h1
   exact ⟨m',a1,a2,a3.symm⟩
 rw [w1,<-L0.window (a:=0+1) (b:=0+1+u.length) (by omega) (by omega),<-er]
 exact ⟨fun h=>bF.mpr (aHk Q.pat g h),fun h=>Q.all g h⟩
theorem aJq(M:Mch S rk c)(hn:n < 2 ^ S.length)(hL:LpN S c n):gW [mD S rk c,.lst (stD S),.int n] = .ok (.bl true):=by
 have h8:=M.most
 obtain ⟨r,T,hm⟩:∃ r T,aM n=r :: T:=by
  cases h:aM n with
  | nil=>exact (hL.1 (by have:=fV n;rw [h] at this;exact this.symm)).elim
  | cons r T=>exact ⟨r,T,rfl⟩
 have hr:r∈aM n:=by rw [hm];exact List.mem_cons_self
 have hrl:=cF hn hr
 have hro:=nC hn (by omega)
 obtain ⟨u,hu,Q⟩:=aJn M hn hL hr
 have hml:=aLn hn
 have hul:u.length<=64:=Nat.le_trans Q.len (Nat.le_trans (Nat.mul_le_mul (show (aM n).length<=8 by omega) (show (aM n).length<=8 by omega)) (by decide))
 have u1:1<=u.length:=by
  cases hu:u with
  | nil=>exact (Q.ne hu).elim
  | cons a T=>simp
 have lu:=aFq Q.pat
 obtain ⟨s,e,L,hring⟩:=aFs (b:=[]) M hrl (fun _ h=>nomatch h) lu u1 (by omega) (by simp)
 obtain ⟨v,hv,hlet⟩:=aL7 (b:=[]) M hrl (fun _ h=>nomatch h) lu u1 (by omega) (by simp)
 have ev:=aLm L hv
 have es:=aNc Q L
 rw [es] at ev hring
 have hg:=aLg M hn hL.1
 have ix:dIx (.lst (nats (aM n))) (.int 0) = .ok (.int r):=by
  rw [hm]
  refine jE ?_
  show atI (nats (r :: T)) ((0:Nat):Int)=_
  rw [atI_nat (by rw [bQ];simp)]
  rfl
 refine cN rfl (aZ (uT (cM (aU (aY rfl hro) rfl ix))) ?_)
 refine aZ (cM (aQ0 rfl hu)) ?_
 refine aZ (uT (qK (aU (aY rfl hring) (aY rfl hro) (neL _)) rfl)) ?_
 exact fQ (aPf (aC9 rfl (bH (aLk rfl) rfl) (by decide) hlet) (aY rfl (aFt hg)) (by rw [ev];exact eqB _))
theorem len0(M:Mch S rk c):atI (stD S) (0:Int)=some (.lst (nats (S[0]'M.one)))/\(S[0]'M.one).length=c:=⟨wY (q:=0) M.one,(M.row _ (List.getElem_mem _)).1⟩
theorem aSz{i:Int}(h0:0<=i)(h8:i < 8):∃ mo:Nat,1<=mo/\mo<=1000/\dIx (.lst [.int 6,.int 6,.int 6,.int 6,.int 6,.int 6,.int 6,.int 40]) (.int i) = .ok (.int mo):=by
 have:i=0\/i=1\/i=2\/i=3\/i=4\/i=5\/i=6\/i=7:=by omega
 rcases this with rfl | rfl | rfl | rfl | rfl | rfl | rfl | rfl
 all_goals first | exact ⟨6,by decide,by decide,rfl⟩ | exact ⟨40,by decide,by decide,rfl⟩
def uU(ns:List Int)(S:List (List Nat))(rk:List Nat)(c:Nat)(x2 x3 x6 x7:Option Sl):PSt:=[some (.v (.lst (ns.map D.int))),some (.v (mD S rk c)),x2,x3,some (.v (.lst (stD S))),some (.v (.lst (nats rk))),x6,x7,none]
theorem aT0(ns:List Int)(M:Mch S rk c)(cell:Int)(x3 x6 x7:Option Sl):∃ y6 y7,aFh (uU ns S rk c (some (.v (.int cell))) x3 x6 x7) = .ok (.nx (uU ns S rk c (some (.v (.int cell))) x3 y6 y7)):=by
 have hc1:=M.c1
 have hc3:=M.c3
 have h1:=M.one
 obtain ⟨g0,g1⟩:=lF cell 41 (m:=8) (by decide)
 obtain ⟨mo,m1,m2,hmo⟩:=aSz g0 g1
 obtain ⟨b,hb,_,bl,lb⟩:=aLl hc1 hc3 cell (lo:=0) (mo:=mo) (by omega) m2
 obtain ⟨t,ht,t1,tl,l2⟩:=aLl hc1 hc3 (cell+1) (lo:=1) (mo:=mo) m1 m2
 obtain ⟨a0,a1⟩:=len0 M
 have hlen:∀ x2 x3 x6 x7,e1 dR (e2 dIx (aB 4) (eC (.int 0))) (uU ns S rk c x2 x3 x6 x7) = .ok (.int c):=fun x2 x3 x6 x7=>aSv (aU rfl rfl (jE a0)) (by show R.ok (D.int (((nats (S[0]'h1)).length:Nat):Int))=_;rw [bQ,a1])
 have hSl:∀ x2 x3 x6 x7,e1 dR (aB 4) (uU ns S rk c x2 x3 x6 x7) = .ok (.int S.length):=fun x2 x3 x6 x7=>by show R.ok (D.int (((stD S).length:Nat):Int))=_;rw [fM]
 have hmx:=gY cell 42 (S.length:Int) (by omega)
 obtain ⟨r0,r1⟩:=lF cell 42 (m:=(S.length:Int)) (by omega)
 obtain ⟨q,hq⟩:∃ q:Nat,pC cell 42 (S.length:Int)=(q:Int):=⟨(pC cell 42 (S.length:Int)).toNat,by omega⟩
 rw [hq] at hmx r1
 have hg:=aNb (q:=q) M (by omega) lb l2 t1 (by omega) (by omega)
 refine ⟨some (.v (.int mo)),some (.v (.tup [.str b,.str t])),?_⟩
 refine aZ (cM (aU (sE rfl) (aY rfl (gY cell 41 8 (by decide))) hmo)) ?_
 refine aZ (cM (aLk (bH (aY (bH rfl (bH (hlen _ _ _ _) (bH rfl (bH rfl rfl)))) hb) (bH (aY (bH (aU rfl rfl rfl) (bH (hlen _ _ _ _) (bH rfl (bH rfl rfl)))) ht) rfl)))) ?_
 exact qK (rZ (p:=true) (aY (bH rfl (bH rfl (bH rfl (bH (aY (bH rfl (bH rfl (bH (hSl _ _ _ _) rfl))) hmx) (bH rfl rfl))))) hg)) rfl
end
theorem aT1{α:Type}{x:α}{xs:List α}{lo hi:Option Int}(h:x∈cut xs lo hi):x∈xs:=List.mem_of_mem_drop (List.mem_of_mem_take h)
theorem law_true(ns:List Int)(hn:ns.length<=63):aE4 [.lst (ns.map D.int)] = .ok (.bl true):=by
 obtain ⟨S,rk,c,em,M⟩:=aPs ns (mo:=8) (by decide) (by decide)
 have n8:=M.most
 have h1:=M.one
 have n2:=aFp M
 have cp:=aE7 (E:=aL1) (st:=uU ns S rk c none none none none |>.set 1 none) (j:=8) (v:=4) (xs:=stD S) rfl (by rw [fM];omega) (fun d hd=>by
  obtain ⟨r,hr,rfl⟩:=aB7 hd
  rfl)
 refine cN rfl (aZ (st':=(uU ns S rk c none none none none).set 1 none) ?_ (aZ (st':=uU ns S rk c none none none none) (cM (aY (bH cp rfl) (aS8 M))) ?_))
 ·show R.bind (gZ [.lst (ns.map D.int),.int 0,.int 8]) _=_
  rw [em]
  rfl
 let P (st:PSt):Prop:=∃ x2 x3 x6 x7,st=uU ns S rk c x2 x3 x6 x7
 obtain ⟨st1,⟨x2,x3,x6,x7,rfl⟩,e1'⟩:=aFi (tg:=tgN 2) (L:=aFh) P (cut (ns.map D.int) (some 10) (some 40)) (fun d hd st hst=>by
  obtain ⟨cell,_,rfl⟩:=List.mem_map.mp (aT1 hd)
  obtain ⟨x2,x3,x6,x7,rfl⟩:=hst
  obtain ⟨y6,y7,e⟩:=aT0 ns M cell x3 x6 x7
  exact ⟨_,_,rfl,e,_,_,_,_,rfl⟩) (uU ns S rk c none none none none) ⟨_,_,_,_,rfl⟩
 refine aZ (iH (aAj (show eSl (aB 0) (pF (eC (.int 10))) (pF (eC (.int 40))) (uU ns S rk c none none none none) = .ok (.lst (cut (ns.map D.int) (some 10) (some 40))) from rfl)) e1') ?_
 obtain ⟨st2,⟨y2,y3,y6,y7,rfl⟩,e2'⟩:=aFi (tg:=tgN 3) (L:=aL2) P (nats (aFo S c)) (fun d hd st hst=>by
  obtain ⟨m,hm,rfl⟩:=qX hd
  obtain ⟨x2,x3,x6,x7,rfl⟩:=hst
  obtain ⟨a,b⟩:=aN7.mp hm
  exact ⟨_,_,rfl,qK (rZ (p:=true) (aY rfl (aFt (aJq M a b)))) rfl,_,_,_,_,rfl⟩) (uU ns S rk c x2 x3 x6 x7) ⟨_,_,_,_,rfl⟩
 refine aZ (iH (aAj (aY rfl (aN8 M))) e2') ?_
 have hq':=aHj M h1
 have hpa:=aCh M (n:=dB S c (cV (List.range S.length)) 0) nD
 have l2:Ltr c [97]:=fun z hz=>by rw [List.mem_singleton.mp hz];have:=M.c1;exact ⟨by omega,by omega⟩
 have hf:=aC7 (b:=[]) (t:=[97]) (c:=c) (fun _ h=>nomatch h) l2 (by decide)
 obtain ⟨s,e,L,_⟩:=aFs (b:=[]) (t:=[97]) M h1 (fun _ h=>nomatch h) l2 (by decide) (by decide) (by decide)
 obtain ⟨p,hp,_⟩:=aHm M (nD (n:=cV (List.range S.length)) (r:=0)) (aEi M hf h1 L) fun g hg=>by
  obtain ⟨n,_,_,rfl⟩:=iU.mp (lW.mp hg)
  exact aEj M hf h1 n
 have hpos:0 < (gP S c (dB S c (cV (List.range S.length)) 0)).length:=by
  refine List.length_pos_iff.mpr fun z=>?_
  rw [z] at hp
  cases hp
 refine fQ (aU (aSv (aY (bH rfl (bH (aY rfl hq') rfl)) hpa) rfl) rfl ?_)
 show R.ok (D.bl (decide ((((nats (gP S c (dB S c (cV (List.range S.length)) 0))).length:Nat):Int) > 0)))=_
 rw [bQ,decide_eq_true (by omega)]
end Pu
namespace Pu
open PySem PySem.Spec PyProof.Rows L2
abbrev LSt:=L2.St
def kW:Key->D
 | .inl i => .int i
 | .inr x => .str x.cps.toList
structure ExcCl(K:PySem.W.Frag)(C:Addr):Prop where
 ga:PySem.W.findIn K (.ref C) "__getattribute__" = some (some (.builtin "BaseException.__getattribute__"))
 gn:PySem.W.findIn K (.ref C) "__getattr__" = some none
 mb:PySem.W.mroIn K C (.type "BaseException")=some true
 cl:(PySem.W.clsIn K C).isSome=true
 fd:PySem.W.findIn K (.ref C) "__class__" = some (some (.builtin "object.__class__"))
 sp:PySem.W.specialIn K (.builtin "object.__class__") "__get__" = some (some (.builtin "getset_descriptor.__get__"))
 tk:PySem.W.takesIn K (.builtin "object.__class__")=some true
 mr:PySem.W.mroIn K C (.type "object")=some true
structure ExcAt(K:PySem.W.Frag)(c:String)(C:Addr)(bm:List Value):Prop where
 ns:PySem.W.nsIn K mainGlobals (Str.ofString c)=some (some (.ref C))
 ob:∃ (B newId initId:String) (bmB:List Value),ExcBaseFacts B newId initId bmB/\∀ h,K.In h->∃ N nm q bs hdct sn sub ab col dd k0 k1 k2 k3 k5 mN,
  h.get? C=some (excClassObj nm q C N bs bm hdct sn sub ab col dd k0 k1 k2 k3 k5 newId)/\h.Ns N mN/\mN "__init__" = none/\OwnTail h bmB bm
 ic:ExcCl K C
def bAx(a C:Addr)(h:Heap):Prop:=∃ o,h.get? a=some o/\o.cls = .ref C/\PySem.W.notCls o=true
structure ExcIs(K:PySem.W.Frag)(c:String)(C:Addr):Prop where
 ns:PySem.W.nsIn K mainGlobals (Str.ofString c)=some (some (.ref C))
 ic:ExcCl K C
def xOb(x C:Addr)(d:Option Addr)(h:Heap):Prop:=∃ o,h.get? x=some o/\o.cls = .ref C/\PySem.W.notCls o=true/\o.dict=d
def xFs(dx:Addr)(fs:List (Str × V))(h:Heap):Prop:=∃ mA,h.Ns1 dx mA/\(∀ f,rH (fs.lookup f) (mA f))/\PySem.Within mA (fs.map (·.1))
mutual
def Rep(K:PySem.W.Frag)(H:Hp):D->V->Prop
 | .non,v=>v=V.non
 | .bl b,v=>v=V.bl b
 | .int i,v=>v=V.int i
 | .str s,v=>v=V.str ⟨s.toArray⟩
 | .tup ds,v=>∃ a vs,v=V.ref a/\H a=some (.tup vs)/\bL K H ds vs
 | .lst ds,v=>∃ a vs,v=V.ref a/\SqL K H a vs/\bL K H ds vs
 | .dct t ks ds,v=>∃ a vs,v=V.ref a/\((t=false/\∃ kvs:List (Key × V),H a=some (.dK kvs)/\kvs.map (fun p=>kW p.1)=ks/\vs=kvs.map (·.2))\/(t=true/\∃ kvs:List (List Key × V),H a=some (.dT kvs)/\kvs.map (fun p=>D.tup (p.1.map kW))=ks/\vs=kvs.map (·.2)))/\bL K H ds vs
 | .ins c ns ds,v=>∃ a C dx fs vs,v=V.ref a/\H a=some (.ins C dx fs)/\PySem.W.nsIn K mainGlobals (Str.ofString c)=some (some (.ref C))/\fs.map (·.1)=ns.map Str.ofString/\vs=fs.map (·.2)/\bL K H ds vs
 | .exn c ns ds,v=>∃ a φ C,v=V.ref a/\H a=some (.ext φ)/\(∀ h,φ h->bAx a C h)/\ExcIs K c C/\∃ dx fs vs,((ns=[]/\vs=[])\/(φ=xOb a C (some dx)/\dx≠a/\H dx=some (.ext (xFs dx fs))/\fs.map (·.1)=ns.map Str.ofString/\vs=fs.map (·.2)))/\bL K H ds vs
 | .fn f,v=>∃ a,v=V.ref a/\PySem.W.nsIn K mainGlobals (Str.ofString f)=some (some (.ref a))
def bL(K:PySem.W.Frag)(H:Hp):List D->List V->Prop
 | [],vs=>vs=[]
 | d :: ds,vs=>∃ v r,vs=v :: r/\Rep K H d v/\bL K H ds r
end
theorem uV{K:PySem.W.Frag}{H H':Hp}{a:Addr}{xs:List V}(e:bA H H')(h:SqT K H a xs):SqT K H' a xs:=by
 rcases h with (h | ⟨o,h⟩) | h
 ·exact .inl (.inl (e _ _ h))
 ·exact .inl (.inr ⟨o,e _ _ h⟩)
 ·exact .inr h
mutual
theorem Rep.mono{K:PySem.W.Frag}{H H':Hp}(s:bA H H'):∀ {d:D} {v:V},Rep K H d v->Rep K H' d v
 | .non,_,h=>by unfold Rep at h ⊢; exact h
 | .bl _,_,h=>by unfold Rep at h ⊢; exact h
 | .int _,_,h=>by unfold Rep at h ⊢; exact h
 | .str _,_,h=>by unfold Rep at h ⊢; exact h
 | .tup _,_,h=>by
  unfold Rep at h ⊢
  obtain ⟨a,vs,e,q,r⟩:=h
  exact ⟨a,vs,e,s _ _ q,bL.mono s r⟩
 | .lst _,_,h=>by
  unfold Rep at h ⊢
  obtain ⟨a,vs,e,q,r⟩:=h
  exact ⟨a,vs,e,s.seq q,bL.mono s r⟩
 | .dct _ _ _,_,h=>by
  unfold Rep at h ⊢
  obtain ⟨a,vs,e,q,r⟩:=h
  refine ⟨a,vs,e,?_,bL.mono s r⟩
  rcases q with ⟨q0,kvs,q1,q2⟩ | ⟨q0,kvs,q1,q2⟩
  ·exact .inl ⟨q0,kvs,s _ _ q1,q2⟩
  ·exact .inr ⟨q0,kvs,s _ _ q1,q2⟩
 | .ins _ _ _,_,h=>by
  unfold Rep at h ⊢
  obtain ⟨a,C,dx,fs,vs,e,q1,q2,q3,q4,r⟩:=h
  exact ⟨a,C,dx,fs,vs,e,s _ _ q1,q2,q3,q4,bL.mono s r⟩
 | .fn _,_,h=>by unfold Rep at h ⊢; exact h
 | .exn _ _ _,_,h=>by
  unfold Rep at h ⊢
  obtain ⟨a,φ,C,e,q,hφ,hi,dx,fs,vs,h1,r⟩:=h
  refine ⟨a,φ,C,e,s _ _ q,hφ,hi,dx,fs,vs,?_,bL.mono s r⟩
  rcases h1 with h1 | ⟨h1,h2,h3,h4⟩
  ·exact .inl h1
  ·exact .inr ⟨h1,h2,s _ _ h3,h4⟩
theorem bL.mono{K:PySem.W.Frag}{H H':Hp}(s:bA H H'):∀ {ds:List D} {vs:List V},bL K H ds vs->bL K H' ds vs
 | [],_,h=>by unfold bL at h ⊢; exact h
 | d :: ds,_,h=>by
  unfold bL at h ⊢
  obtain ⟨v,r,e,q,t⟩:=h
  exact ⟨v,r,e,Rep.mono s q,bL.mono s t⟩
end
section
variable{K:PySem.W.Frag}{H:Hp}
theorem cC{v:V}:Rep K H .non v ↔ v=V.non:=by unfold Rep;exact Iff.rfl
theorem bO{b:Bool}{v:V}:Rep K H (.bl b) v ↔ v=V.bl b:=by unfold Rep;exact Iff.rfl
theorem aV{i:Int}{v:V}:Rep K H (.int i) v ↔ v=V.int i:=by unfold Rep;exact Iff.rfl
theorem bI{s:List Nat}{v:V}:Rep K H (.str s) v ↔ v=V.str ⟨s.toArray⟩:=by unfold Rep;exact Iff.rfl
theorem rB{ds:List D}{v:V}:Rep K H (.tup ds) v ↔ ∃ a vs,v=V.ref a/\H a=some (.tup vs)/\bL K H ds vs:=by conv=>lhs;unfold Rep
theorem bM{ds:List D}{v:V}(h:Rep K H (.tup ds) v):∃ a vs,v=V.ref a/\SqT K H a vs/\bL K H ds vs :=
 let ⟨a,vs,e,q,r⟩:=rB.mp h;⟨a,vs,e,SqT.of q,r⟩
theorem bZ{ds:List D}{v:V}:Rep K H (.lst ds) v ↔ ∃ a vs,v=V.ref a/\SqL K H a vs/\bL K H ds vs:=by conv=>lhs;unfold Rep
theorem vH{t:Bool}{ks ds:List D}{v:V}:Rep K H (.dct t ks ds) v ↔ ∃ a vs,v=V.ref a/\((t=false/\∃ kvs:List (Key × V),H a=some (.dK kvs)/\kvs.map (fun p=>kW p.1)=ks/\vs=kvs.map (·.2))\/(t=true/\∃ kvs:List (List Key × V),H a=some (.dT kvs)/\kvs.map (fun p=>D.tup (p.1.map kW))=ks/\vs=kvs.map (·.2)))/\bL K H ds vs:=by conv=>lhs;unfold Rep
theorem aLp{c:String}{ns:List String}{ds:List D}{v:V}:Rep K H (.ins c ns ds) v ↔ ∃ a C dx fs vs,v=V.ref a/\H a=some (.ins C dx fs)/\PySem.W.nsIn K mainGlobals (Str.ofString c)=some (some (.ref C))/\fs.map (·.1)=ns.map Str.ofString/\vs=fs.map (·.2)/\bL K H ds vs:=by conv=>lhs;unfold Rep
theorem cQ{vs:List V}:bL K H [] vs ↔ vs=[]:=by unfold bL;exact Iff.rfl
theorem bY{d:D}{ds:List D}{vs:List V}:bL K H (d :: ds) vs ↔ ∃ v r,vs=v :: r/\Rep K H d v/\bL K H ds r:=by conv=>lhs;unfold bL
theorem bL.nil:bL K H [] []:=cQ.mpr rfl
theorem bL.cons{d:D}{ds:List D}{v:V}{vs:List V}(h:Rep K H d v)(t:bL K H ds vs):bL K H (d :: ds) (v :: vs):=bY.mpr ⟨v,vs,rfl,h,t⟩
theorem bL.length:∀ {ds:List D} {vs:List V},bL K H ds vs->vs.length=ds.length
 | [],_,h=>by rw [cQ.mp h];rfl
 | _ :: ds,_,h=>by
  obtain ⟨v,r,rfl,_,t⟩:=bY.mp h
  rw [List.length_cons,List.length_cons,bL.length t]
theorem bL.get:∀ {ds:List D} {vs:List V} {i:Nat} {d:D},bL K H ds vs->ds[i]?=some d->∃ v,vs[i]?=some v/\Rep K H d v
 | [],_,_,_,_,e=>by simp at e
 | _ :: ds,_,0,d,h,e=>by
  obtain ⟨v,r,rfl,q,t⟩:=bY.mp h
  simp at e;subst e
  exact ⟨v,rfl,q⟩
 | _ :: ds,_,i+1,d,h,e=>by
  obtain ⟨v,r,rfl,q,t⟩:=bY.mp h
  obtain ⟨u,e1,e2⟩:=bL.get (i:=i) t (by simpa using e)
  exact ⟨u,by simpa using e1,e2⟩
theorem bL.append:∀ {ds es:List D} {vs us:List V},bL K H ds vs->bL K H es us->bL K H (ds++es) (vs++us)
 | [],_,_,_,h,t=>by rw [cQ.mp h];exact t
 | _ :: _,_,_,_,h,t=>by
  obtain ⟨v,r,rfl,q,w⟩:=bY.mp h
  exact .cons q (bL.append w t)
theorem bL.set{d:D}{v:V}(hd:Rep K H d v):∀ {ds:List D} {vs:List V} (i:Nat),bL K H ds vs->bL K H (ds.set i d) (vs.set i v)
 | [],_,_,h=>by rw [cQ.mp h];exact .nil
 | _ :: _,_,0,h=>by
  obtain ⟨v,r,rfl,q,w⟩:=bY.mp h
  exact .cons hd w
 | _ :: _,_,i+1,h=>by
  obtain ⟨v,r,rfl,q,w⟩:=bY.mp h
  exact .cons q (bL.set hd i w)
theorem bL.take:∀ {ds:List D} {vs:List V} (n:Nat),bL K H ds vs->bL K H (ds.take n) (vs.take n)
 | _,_,0,_ => .nil
 | [],_,_+1,h=>by rw [cQ.mp h];exact .nil
 | _ :: _,_,n+1,h=>by
  obtain ⟨v,r,rfl,q,w⟩:=bY.mp h
  exact .cons q (bL.take n w)
theorem bL.drop:∀ {ds:List D} {vs:List V} (n:Nat),bL K H ds vs->bL K H (ds.drop n) (vs.drop n)
 | _,_,0,h=>h
 | [],_,_+1,h=>by rw [cQ.mp h];exact .nil
 | _ :: _,_,n+1,h=>by
  obtain ⟨v,r,rfl,q,w⟩:=bY.mp h
  exact bL.drop n w
end
def hide(A:List Addr)(H:Hp):Hp:=fun b=>if b∈A then none else H b
theorem fO{A:List Addr}{H:Hp}{b:Addr}(h:b∈A):hide A H b=none:=if_pos h
theorem cD{A:List Addr}{H:Hp}{b:Addr}(h:b ∉ A):hide A H b=H b:=if_neg h
theorem bN(A:List Addr)(H:Hp):bA (hide A H) H:=fun b o h=>by
 unfold hide at h
 split at h
 ·cases h
 ·exact h
theorem bA.hide{A:List Addr}{H H':Hp}(s:bA H H'):bA (hide A H) (hide A H'):=fun b o h=>by
 unfold Pu.hide at h ⊢
 split at h
 ·cases h
 ·rename_i q
  rw [if_neg q]
  exact s b o h
theorem iV{A A':List Addr}{H:Hp}(h:∀ a∈A',a∈A):bA (hide A H) (hide A' H):=fun b o q=>by
 by_cases hb:b∈A
 ·rw [fO hb] at q;cases q
 ·rw [cD hb] at q
  rw [cD fun z=>hb (h b z)]
  exact q
theorem uW(H:Hp):hide [] H=H:=by
 funext b
 exact cD (by simp)
theorem yQ{A:List Addr}{H:Hp}{a:Addr}{o:HO}(h:a∈A):hide A (upd H a o)=hide A H:=by
 funext b
 by_cases hb:b∈A
 ·rw [fO hb,fO hb]
 ·rw [cD hb,cD hb]
  exact bW fun z=>hb (z ▸ h)
theorem cX{H:Hp}{p:Addr}{o:HO}(h:H p=none):bA H (upd H p o):=fun b u q=>by
 rw [bW (bK q h)];exact q
def Own(A:List Addr)(H:Hp):Prop:=∀ a∈A,(H a).isSome=true
theorem Own.mono{A:List Addr}{H H':Hp}(h:Own A H)(s:bA H H'):Own A H':=fun a ha=>by
 obtain ⟨o,e⟩:=Option.isSome_iff_exists.mp (h a ha)
 rw [s a o e];rfl
theorem Own.free{A:List Addr}{H:Hp}(h:Own A H){p:Addr}(e:H p=none):p ∉ A:=fun z=>by
 have q:=h p z
 rw [e] at q;cases q
theorem iI{K:PySem.W.Frag}{A:List Addr}{H:Hp}{p:Addr}{ds:List D}{vs:List V}(w:Own A H)(e:H p=none)(h:bL K (hide A H) ds vs):Rep K (hide A (upd H p (.lst vs))) (.lst ds) (.ref p) :=
 bZ.mpr ⟨p,vs,rfl,SqL.of (by rw [cD (w.free e)];exact cH),h.mono (bA.hide (cX e))⟩
theorem aAq{K:PySem.W.Frag}{A:List Addr}{H:Hp}{p:Addr}{ds:List D}{vs:List V}(w:Own A H)(e:H p=none)(h:bL K (hide A H) ds vs):Rep K (hide A (upd H p (.tup vs))) (.tup ds) (.ref p) :=
 rB.mpr ⟨p,vs,rfl,(by rw [cD (w.free e)];exact cH),h.mono (bA.hide (cX e))⟩
def KOk(K:PySem.W.Frag):OK->Addr->HO->List V->Prop
 | .l,_,o,vs=>o = .lst vs
 | .d t ks,_,o,vs=>(t=false/\∃ kvs:List (Key × V),o = .dK kvs/\kvs.map (fun p=>kW p.1)=ks/\vs=kvs.map (·.2))\/(t=true/\∃ kvs:List (List Key × V),o = .dT kvs/\kvs.map (fun p=>D.tup (p.1.map kW))=ks/\vs=kvs.map (·.2))
 | .i n c ns,a,o,vs=>a=n/\∃ C dx fs,o = .ins C dx fs/\PySem.W.nsIn K mainGlobals (Str.ofString c)=some (some (.ref C))/\fs.map (·.1)=ns.map Str.ofString/\vs=fs.map (·.2)
theorem KOk.rep{K:PySem.W.Frag}{H:Hp}{k:OK}{o:HO}{vs:List V}{ds:List D}{a:Addr}(ko:KOk K k a o vs)(h:H a=some o)(r:bL K H ds vs):Rep K H (ofK k ds) (.ref a):=by
 cases k with
 | l=>have e:o = .lst vs:=ko;subst e;exact bZ.mpr ⟨a,vs,rfl,SqL.of h,r⟩
 | d t ks =>
  refine vH.mpr ⟨a,vs,rfl,?_,r⟩
  rcases ko with ⟨q0,kvs,rfl,q⟩ | ⟨q0,kvs,rfl,q⟩
  ·exact .inl ⟨q0,kvs,h,q⟩
  ·exact .inr ⟨q0,kvs,h,q⟩
 | i n c ns =>
  obtain ⟨_,C,dx,fs,rfl,q1,q2,q3⟩:=ko
  exact aLp.mpr ⟨a,C,dx,fs,vs,rfl,h,q1,q2,q3,r⟩
structure RS(K:PySem.W.Frag)(B A:List Addr)(H:Hp)(st:PSt)(σ:LSt):Prop where
 len:st.length=σ.length
 own:Own (A++B) H
 dis:∀ a∈A,a ∉ B
 val:∀ (i:Nat) d,st[i]?=some (some (.v d))->∃ v,σ[i]?=some (some v)/\Rep K (hide (A++B) H) d v
 lst:∀ (i:Nat) k xs,st[i]?=some (some (.o k xs))->∃ a o vs,σ[i]?=some (some (.ref a))/\a∈A/\H a=some o/\KOk K k a o vs/\bL K (hide (A++B) H) xs vs /\
  ∀ (j:Nat) k' ys,st[j]?=some (some (.o k' ys))->σ[j]?=some (some (.ref a))->j=i
theorem RS.mono{K:PySem.W.Frag}{B A:List Addr}{H H':Hp}{st:PSt}{σ:LSt}(r:RS K B A H st σ)(s:bA H H'):RS K B A H' st σ where
 len:=r.len
 own:=r.own.mono s
 dis:=r.dis
 val:=fun i d e=>let ⟨v,e1,q⟩:=r.val i d e;⟨v,e1,q.mono (bA.hide s)⟩
 lst:=fun i k xs e=>let ⟨a,o,vs,e1,m,h,ko,q,u⟩:=r.lst i k xs e;⟨a,o,vs,e1,m,s _ _ h,ko,q.mono (bA.hide s),u⟩
def Le(A:List Addr)(H:Hp)(A':List Addr)(H':Hp):Prop:=bA (hide A H) (hide A' H')
theorem Le.refl{A:List Addr}{H:Hp}:Le A H A H:=bA.refl _
theorem Le.of{A:List Addr}{H H':Hp}(s:bA H H'):Le A H A H':=bA.hide s
theorem Le.trans{A A1 A2:List Addr}{H H1 H2:Hp}(a:Le A H A1 H1)(b:Le A1 H1 A2 H2):Le A H A2 H2:=bA.trans a b
def tI(K:PySem.W.Frag)(B:List Addr)(f:Ex):TE:=fun σ H Q=>∃ A st d,RS K B A H st σ/\f st = .ok d/\∀ v H',bA H H'->Rep K (hide (A++B) H') d v->Q v H'
def lG(K:PySem.W.Frag)(A:List Addr)(H:Hp)(d:D)(v:V):Prop :=
 Rep K (hide A H) d v\/∃ a k o ds vs,d=ofK k ds/\v=V.ref a/\H a=some o/\KOk K k a o vs/\bL K (hide A H) ds vs
theorem lG.mono{K:PySem.W.Frag}{A:List Addr}{H H':Hp}{d:D}{v:V}(s:bA H H')(h:lG K A H d v):lG K A H' d v:=by
 rcases h with h | ⟨a,k,o,ds,vs,e1,e2,e3,ko,q⟩
 ·exact .inl (h.mono (bA.hide s))
 ·exact .inr ⟨a,k,o,ds,vs,e1,e2,s _ _ e3,ko,q.mono (bA.hide s)⟩
def tP(K:PySem.W.Frag)(B:List Addr)(f:Ex):TE:=fun σ H Q=>∃ A st d,RS K B A H st σ/\f st = .ok d/\∀ v H',bA H H'->lG K (A++B) H' d v->Q v H'
def tA(K:PySem.W.Frag)(B:List Addr)(f:Exs):TA:=fun σ H Q=>∃ A st ds,RS K B A H st σ/\f st = .ok ds/\∀ vs H',bA H H'->bL K (hide (A++B) H') ds vs->Q vs H'
def tT(K:PySem.W.Frag)(B:List Addr)(f:Ex):TT:=fun σ H Q=>∃ A st b,RS K B A H st σ/\f st = .ok (.bl b)/\∀ H',bA H H'->Q b H'
def tO(K:PySem.W.Frag)(B:List Addr)(f:ExO):TO:=fun σ H Q=>∃ A st o,RS K B A H st σ/\f st = .ok o/\∀ H',bA H H'->Q o H'
def aNd(K:PySem.W.Frag)(B A:List Addr)(H:Hp)(r:Fl)(Dn:Ends):Prop:=match r with
 | .nx st'=>∀ A' σ' H',Le A H A' H'->RS K B A' H' st' σ'->Dn.nx σ' H'
 | .bk st'=>∀ A' σ' H',Le A H A' H'->RS K B A' H' st' σ'->Dn.bk σ' H'
 | .ct st'=>∀ A' σ' H',Le A H A' H'->RS K B A' H' st' σ'->Dn.ct σ' H'
 | .rt d=>∀ A' v H',Le A H A' H'->Rep K (hide (A'++B) H') d v->Dn.rt v H'
theorem aNd.mono{K:PySem.W.Frag}{B A A1:List Addr}{H H1:Hp}{r:Fl}{Dn:Ends}(l:Le A H A1 H1)(p:aNd K B A H r Dn):aNd K B A1 H1 r Dn:=by
 cases r with
 | nx st=>exact fun A' σ' H' l'=>p A' σ' H' (l.trans l')
 | bk st=>exact fun A' σ' H' l'=>p A' σ' H' (l.trans l')
 | ct st=>exact fun A' σ' H' l'=>p A' σ' H' (l.trans l')
 | rt d=>exact fun A' v H' l'=>p A' v H' (l.trans l')
def tS(K:PySem.W.Frag)(B:List Addr)(b:Bd):TS:=fun Dn σ H=>∃ A st r,RS K B A H st σ/\b st = .ok r/\aNd K B A H r Dn
def aNe(K:PySem.W.Frag)(B A:List Addr)(H:Hp)(J:It)(ds:List D):Prop:=∀ A' H',Le A H A' H'->Own (A'++B) H'->∀ (i:Nat),
 (∀ d,ds[i]?=some d->J.go i H'/\∀ x H3,J.yld i H' x H3->bA H' H3/\Rep K (hide (A'++B) H3) d x)/\(ds.length<=i->J.stop i H')
def tIt(K:PySem.W.Frag)(B:List Addr)(f:ItE):TI:=fun σ H R=>∃ A st ds,RS K B A H st σ/\f st = .ok ds/\∀ J H',bA H H'->aNe K B A H' J ds->R J H'
def tG(K:PySem.W.Frag)(B:List Addr)(g:Tg):TG:=fun v σ H Q=>∃ A st d s1,RS K B A H st σ/\Rep K (hide (A++B) H) d v/\g d st = .ok s1/\∀ σ',RS K B A H s1 σ'->Q σ' H
section
variable{X:Cx}
theorem cI{e:Expr}{t t':TE}(h:PE X e t)(m:∀ σ H Q,t' σ H Q->t σ H Q):PE X e t':=fun pins s σ H Q I q=>h pins s σ H Q I (m σ H Q q)
theorem aJr{e:Expr}{t t':TT}(h:PT X e t)(m:∀ σ H Q,t' σ H Q->t σ H Q):PT X e t':=fun pins s σ H Q I q=>h pins s σ H Q I (m σ H Q q)
theorem aQ2{e:Expr}{t t':TT}(h:PW X e t)(m:∀ σ H Q,t' σ H Q->t σ H Q):PW X e t':=fun w pins s σ H Q I q=>h w pins s σ H Q I (m σ H Q q)
theorem aQ3{es:List Expr}{t t':TA}(h:PA X es t)(m:∀ σ H Q,t' σ H Q->t σ H Q):PA X es t':=fun pos pins s σ H Q I q=>h pos pins s σ H Q I (m σ H Q q)
theorem aQ4{e:Option Expr}{t t':TO}(h:PO X e t)(m:∀ σ H Q,t' σ H Q->t σ H Q):PO X e t':=fun pins s σ H Q I q=>h pins s σ H Q I (m σ H Q q)
theorem fC{st:Stmt}{t t':TS}(h:PS X st t)(m:∀ D σ H,t' D σ H->t D σ H):PS X st t':=fun pins s σ H D I q=>h pins s σ H D I (m D σ H q)
theorem vI{st:List Stmt}{t t':TS}(h:PSs X st t)(m:∀ D σ H,t' D σ H->t D σ H):PSs X st t':=fun pins s σ H D I q=>h pins s σ H D I (m D σ H q)
theorem aQ5{e:Expr}{t t':TG}(h:PG X e t)(m:∀ v σ H Q,t' v σ H Q->t v σ H Q):PG X e t':=fun pins s σ H v u Q I r q=>h pins s σ H v u Q I r (m v σ H Q q)
theorem aJs{tg e:Expr}{t t':TI}(h:L2.PI X tg e t)(m:∀ σ H R,t' σ H R->t σ H R):L2.PI X tg e t':=fun pins s σ H R I q=>h pins s σ H R I (m σ H R q)
end
section
variable{X:Cx}{B:List Addr}{a b e:Expr}{f g h:Ex}{pos:Pos}
theorem aA(i:Nat){x:Str}(hN:X.N[i]?=some x:=by rfl)(hv:Vis X.env.scope x:=by first | exact Or.inl rfl | exact Or.inr (Or.inl rfl) | exact Or.inr (Or.inr rfl))(hd:(x==("__debug__" : Str))=false:=by decide)
  (hcd:(x==("__classdict__" : Str))=false:=by decide):PE X (.Name x pos) (tI X.K B (aB i)):=by
 refine cI (tW hN hv hd hcd) ?_
 rintro σ H Q ⟨A,st,d,rs,hd,q⟩
 unfold aB at hd
 split at hd
 ·rename_i d' e
  cases hd
  obtain ⟨v,e1,r⟩:=rs.val i _ e
  exact ⟨v,e1,q v H (bA.refl _) r⟩
 ·cases hd
end
end Pu
namespace Pu
open PySem PySem.Spec PyProof.Rows L2
section
variable{X:Cx}{B:List Addr}{a b e:Expr}{f g:Ex}{pos:Pos}
theorem i_c{d:D}{v:V}(h:PE X e (tC v))(r:∀ H,Rep X.K H d v):PE X e (tI X.K B (eC d)):=cI h (by
 rintro σ H Q ⟨A,st,d',rs,hd,q⟩
 cases hd
 exact q v H (bA.refl _) (r _))
theorem aK{i:Int}{j:Nat}:PE X (.Constant (.int i) j pos) (tI X.K B (eC (.int i))):=i_c aV7 fun _=>aV.mpr rfl
theorem aDl{q:Bool}{j:Nat}:PE X (.Constant (.bool q) j pos) (tI X.K B (eC (.bl q))):=i_c aYy fun _=>bO.mpr rfl
theorem bAy{j:Nat}:PE X (.Constant .none j pos) (tI X.K B (eC .non)):=i_c aV8 fun _=>cC.mpr rfl
theorem nU{x:Str}{j:Nat}(s:List Nat)(hx:x=⟨s.toArray⟩:=by first | rfl | decide | decide +kernel):PE X (.Constant (.str x) j pos) (tI X.K B (eC (.str s))):=i_c aV9 fun _=>bI.mpr (by rw [hx])
theorem aFu{x y:Str}{t:Tok}(s:List Nat)(hm:X.mg x=some (.str y t))(hg:Gl X x:=by rfl)(hy:y=⟨s.toArray⟩:=by first | rfl | decide | decide +kernel)(hd:(x==("__debug__" : Str))=false:=by decide):PE X (.Name x pos) (tI X.K B (eC (.str s))) :=
 i_c (aKf (v := .str y) hg hm ⟨t,rfl⟩ hd) fun _=>bI.mpr (by rw [hy])
theorem aQ6{x:Str}{i:Int}{t:Tok}(hm:X.mg x=some (.int i t))(hg:Gl X x:=by rfl)(hd:(x==("__debug__" : Str))=false:=by decide):PE X (.Name x pos) (tI X.K B (eC (.int i))) :=
 i_c (aKf (v := .int i) hg hm ⟨t,rfl⟩ hd) fun _=>aV.mpr rfl
theorem toP(h:PE X e (tI X.K B f)):PE X e (tP X.K B f):=cI h (by
 rintro σ H Q ⟨A,st,d,rs,hd,q⟩
 exact ⟨A,st,d,rs,hd,fun v H' s r=>q v H' s (.inl r)⟩)
theorem fW(i:Nat){x:Str}(hN:X.N[i]?=some x:=by rfl)(hv:Vis X.env.scope x:=by first | exact Or.inl rfl | exact Or.inr (Or.inl rfl) | exact Or.inr (Or.inr rfl))(hd:(x==("__debug__" : Str))=false:=by decide)
  (hcd:(x==("__classdict__" : Str))=false:=by decide):PE X (.Name x pos) (tP X.K B (cZ i)):=by
 refine cI (tW hN hv hd hcd) ?_
 rintro σ H Q ⟨A,st,d,rs,hd,q⟩
 unfold cZ at hd
 split at hd
 ·rename_i d' e
  cases hd
  obtain ⟨v,e1,r⟩:=rs.val i _ e
  exact ⟨v,e1,q v H (bA.refl _) (.inl r)⟩
 ·rename_i k xs e
  cases hd
  obtain ⟨a,o,vs,e1,m,h,ko,r,_⟩:=rs.lst i _ _ e
  exact ⟨_,e1,q _ H (bA.refl _) (.inr ⟨a,_,o,xs,vs,rfl,rfl,h,ko,r⟩)⟩
 ·cases hd
section
variable{K:PySem.W.Frag}{A:List Addr}{H:Hp}{v:V}
theorem lG.int{i:Int}(h:lG K A H (.int i) v):v=V.int i:=by
 rcases h with h | ⟨_,k,_,_,_,e,_⟩
 ·exact aV.mp h
 ·cases k<;>cases e
theorem lG.str{s:List Nat}(h:lG K A H (.str s) v):v=V.str ⟨s.toArray⟩:=by
 rcases h with h | ⟨_,k,_,_,_,e,_⟩
 ·exact bI.mp h
 ·cases k<;>cases e
theorem lG.tup{ds:List D}(h:lG K A H (.tup ds) v):∃ a vs,v=V.ref a/\SqT K H a vs/\bL K (hide A H) ds vs:=by
 rcases h with h | ⟨_,k,_,_,_,e,_⟩
 ·obtain ⟨a,vs,e,q,r⟩:=bM h
  exact ⟨a,vs,e,uV (bN _ _) q,r⟩
 ·cases k<;>cases e
theorem lG.lst{ds:List D}(h:lG K A H (.lst ds) v):∃ a vs,v=V.ref a/\SqL K H a vs/\bL K (hide A H) ds vs:=by
 rcases h with h | ⟨a,k,o,ds',vs,e,e2,h,ko,r⟩
 ·obtain ⟨a,vs,e,q,r⟩:=bZ.mp h
  exact ⟨a,vs,e,(bN _ _).seq q,r⟩
 ·cases k<;>cases e
  have e3:o = .lst vs:=ko
  subst e3
  exact ⟨a,vs,e2,SqL.of h,r⟩
end
def sH(K:PySem.W.Frag)(r:R2)(o:Op2):Prop:=∀ (A:List Addr) (H:Hp) (x y d:D) (v u:V) (Q:VK),Own A H->lG K A H x v->lG K A H y u->o x y = .ok d ->
 (∀ w H',bA H H'->Rep K (hide A H') d w->Q w H')->r v u H Q
theorem aFv{r:R2}{o:Op2}(sem:sH X.K r o){σ:LSt}{H:Hp}{Q:VK}(h:tI X.K B (e2 o f g) σ H Q):tOp r (tP X.K B f) (tP X.K B g) σ H Q:=by
 obtain ⟨A,st,d,rs,hd,q⟩:=h
 obtain ⟨x,hx,h2⟩:=R.ok_of hd
 obtain ⟨y,hy,h3⟩:=R.ok_of h2
 refine ⟨A,st,x,rs,hx,fun v H1 s1 r1=>⟨A,st,y,rs.mono s1,hy,fun u H2 s2 r2=>?_⟩⟩
 exact sem (A++B) H2 x y d v u Q (rs.own.mono (s1.trans s2)) (r1.mono s2) r2 h3 fun w H' s' r'=>q w H' (s1.trans (s2.trans s')) r'
theorem aDm{op:Operator}{r:R2}{o:Op2}(ho:OpR X (binaryOp op) r)(sem:sH X.K r o)(ha:PE X a (tP X.K B f))(hb:PE X b (tP X.K B g)):PE X (.BinOp a op b pos) (tI X.K B (e2 o f g)) :=
 cI (aTy ho ha hb) fun _ _ _ h=>aFv sem h
theorem fX{op:CmpOp}{r:R2}{o:Op2}(ho:OpR X (compareOp op) r)(sem:sH X.K r o)(ha:PE X a (tP X.K B f))(hb:PE X b (tP X.K B g))(hm:behindInMarks op b=false):PE X (.Compare a [op] [b] pos) (tI X.K B (e2 o f g)) :=
 cI (aKj ho ha hb hm) fun _ _ _ h=>aFv sem h
theorem bAz{f:Ex}{σ:LSt}{H:Hp}{Q:Bool->Hp->Prop}(h:tT X.K B f σ H Q):tI X.K B f σ H fun x H'=>∃ k,x = .bl k/\Q k H':=by
 obtain ⟨A,st,k,rs,hk,q⟩:=h
 exact ⟨A,st,.bl k,rs,hk,fun v H' s r=>⟨k,bO.mp r,q H' s⟩⟩
theorem dZ{op:CmpOp}{r:R2}{o:Op2}(ho:OpR X (compareOp op) r)(sem:sH X.K r o)(ha:PE X a (tP X.K B f))(hb:PE X b (tP X.K B g))(hm:behindInMarks op b=false):PT X (.Compare a [op] [b] pos) (tT X.K B (e2 o f g)) :=
 aJr (aRj ho ha hb hm) fun _ _ _ h=>aFv sem (bAz h)
theorem gK{f:Ex}(h:PE X e (tI X.K B f))(he:∀ whole,isTrue e X.env whole=(do let v <- whole;standAt e.pos;holding [v] (truthy v)):=by intro _;rfl):PT X e (tT X.K B f) :=
 aJr (aVa h he) fun _ _ _ q=>bAz q
theorem sI{K:PySem.W.Frag}{g:Int->Int->D}{gv:Int->Int->V}{o:Op2}(hr:∀ H i j,Rep K H (g i j) (gv i j))(ho:∀ x y d,o x y = .ok d->∃ i j,x = .int i/\y = .int j/\d=g i j):sH K (rI0 gv) o:=by
 intro A H x y d v u Q w rx ry e q
 obtain ⟨i,j,rfl,rfl,rfl⟩:=ho x y d e
 exact ⟨i,j,rx.int,ry.int,q _ H (bA.refl _) (hr _ _ _)⟩
theorem aA4{K:PySem.W.Frag}{C:Int->Int->Prop}{g:Int->Int->D}{gv:Int->Int->V}{o:Op2}(hr:∀ H i j,Rep K H (g i j) (gv i j))(ho:∀ x y d,o x y = .ok d->∃ i j,x = .int i/\y = .int j/\C i j/\d=g i j):sH K (rI C gv) o:=by
 intro A H x y d v u Q w rx ry e q
 obtain ⟨i,j,rfl,rfl,c,rfl⟩:=ho x y d e
 exact ⟨i,j,rx.int,ry.int,c,q _ H (bA.refl _) (hr _ _ _)⟩
theorem aUz(ha:PE X a (tP X.K B f))(hb:PE X b (tP X.K B g)):PE X (.BinOp a .Sub b pos) (tI X.K B (e2 aMv f g)) :=
 aDm aVn (sI (g:=fun i j => .int (i - j)) (fun _ _ _=>aV.mpr rfl) fun x y d e=>by
  unfold aMv at e
  split at e
  ·cases e;exact ⟨_,_,rfl,rfl,rfl⟩
  ·cases e) ha hb
theorem aFw(ha:PE X a (tP X.K B f))(hb:PE X b (tP X.K B g)):PE X (.BinOp a .FloorDiv b pos) (tI X.K B (e2 xV f g)) :=
 aDm aRi (aA4 (g:=fun i j => .int (i / j)) (fun _ _ _=>aV.mpr rfl) fun x y d e=>by
  unfold xV at e
  split at e
  ·obtain ⟨c,e⟩:=aJ e;cases e;exact ⟨_,_,rfl,rfl,c,rfl⟩
  ·cases e) ha hb
theorem pN(ha:PE X a (tP X.K B f))(hb:PE X b (tP X.K B g)):PE X (.BinOp a .Mod b pos) (tI X.K B (e2 nY f g)) :=
 aDm aO8 (aA4 (g:=fun i j => .int (i % j)) (fun _ _ _=>aV.mpr rfl) fun x y d e=>by
  unfold nY at e
  split at e
  ·obtain ⟨c,e⟩:=aJ e;cases e;exact ⟨_,_,rfl,rfl,c,rfl⟩
  ·cases e) ha hb
theorem bB0(ha:PE X a (tP X.K B f))(hb:PE X b (tP X.K B g)):PE X (.BinOp a .Pow b pos) (tI X.K B (e2 aOq f g)) :=
 aDm aVp (aA4 (g:=fun i j => .int (i ^ j.toNat)) (fun _ _ _=>aV.mpr rfl) fun x y d e=>by
  unfold aOq at e
  split at e
  ·obtain ⟨c,e⟩:=aJ e;cases e;exact ⟨_,_,rfl,rfl,c,rfl⟩
  ·cases e) ha hb
def bB1(K:PySem.W.Frag):R2:=fun x y H Q=>∃ l b xs zs,x = .ref l/\y = .ref b/\SqL K H l xs/\SqL K H b zs/\xs.length+zs.length<=sizeLine/\∀ p,H p=none->Q (.ref p) (upd H p (.lst (xs++zs)))
theorem aT2:OpR X (binaryOp .Add) (bB1 X.K):=by
 intro pins s σ H x y v u Q I rx ry h
 obtain ⟨l,b,xs,zs,rfl,rfl,hH,hB,hz,q⟩:=h
 cases rx
 cases ry
 obtain ⟨its,r,⟨⟨cls,dd,data,sl⟩,n,ho,hc,_,hd⟩,z⟩:=I.list hH
 obtain ⟨its2,r2,⟨⟨cls2,dd2,data2,sl2⟩,n2,ho2,hc2,_,hd2⟩,z2⟩:=I.list hB
 simp only at hc hd hc2 hd2
 subst hc hd hc2 hd2
 have l1:=r.length
 have l2:=r2.length
 refine concat_meets ⟨_,ho,rfl⟩ ⟨_,ho2,rfl⟩ noFill_list_add seq_list_add PySem.F.slot_list_add PySem.F.entry_list_add (PySem.F.args_list_add_2 _ _) (list_addW l b its.toArray its2.toArray n n2 dd dd2 sl sl2 (by simp only [List.size_toArray];omega)) ⟨ho,ho2,?_⟩
 have ea:its.toArray++its2.toArray=(its++its2).toArray:=by simp
 rw [ea]
 exact ⟨.ref _,_,I.lnew (t':=s.toks) (r.append r2) (by rw [List.length_append];omega),rfl,q _ I.fresh⟩
theorem aT3(x y:List Nat):(⟨x.toArray⟩:Str)++(⟨y.toArray⟩:Str)=⟨(x++y).toArray⟩:=by
 show Str.append _ _=_
 unfold Str.append
 simp
theorem str_len(x:List Nat):(⟨x.toArray⟩:Str).length=x.length:=by simp [Str.length]
theorem lim{n:Nat}(h:n<=big):n<=sizeLine:=Nat.le_trans (by rw [nJ] at h;exact h:n<=10000000) (by decide)
theorem jJ(ha:PE X a (tP X.K B f))(hb:PE X b (tP X.K B g)):PE X (.BinOp a .Add b pos) (tI X.K B (e2 kZ f g)):=by
 refine aDm (aVm.or (aIv.or aT2)) ?_ ha hb
 intro A H x y d v u Q w rx ry e q
 cases x<;>cases y<;>first | (cases e;done) | skip
 ·cases e
  exact .inl ⟨_,_,rx.int,ry.int,q _ H (bA.refl _) (aV.mpr rfl)⟩
 ·obtain ⟨c,e⟩:=aJ e
  cases e
  exact .inr (.inl ⟨_,_,rx.str,ry.str,by rw [str_len,str_len];exact lim c,q _ H (bA.refl _) (bI.mpr (by rw [aT3]))⟩)
 ·obtain ⟨c,e⟩:=aJ e
  cases e
  obtain ⟨l,xs,e1,h1,r1⟩:=rx.lst
  obtain ⟨m,ys,e2,h2,r2⟩:=ry.lst
  have l1:=r1.length
  have l2:=r2.length
  refine .inr (.inr ⟨l,m,xs,ys,e1,e2,h1,h2,by rw [l1,l2];exact lim c,fun p hp=>q _ _ (cX hp) ?_⟩)
  exact iI w hp (r1.append r2)
theorem aXl{K:PySem.W.Frag}:sH K (rI0 fun i j => .bl (decide (i<=j))) dLe:=sI (g:=fun i j => .bl (decide (i<=j))) (fun _ _ _=>bO.mpr rfl) fun x y d e=>by
 unfold dLe at e
 split at e
 ·cases e;exact ⟨_,_,rfl,rfl,rfl⟩
 ·cases e
theorem aCo{K:PySem.W.Frag}:sH K (rI0 fun i j => .bl (decide (j < i))) dGt:=sI (g:=fun i j => .bl (decide (j < i))) (fun _ _ _=>bO.mpr rfl) fun x y d e=>by
 unfold dGt at e
 split at e
 ·cases e;exact ⟨_,_,rfl,rfl,rfl⟩
 ·cases e
theorem aJt{K:PySem.W.Frag}:sH K (rI0 fun i j => .bl (decide (j<=i))) dGe:=sI (g:=fun i j => .bl (decide (j<=i))) (fun _ _ _=>bO.mpr rfl) fun x y d e=>by
 unfold dGe at e
 split at e
 ·cases e;exact ⟨_,_,rfl,rfl,rfl⟩
 ·cases e
theorem aHp(n:Nat)(i:Int):L2.ixN n i=Pu.ixN n i:=rfl
theorem bL.atI{K:PySem.W.Frag}{H:Hp}{ds:List D}{vs:List V}{i:Int}{d:D}(r:bL K H ds vs)(e:Pu.atI ds i=some d):∃ v,L2.atI vs i=some v/\Rep K H d v:=by
 unfold Pu.atI at e
 unfold L2.atI
 rw [r.length,aHp]
 cases h:Pu.ixN ds.length i with
 | none=>rw [h] at e;cases e
 | some j =>
  rw [h] at e
  exact r.get e
theorem sJ{α:Type}{o:Option α}{a:α}(h:ofO o = .ok a):o=some a:=by
 cases o with
 | none=>cases h
 | some b=>cases h;rfl
theorem aXm{K:PySem.W.Frag}{x:D}(hd:aZq x=false)(A:List Addr)(H:Hp)(x' y d:D)(v u:V)(Q:VK)(w:Own A H)(rx:lG K A H x v)(ry:lG K A H y u)(e:dIx x y = .ok d)(q:∀ w H',bA H H'->Rep K (hide A H') d w->Q w H'):rIx K v u H Q:=by
 cases x<;>first | (cases hd;done) | skip
 all_goals cases y
 all_goals first | (cases e;done) | skip
 ·rename_i s i
  obtain ⟨hz,e⟩:=aJ e
  have e:=sJ e
  cases h:Pu.atI s i with
  | none=>rw [h] at e;cases e
  | some c =>
   rw [h] at e
   cases e
   refine .inr (.inr ⟨_,i,c,rx.str,ry.int,by rw [str_len];exact lim hz,?_,q _ H (bA.refl _) (bI.mpr rfl)⟩)
   show L2.atI s.toArray.toList i=some c
   rw [List.toList_toArray]
   exact h
 ·rename_i ds i
  have h:=sJ (show ofO (Pu.atI ds i) = .ok d from e)
  obtain ⟨l,xs,e1,h1,r1⟩:=rx.tup
  obtain ⟨z,h2,r2⟩:=r1.atI h
  exact .inr (.inl ⟨l,xs,i,z,e1,ry.int,h1,h2,q _ H (bA.refl _) r2⟩)
 ·rename_i ds i
  have h:=sJ (show ofO (Pu.atI ds i) = .ok d from e)
  obtain ⟨l,xs,e1,h1,r1⟩:=rx.lst
  obtain ⟨z,h2,r2⟩:=r1.atI h
  exact .inl ⟨l,xs,i,z,e1,ry.int,h1,h2,q _ H (bA.refl _) r2⟩
theorem sO(h:PE X a (tI X.K B f)):PE X (.BoolOp .And [a] pos) (tI X.K B f):=aO3 h
theorem aV0(h:PE X a (tI X.K B f)):PE X (.BoolOp .Or [a] pos) (tI X.K B f):=aO3 h
theorem sZ{rest:List Expr}(ha:PE X a (tI X.K B f))(hb:PE X (.BoolOp .And (b :: rest) pos) (tI X.K B g)):PE X (.BoolOp .And (a :: b :: rest) pos) (tI X.K B (pB f g)):=by
 refine cI (aVe ha hb) ?_
 rintro σ H Q ⟨A,st,d,rs,hd,q⟩
 obtain ⟨x,hx,h2⟩:=R.ok_of hd
 obtain ⟨k,rfl,h3⟩:=rK h2
 refine ⟨A,st,_,rs,hx,fun v H1 s1 r1=>⟨k,bO.mp r1,?_⟩⟩
 cases k with
 | true=>exact ⟨A,st,d,rs.mono s1,h3,fun w H' s' r'=>q w H' (s1.trans s') r'⟩
 | false=>cases h3;exact q _ H1 s1 (bO.mpr rfl)
theorem bB2{rest:List Expr}(ha:PE X a (tI X.K B f))(hb:PE X (.BoolOp .Or (b :: rest) pos) (tI X.K B g)):PE X (.BoolOp .Or (a :: b :: rest) pos) (tI X.K B (eOr f g)):=by
 refine cI (aZ2 ha hb) ?_
 rintro σ H Q ⟨A,st,d,rs,hd,q⟩
 obtain ⟨x,hx,h2⟩:=R.ok_of hd
 obtain ⟨k,rfl,h3⟩:=rK h2
 refine ⟨A,st,_,rs,hx,fun v H1 s1 r1=>⟨k,bO.mp r1,?_⟩⟩
 cases k with
 | true=>cases h3;exact q _ H1 s1 (bO.mpr rfl)
 | false=>exact ⟨A,st,d,rs.mono s1,h3,fun w H' s' r'=>q w H' (s1.trans s') r'⟩
theorem bB3(ha:PE X a (tI X.K B f)):PE X (.UnaryOp .Not a pos) (tI X.K B (pX f)):=by
 refine cI (aVf ha) ?_
 rintro σ H Q ⟨A,st,d,rs,hd,q⟩
 obtain ⟨x,hx,h2⟩:=R.ok_of hd
 obtain ⟨k,rfl,h3⟩:=rK h2
 cases h3
 exact ⟨A,st,_,rs,hx,fun v H1 s1 r1=>⟨k,bO.mp r1,q _ H1 s1 (bO.mpr rfl)⟩⟩
theorem aFx(h:PT X a (tT X.K B f)):PW X (.BoolOp .And [a] pos) (tT X.K B f):=aRd h
theorem aQ7(h:PT X a (tT X.K B f)):PW X (.BoolOp .Or [a] pos) (tT X.K B f):=aVb h
theorem aLq{rest:List Expr}(ha:PT X a (tT X.K B f))(hb:PW X (.BoolOp .And (b :: rest) pos) (tT X.K B g)):PW X (.BoolOp .And (a :: b :: rest) pos) (tT X.K B (pB f g)):=by
 refine aQ2 (aVc ha hb) ?_
 rintro σ H Q ⟨A,st,d,rs,hd,q⟩
 obtain ⟨x,hx,h2⟩:=R.ok_of hd
 obtain ⟨k,rfl,h3⟩:=rK h2
 refine ⟨A,st,k,rs,hx,fun H1 s1=>?_⟩
 cases k with
 | true=>exact ⟨A,st,d,rs.mono s1,h3,fun H' s'=>q H' (s1.trans s')⟩
 | false=>cases h3;exact q H1 s1
theorem aT4{rest:List Expr}(ha:PT X a (tT X.K B f))(hb:PW X (.BoolOp .Or (b :: rest) pos) (tT X.K B g)):PW X (.BoolOp .Or (a :: b :: rest) pos) (tT X.K B (eOr f g)):=by
 refine aQ2 (aYz ha hb) ?_
 rintro σ H Q ⟨A,st,d,rs,hd,q⟩
 obtain ⟨x,hx,h2⟩:=R.ok_of hd
 obtain ⟨k,rfl,h3⟩:=rK h2
 refine ⟨A,st,k,rs,hx,fun H1 s1=>?_⟩
 cases k with
 | true=>cases h3;exact q H1 s1
 | false=>exact ⟨A,st,d,rs.mono s1,h3,fun H' s'=>q H' (s1.trans s')⟩
theorem pO(ha:PT X a (tT X.K B f)):PT X (.UnaryOp .Not a pos) (tT X.K B (pX f)):=by
 refine aJr (aVd ha) ?_
 rintro σ H Q ⟨A,st,d,rs,hd,q⟩
 obtain ⟨x,hx,h2⟩:=R.ok_of hd
 obtain ⟨k,rfl,h3⟩:=rK h2
 cases h3
 exact ⟨A,st,k,rs,hx,fun H1 s1=>q H1 s1⟩
theorem aR:PA X [] (tA X.K B aW):=aQ3 kY (by
 rintro σ H Q ⟨A,st,d,rs,hd,q⟩
 cases hd
 exact q [] H (bA.refl _) .nil)
theorem aD{es:List Expr}{r:Exs}(ha:PE X e (tI X.K B f))(hr:PA X es (tA X.K B r))(hs:starEach (e :: es) X.env=(false,eval e X.env) :: starEach es X.env:=by rfl):PA X (e :: es) (tA X.K B (aC f r)):=by
 refine aQ3 (fG ha hr hs) ?_
 rintro σ H Q ⟨A,st,ds,rs,hd,q⟩
 obtain ⟨x,hx,h2⟩:=R.ok_of hd
 obtain ⟨xs,hxs,h3⟩:=R.ok_of h2
 cases h3
 refine ⟨A,st,x,rs,hx,fun v H1 s1 r1=>⟨A,st,xs,rs.mono s1,hxs,fun vs H2 s2 r2=>?_⟩⟩
 exact q _ H2 (s1.trans s2) (.cons (r1.mono (bA.hide s2)) r2)
theorem aLr{es:List Expr}{r:Exs}{x1:Nat}(h:PA X es (tA X.K B r)):PE X (.Tuple es x1 pos) (tI X.K B (aJ3 r)):=by
 refine cI (aVw h) ?_
 rintro σ H Q ⟨A,st,d,rs,hd,q⟩
 obtain ⟨xs,hx,h2⟩:=R.ok_of hd
 obtain ⟨c,h3⟩:=aJ h2
 cases h3
 refine ⟨A,st,xs,rs,hx,fun vs H1 s1 r1=>⟨by rw [r1.length];exact lim c,fun p hp=>q _ _ (s1.trans (cX hp)) ?_⟩⟩
 exact aAq (rs.own.mono s1) hp r1
theorem aCp{es:List Expr}{r:Exs}(h:PA X es (tA X.K B r)):PE X (.List es pos) (tI X.K B (pY r)):=by
 refine cI (aOd h) ?_
 rintro σ H Q ⟨A,st,d,rs,hd,q⟩
 obtain ⟨xs,hx,h2⟩:=R.ok_of hd
 obtain ⟨c,h3⟩:=aJ h2
 cases h3
 refine ⟨A,st,xs,rs,hx,fun vs H1 s1 r1=>⟨by rw [r1.length];exact lim c,fun p hp=>q _ _ (s1.trans (cX hp)) ?_⟩⟩
 exact iI (rs.own.mono s1) hp r1
def spI(K:PySem.W.Frag)(np:Nat)(p:List D->R D):Sp:=fun vs H Q _=>∃ A ds d,Own A H/\bL K (hide A H) ds vs/\ds.length=np/\p ds = .ok d/\∀ v H',bA H H'->Rep K (hide A H') d v->Q v H'
theorem aXn{k:Nat}{fa:Addr}{fd:FuncData}{ps:List Str}{x:Str}{p0:Pos}{es:List Expr}{r:Exs}{np:Nat}{p:List D->R D}(F:FnOk X.prog X.w X.K X.mg X.base CX0 k fa fd ps (spI X.K np p))(hr:Room k X.A)(hm:X.mg x=some (.ref fa))
  (hk:PySem.W.keepIn X.K (.ref fa)=true) (hb:Binds X.K fd ps []) (hl:∀ ds d,p ds = .ok d->ds.length=np) (ha:PA X (e :: es) (tA X.K B r)) (hg:Gl X x:=by rfl) (hdb:(x==("__debug__" : Str))=false:=by decide)
  (he:starEach (e :: es) X.env=(false,eval e X.env) :: starEach es X.env:=by rfl) (hpl:(backTo pos (starEach es X.env)).any (·.1)=false:=by rfl) :
  PE X (.Call (.Name x p0) (e :: es) [] pos) (tI X.K B (aX p r)):=by
 refine cI (aRn F hr hg hm hk hb .nil aKo ha hdb he hpl) ?_
 rintro σ H Q ⟨A,st,d,rs,hd,q⟩
 obtain ⟨xs,hx,h2⟩:=R.ok_of hd
 refine ⟨A,st,xs,rs,hx,fun vs H1 s1 r1=>?_⟩
 show spI X.K np p (vs++[]) H1 Q E0
 rw [List.append_nil]
 exact ⟨A++B,xs,d,rs.own.mono s1,r1,hl _ _ h2,h2,fun w H' s' r'=>q w H' (s1.trans s') r'⟩
end
end Pu
namespace Pu
open PySem PySem.Spec PyProof.Rows L2
theorem aFy(a b:Key):eqK (kW a) (kW b)=decide (a=b):=by
 cases a with
 | inl i =>
  cases b with
  | inl j=>unfold kW eqK;rw [aNy]
  | inr y=>unfold kW eqK;rw [aO0]
 | inr x =>
  cases b with
  | inl j=>unfold kW eqK;rw [aO1]
  | inr y =>
   unfold kW eqK
   rw [aNz,Bool.eq_iff_iff,beq_iff_eq,decide_eq_true_eq]
   constructor
   ·intro h
    cases x;cases y
    congr 1
    exact Array.ext' h
   ·rintro rfl;rfl
theorem aHq:∀ (a b:List Key),aJ2 (a.map kW) (b.map kW)=decide (a=b)
 | [],[]=>by unfold aJ2;simp
 | [],_ :: _=>by unfold aJ2;simp
 | _ :: _,[]=>by unfold aJ2;simp
 | x :: a,y :: b=>by
  have ih:=aHq a b
  rw [List.map_cons,List.map_cons]
  unfold aJ2
  rw [aFy,ih,Bool.eq_iff_iff,Bool.and_eq_true,decide_eq_true_eq,decide_eq_true_eq,decide_eq_true_eq,List.cons.injEq]
theorem aHr(a b:List Key):eqK (.tup (a.map kW)) (.tup (b.map kW))=decide (a=b):=by
 rw [<-aHq]
 conv=>lhs;unfold eqK
section
variable{κ:Type}[DecidableEq κ]{E:κ->D}(hE:∀ a b,eqK (E a) (E b)=decide (a=b)){K:PySem.W.Frag}{H:Hp}
include hE
theorem aFz(k:κ):∀ (kvs:List (κ × V)) (ds:List D),bL K H ds (kvs.map (·.2))->(∀ d,pA (kvs.map fun p=>E p.1) ds (E k)=some d->∃ v,xU kvs k=some v/\Rep K H d v)/\(xU kvs k).isSome=lO (kvs.map fun p=>E p.1) (E k)
 | [],ds,r=>⟨fun d h=>by cases ds<;>simp [pA] at h,rfl⟩
 | (a,v) :: kvs,ds,r=>by
  cases ds with
  | nil=>have:=cQ.mp r;simp at this
  | cons d ds =>
   obtain ⟨v',r',e,h1,h2⟩:=bY.mp r
   rw [List.map_cons] at e
   injection e with e1 e2
   subst e1 e2
   obtain ⟨i1,i2⟩:=aFz k kvs ds h2
   by_cases ha:a=k
   ·have hk:eqK (E a) (E k)=true:=by rw [hE,decide_eq_true_eq];exact ha
    refine ⟨fun d' h=>?_,?_⟩
    ·unfold pA at h
     rw [List.map_cons,List.zip_cons_cons,List.find?_cons_of_pos (by simpa using hk)] at h
     cases h
     exact ⟨v,tY ha,h1⟩
    ·rw [tY ha]
     unfold lO
     rw [List.map_cons,List.any_cons,hk]
     rfl
   ·have hk:eqK (E a) (E k)=false:=by rw [hE,decide_eq_false_iff_not];exact ha
    refine ⟨fun d' h=>?_,?_⟩
    ·rw [tZ ha]
     refine i1 d' ?_
     unfold pA at h ⊢
     rw [List.map_cons,List.zip_cons_cons,List.find?_cons_of_neg (by simpa using hk)] at h
     exact h
    ·rw [tZ ha,i2]
     unfold lO
     rw [List.map_cons,List.any_cons,hk]
     rfl
theorem aQ8(k:κ)(kvs:List (κ × V)):(kvs.any fun kv=>decide (kv.1=k))=lO (kvs.map fun p=>E p.1) (E k):=by
 unfold lO
 rw [List.any_map]
 congr 1
 funext p
 simp [hE]
theorem aLs(k:κ)(v:V)(d:D)(hd:Rep K H d v)(kvs:List (κ × V))(ds:List D)(r:bL K H ds (kvs.map (·.2))) :
  (putK kvs k v).map (fun p=>E p.1)=lA (kvs.map fun p=>E p.1) (E k)/\bL K H (oR (kvs.map fun p=>E p.1) ds (E k) d) ((putK kvs k v).map (·.2)):=by
 unfold putK lA oR
 rw [aQ8 hE]
 by_cases hh:lO (kvs.map fun p=>E p.1) (E k)=true
 ·rw [if_pos hh,if_pos hh,if_pos hh]
  constructor
  ·rw [List.map_map]
   refine List.map_congr_left fun p _=>?_
   simp only [Function.comp_apply]
   split<;>rfl
  ·clear hh
   induction kvs generalizing ds with
   | nil=>have:=r.length;cases ds with | nil=>exact .nil | cons _ _=>simp at this
   | cons p kvs ih =>
    obtain ⟨a,w⟩:=p
    cases ds with
    | nil=>have:=cQ.mp r;simp at this
    | cons d0 ds =>
     obtain ⟨v',r',e,h1,h2⟩:=bY.mp r
     rw [List.map_cons] at e
     injection e with e1 e2
     subst e1 e2
     rw [List.map_cons,List.map_cons,List.map_cons,List.zip_cons_cons,List.map_cons]
     refine .cons ?_ (ih ds h2)
     by_cases ha:a=k
     ·have hk:eqK (E a) (E k)=true:=by rw [hE,decide_eq_true_eq];exact ha
      rw [if_pos hk,if_pos ha]
      exact hd
     ·have hk:eqK (E a) (E k)=false:=by rw [hE,decide_eq_false_iff_not];exact ha
      rw [if_neg (by rw [hk];exact Bool.false_ne_true),if_neg ha]
      exact h1
 ·rw [if_neg hh,if_neg hh,if_neg hh]
  refine ⟨by rw [List.map_append];rfl,?_⟩
  rw [List.map_append]
  exact r.append (.cons hd .nil)
end
theorem xG{K:PySem.W.Frag}{H:Hp}{d:D}{v:V}(r:Rep K H d v)(h:keyOk false d=true):∃ k:Key,d=kW k/\v=kV k:=by
 cases d<;>first | (cases h;done) | skip
 ·exact ⟨.inl _,rfl,aV.mp r⟩
 ·exact ⟨.inr _,rfl,bI.mp r⟩
theorem yR{K:PySem.W.Frag}{H:Hp}:∀ {ds:List D} {vs:List V},bL K H ds vs->ds.all aOr=true->∃ ks:List Key,ds=ks.map kW/\vs=ks.map kV
 | [],vs,r,_=>⟨[],rfl,cQ.mp r⟩
 | d :: ds,vs,r,h=>by
  obtain ⟨v,r',rfl,h1,h2⟩:=bY.mp r
  rw [List.all_cons,Bool.and_eq_true] at h
  obtain ⟨ks,e1,e2⟩:=yR h2 h.2
  obtain ⟨k,e3,e4⟩:=xG h1 (by cases d<;>first | (cases h.1;done) | rfl)
  exact ⟨k :: ks,by rw [e1,e3];rfl,by rw [e2,e4];rfl⟩
theorem aAr{K:PySem.W.Frag}{H:Hp}{d:D}{v:V}(r:Rep K H d v)(h:keyOk true d=true):∃ (ks:List Key) (b:Addr),d = .tup (ks.map kW)/\v = .ref b/\H b=some (.tup (ks.map kV)):=by
 cases d<;>first | (cases h;done) | skip
 rename_i xs
 obtain ⟨b,vs,e,hb,rs⟩:=rB.mp r
 have h':xs.all aOr=true:=by
  unfold keyOk at h
  simpa using h
 obtain ⟨ks,e1,e2⟩:=yR rs h'
 exact ⟨ks,b,by rw [e1],e,by rw [<-e2];exact hb⟩
theorem aBd{K:PySem.W.Frag}{A:List Addr}{H:Hp}{t:Bool}{ks ds:List D}{k:D}{v u:V}(rx:lG K A H (.dct t ks ds) v)(ry:Rep K H k u)(hk:keyOk t k=true) :
  ∃ a o,v = .ref a/\vM H a u o/\o.isSome=lO ks k/\∀ d,pA ks ds k=some d->∃ w,o=some w/\Rep K (hide A H) d w:=by
 have key:∃ a vs,v=V.ref a/\((t=false/\∃ kvs:List (Key × V),H a=some (.dK kvs)/\kvs.map (fun p=>kW p.1)=ks/\vs=kvs.map (·.2))\/(t=true/\∃ kvs:List (List Key × V),H a=some (.dT kvs)/\kvs.map (fun p=>D.tup (p.1.map kW))=ks/\vs=kvs.map (·.2)))/\bL K (hide A H) ds vs:=by
  rcases rx with h | ⟨a,kk,o,ds',vs,e,e2,h,ko,r⟩
  ·obtain ⟨a,vs,e,q,r⟩:=vH.mp h
   refine ⟨a,vs,e,?_,r⟩
   rcases q with ⟨q0,kvs,q1,q2⟩ | ⟨q0,kvs,q1,q2⟩
   ·exact .inl ⟨q0,kvs,bN _ _ _ _ q1,q2⟩
   ·exact .inr ⟨q0,kvs,bN _ _ _ _ q1,q2⟩
  ·cases kk<;>cases e
   refine ⟨a,vs,e2,?_,r⟩
   rcases ko with ⟨q0,kvs,q1,q2⟩ | ⟨q0,kvs,q1,q2⟩
   ·subst q1;exact .inl ⟨q0,kvs,h,q2⟩
   ·subst q1;exact .inr ⟨q0,kvs,h,q2⟩
 obtain ⟨a,vs,e,q,r⟩:=key
 rcases q with ⟨rfl,kvs,q1,rfl,rfl⟩ | ⟨rfl,kvs,q1,rfl,rfl⟩
 ·obtain ⟨k',e1,e2⟩:=xG ry hk
  subst e1 e2
  obtain ⟨i1,i2⟩:=aFz aFy k' kvs ds r
  exact ⟨a,_,e,vM.k q1,i2,fun d hd=>let ⟨w,h1,h2⟩:=i1 d hd;⟨w,h1,h2⟩⟩
 ·obtain ⟨k',b,e1,e2,e3⟩:=aAr ry hk
  subst e1 e2
  obtain ⟨i1,i2⟩:=aFz aHr k' kvs ds r
  exact ⟨a,_,e,vM.t q1 e3,i2,fun d hd=>let ⟨w,h1,h2⟩:=i1 d hd;⟨w,h1,h2⟩⟩
section
variable{X:Cx}{B:List Addr}{a b e:Expr}{f g:Ex}{pos:Pos}
def bB4:R2:=fun x y H Q=>∃ p v,x = .ref p/\vM H p y (some v)/\Q v H
theorem aLt(hu:X.A.units+64 < cLine):IxR X bB4:=by
 intro value slice pins s σ H x y v u Q I rx ry h hs
 obtain ⟨p,z,rfl,g,q⟩:=h
 cases rx
 have hT:=aGs I g
 unfold subscriptTail
 refine wpAny_bind ?_
 rw [getitemInPython_of_ne hT.not_modules]
 refine wpAny_bind (wpAny_specialOf hT PySem.F.slot_dict_getitem.lookup ?_)
 have h2:wpAny (model X.prog X.w) X.A (getItem (.ref p) u) (EP X pins σ Q) X.xe s:=aMt (by omega) I g ry fun w' s3 I3 rw'=>⟨z,H,I3,rw',q⟩
 have fin:wpAny (model X.prog X.w) X.A (subscripted slice false (.ref p) u) (fun r s3=>wpAny (model X.prog X.w) X.A (letTemporaryGo value (.ref p) r >>= fun _=>pure r) (EP X pins σ Q) X.xe s3) X.xe s:=by
  rw [hs]
  exact wpAny_operating (wpAny_mono h2 (fun r s3 h3=>wpAny_bind (wpAny_letTemporaryGo (wpAny_pure h3))) fun _ _ x=>x)
 first
  | exact wpAny_pure (wpAny_bind fin)
  | exact wpAny_bind (wpAny_pure (wpAny_bind fin))
  | exact wpAny_bind fin
theorem aLu{K:PySem.W.Frag}:sH K (fun x y H Q=>rIx K x y H Q\/bB4 x y H Q) dIx:=by
 intro A H x y d v u Q w rx ry e q
 by_cases hx:aZq x=true
 ·cases x<;>first | (cases hx;done) | skip
  rename_i t ks vs
  have e':aH (keyOk t y=true) (ofO (pA ks vs y)) = .ok d:=by cases y<;>exact e
  obtain ⟨hk,e2⟩:=aJ e'
  have ryr:Rep K H y u:=by
   rcases ry with h | ⟨a,kk,o,ds,vs',e1,_⟩
   ·exact h.mono (bN _ _)
   ·subst e1;cases kk<;>cases t<;>cases hk
  obtain ⟨a,o,e3,g,_,g2⟩:=aBd rx ryr hk
  obtain ⟨z,e4,rz⟩:=g2 d (sJ e2)
  subst e4
  exact .inr ⟨a,z,e3,g,q _ H (bA.refl _) rz⟩
 ·exact .inl (aXm (by simpa using hx) A H x y d v u Q w rx ry e q)
theorem dD(hu:X.A.units+64 < cLine)(ha:PE X a (tP X.K B f))(hb:PE X b (tP X.K B g))(hs:aF8 b:=by intro _ _;rfl):PE X (.Subscript a b pos) (tI X.K B (e2 dIx f g)) :=
 cI (aTz (aOh.or (aLt hu)) ha hb hs) fun _ _ _ h=>aFv aLu h
theorem aNf:oO X (.builtin "len") (fun xs H Q=>∃ a kvs,xs=[V.ref a]/\H a=some (.dK kvs)/\Q (.int kvs.length) H):=by
 intro pins s σ H xs us Q I r h
 obtain ⟨a,kvs,rfl,hk,q⟩:=h
 obtain ⟨u,rfl,ru⟩:=r.one
 obtain rfl:u=Value.ref a:=ru
 exact aZo I (.inl hk) fun t s' I'=>⟨.int kvs.length,H,I',⟨t,rfl⟩,q⟩
theorem aT5{K:PySem.W.Frag}{A:List Addr}{H:Hp}{ks ds:List D}{v:V}(rx:lG K A H (.dct false ks ds) v):∃ a kvs,v = .ref a/\H a=some (.dK kvs)/\kvs.length=ks.length:=by
 rcases rx with h | ⟨a,kk,o,ds',vs,e,e2,h,ko,r⟩
 ·obtain ⟨a,vs,e,q,r⟩:=vH.mp h
  rcases q with ⟨_,kvs,q1,rfl,_⟩ | ⟨q0,_⟩
  ·exact ⟨a,kvs,e,bN _ _ _ _ q1,by simp⟩
  ·cases q0
 ·cases kk<;>cases e
  rcases ko with ⟨_,kvs,rfl,rfl,_⟩ | ⟨q0,_⟩
  ·exact ⟨a,kvs,e2,h,by simp⟩
  ·cases q0
end
end Pu
namespace Pu
open PySem PySem.Spec PyProof.Rows L2
section
variable{K:PySem.W.Frag}{B A:List Addr}{H:Hp}{st:PSt}{σ:LSt}
theorem vJ{i j:Nat}{d:D}{k:OK}{xs:List D}(h:(st.set i (some (.v d)))[j]?=some (some (.o k xs))):j≠i/\st[j]?=some (some (.o k xs)):=by
 rw [List.getElem?_set] at h
 by_cases e:i=j
 ·subst e
  rw [if_pos rfl] at h
  split at h<;>simp at h
 ·rw [if_neg e] at h
  exact ⟨fun z=>e z.symm,h⟩
theorem Le.app{A':List Addr}{H':Hp}(l:Le A H A' H'):bA (hide (A++B) H) (hide (A'++B) H'):=fun b u q=>by
 have q1:=bN _ _ _ _ q
 have hb:b ∉ A++B:=fun z=>by rw [fO z] at q;cases q
 have q2:hide A H b=some u:=by rw [cD fun z=>hb (List.mem_append_left _ z)];exact q1
 have q3:=l b u q2
 have hb':b ∉ A':=fun z=>by rw [fO z] at q3;cases q3
 rw [cD fun z=>(List.mem_append.mp z).elim hb' fun z=>hb (List.mem_append_right _ z)]
 exact bN _ _ _ _ q3
theorem RS.set(r:RS K B A H st σ){d:D}{v:V}(i:Nat)(h:Rep K (hide (A++B) H) d v):RS K B A H (st.set i (some (.v d))) (σ.set i (some v)) where
 len:=by rw [List.length_set,List.length_set,r.len]
 own:=r.own
 dis:=r.dis
 val:=fun j d' e=>by
  rw [List.getElem?_set] at e
  by_cases hij:i=j
  ·subst hij
   rw [if_pos rfl] at e
   split at e
   ·rename_i hl
    simp at e
    subst e
    exact ⟨v,by rw [List.getElem?_set,if_pos rfl,if_pos (by rw [<-r.len];exact hl)],h⟩
   ·cases e
  ·rw [if_neg hij] at e
   obtain ⟨u,e1,q⟩:=r.val j d' e
   exact ⟨u,by rw [List.getElem?_set,if_neg hij];exact e1,q⟩
 lst:=fun j kk xs e=>by
  obtain ⟨hj,e'⟩:=vJ e
  obtain ⟨a,o,vs,e1,m,h1,ko,q,u⟩:=r.lst j kk xs e'
  refine ⟨a,o,vs,by rw [List.getElem?_set,if_neg fun z=>hj z.symm];exact e1,m,h1,ko,q,fun k k' ys ek ek2=>?_⟩
  obtain ⟨hk,ek'⟩:=vJ ek
  rw [List.getElem?_set,if_neg fun z=>hk z.symm] at ek2
  exact u k k' ys ek' ek2
theorem aT6{p:Addr}{o:HO}(w:Own (A++B) H):Own ((p :: A)++B) (upd H p o):=fun a ha=>by
 by_cases e:a=p
 ·subst e;rw [cH];rfl
 ·rw [bW e]
  exact w a ((List.mem_cons.mp ha).resolve_left e)
theorem aCq{p:Addr}{o:HO}(hp:H p=none):bA (hide (A++B) H) (hide ((p :: A)++B) (upd H p o)):=fun b u q=>by
 have q1:=bN _ _ _ _ q
 have hb:b ∉ A++B:=fun z=>by rw [fO z] at q;cases q
 have ne:b≠p:=bK q1 hp
 rw [cD (show b ∉ (p :: A)++B from fun z=>(List.mem_cons.mp z).elim ne hb),bW ne]
 exact q1
theorem aG0{p:Addr}{o:HO}(hp:H p=none):Le A H (p :: A) (upd H p o):=fun b u q=>by
 have q1:=bN _ _ _ _ q
 have hb:b ∉ A:=fun z=>by rw [fO z] at q;cases q
 have ne:b≠p:=bK q1 hp
 rw [cD fun z=>(List.mem_cons.mp z).elim ne hb,bW ne]
 exact q1
theorem RS.setO(r:RS K B A H st σ){p:Addr}{kk:OK}{o:HO}{ds:List D}{vs:List V}(i:Nat)(hp:H p=none)(ko:KOk K kk p o vs)(h:bL K (hide (A++B) H) ds vs) :
  RS K B (p :: A) (upd H p o) (st.set i (some (.o kk ds))) (σ.set i (some (.ref p))) where
 len:=by rw [List.length_set,List.length_set,r.len]
 own:=aT6 r.own
 dis:=fun a ha hb=>by
  rcases List.mem_cons.mp ha with rfl | ha
  ·exact r.own.free hp (List.mem_append_right _ hb)
  ·exact r.dis a ha hb
 val:=fun j d' e=>by
  rw [List.getElem?_set] at e
  by_cases hij:i=j
  ·subst hij
   rw [if_pos rfl] at e
   split at e<;>simp at e
  ·rw [if_neg hij] at e
   obtain ⟨u,e1,q⟩:=r.val j d' e
   exact ⟨u,by rw [List.getElem?_set,if_neg hij];exact e1,q.mono (aCq hp)⟩
 lst:=fun j k0 xs e=>by
  rw [List.getElem?_set] at e
  by_cases hij:i=j
  ·subst hij
   rw [if_pos rfl] at e
   split at e
   ·rename_i hl
    simp at e
    obtain ⟨e0,e⟩:=e
    subst e0 e
    refine ⟨p,o,vs,by rw [List.getElem?_set,if_pos rfl,if_pos (by rw [<-r.len];exact hl)],List.mem_cons_self,cH,ko,h.mono (aCq hp),fun k k' ys ek ek2=>?_⟩
    by_cases hk:i=k
    ·exact hk.symm
    ·rw [List.getElem?_set,if_neg hk] at ek ek2
     obtain ⟨a,o',vs',e1,m,h1,_⟩:=r.lst k k' ys ek
     rw [e1] at ek2
     cases ek2
     rw [hp] at h1;cases h1
   ·cases e
  ·rw [if_neg hij] at e
   obtain ⟨a,o',vs',e1,m,h1,ko',q,u⟩:=r.lst j k0 xs e
   have ne:a≠p:=bK h1 hp
   refine ⟨a,o',vs',by rw [List.getElem?_set,if_neg hij];exact e1,List.mem_cons_of_mem _ m,by rw [bW ne];exact h1,ko',q.mono (aCq hp),fun k k' ys ek ek2=>?_⟩
   by_cases hk:i=k
   ·subst hk
    rw [List.getElem?_set,if_pos rfl] at ek2
    split at ek2
    ·simp at ek2;exact absurd ek2.symm ne
    ·cases ek2
   ·rw [List.getElem?_set,if_neg hk] at ek ek2
    exact u k k' ys ek ek2
theorem RS.write(r:RS K B A H st σ){a:Addr}{i:Nat}{k0 k1:OK}{o':HO}{xs ds:List D}{vs':List V}(hi:st[i]?=some (some (.o k0 xs)))(hs:σ[i]?=some (some (.ref a)))(ko:KOk K k1 a o' vs')(h:bL K (hide (A++B) H) ds vs') :
  RS K B A (upd H a o') (st.set i (some (.o k1 ds))) σ/\Le A H A (upd H a o'):=by
 obtain ⟨a',o,vs,e1,m,h1,_,q,u⟩:=r.lst i k0 xs hi
 rw [hs] at e1
 cases e1
 have hh:hide (A++B) (upd H a o')=hide (A++B) H:=yQ (List.mem_append_left _ m)
 refine ⟨⟨by rw [List.length_set,r.len],fun b hb=>?_,r.dis,fun j d e=>?_,fun j kj ys e=>?_⟩,?_⟩
 ·by_cases e:b=a
  ·subst e;rw [cH];rfl
  ·rw [bW e];exact r.own b hb
 ·rw [hh]
  rw [List.getElem?_set] at e
  by_cases hij:i=j
  ·subst hij
   rw [if_pos rfl] at e
   split at e<;>simp at e
  ·rw [if_neg hij] at e
   exact r.val j d e
 ·rw [hh]
  have ne:∀ {k:Nat} {kz:OK} {zs:List D},(st.set i (some (.o k1 ds)))[k]?=some (some (.o kz zs))->∃ kw ws,st[k]?=some (some (.o kw ws)):=fun {k kz zs} ek=>by
   rw [List.getElem?_set] at ek
   by_cases hk:i=k
   ·subst hk;exact ⟨_,_,hi⟩
   ·rw [if_neg hk] at ek;exact ⟨_,_,ek⟩
  rw [List.getElem?_set] at e
  by_cases hij:i=j
  ·subst hij
   rw [if_pos rfl] at e
   split at e
   ·simp at e
    obtain ⟨e0,e⟩:=e
    subst e0 e
    exact ⟨a,o',vs',hs,m,cH,ko,h,fun k kz zs ek ek2=>let ⟨kw,ws,ew⟩:=ne ek;u k kw ws ew ek2⟩
   ·cases e
  ·rw [if_neg hij] at e
   obtain ⟨c,oc,ws,c1,cm,ch,kc,cq,cu⟩:=r.lst j kj ys e
   have hca:c≠a:=fun z=>by subst z;exact hij (u j kj ys e c1).symm
   exact ⟨c,oc,ws,c1,cm,by rw [bW hca];exact ch,kc,cq,fun k kz zs ek ek2=>let ⟨kw,ws,ew⟩:=ne ek;cu k kw ws ew ek2⟩
 ·unfold Le
  rw [yQ m]
  exact bA.refl _
theorem RS.fz1(r:RS K B A H st σ)(i:Nat):∃ A',RS K B A' H (Pu.fz1 st i) σ/\Le A H A' H:=by
 unfold Pu.fz1
 split
 ·rename_i kk xs e
  obtain ⟨a,o,vs,e1,m,h1,ko,q,u⟩:=r.lst i kk xs e
  have hsub:∀ b∈A.filter (fun c=>decide (c≠a)),b∈A:=fun b hb=>(List.mem_filter.mp hb).1
  have hsub2:∀ b∈A.filter (fun c=>decide (c≠a))++B,b∈A++B:=fun b hb=>(List.mem_append.mp hb).elim (fun z=>List.mem_append_left _ (hsub b z)) (List.mem_append_right _)
  have sm:bA (hide (A++B) H) (hide (A.filter (fun c=>decide (c≠a))++B) H):=iV hsub2
  have hout:a ∉ A.filter (fun c=>decide (c≠a))++B:=fun z=>(List.mem_append.mp z).elim (fun z=>of_decide_eq_true (List.mem_filter.mp z).2 rfl) (r.dis a m)
  refine ⟨A.filter fun c=>decide (c≠a),⟨by rw [List.length_set,r.len],fun b hb=>r.own b (hsub2 b hb),fun b hb=>r.dis b (hsub b hb),fun j d ej=>?_,fun j kj ys ej=>?_⟩,iV hsub⟩
  ·rw [List.getElem?_set] at ej
   by_cases hij:i=j
   ·subst hij
    rw [if_pos rfl] at ej
    split at ej
    ·simp at ej
     subst ej
     exact ⟨_,e1,ko.rep (by rw [cD hout];exact h1) (q.mono sm)⟩
    ·cases ej
   ·rw [if_neg hij] at ej
    obtain ⟨v,e2,q2⟩:=r.val j d ej
    exact ⟨v,e2,q2.mono sm⟩
  ·obtain ⟨hj,ej'⟩:=vJ ej
   obtain ⟨c,oc,ws,c1,cm,ch,kc,cq,cu⟩:=r.lst j kj ys ej'
   have hca:c≠a:=fun z=>by subst z;exact hj (u j kj ys ej' c1)
   exact ⟨c,oc,ws,c1,List.mem_filter.mpr ⟨cm,decide_eq_true hca⟩,ch,kc,cq.mono sm,fun k kz zs ek ek2=>cu k kz zs (vJ ek).2 ek2⟩
 ·exact ⟨A,r,Le.refl⟩
theorem RS.fz(is:List Nat):∀ {A:List Addr} {st:PSt},RS K B A H st σ->∃ A',RS K B A' H (is.foldl Pu.fz1 st) σ/\Le A H A' H:=by
 induction is with
 | nil=>exact fun r=>⟨_,r,Le.refl⟩
 | cons i is ih =>
  intro A st r
  obtain ⟨A1,r1,l1⟩:=r.fz1 i
  obtain ⟨A2,r2,l2⟩:=ih r1
  exact ⟨A2,r2,l1.trans l2⟩
end
section
variable{X:Cx}{B:List Addr}{a b e:Expr}{f g:Ex}{pos:Pos}{bd bd':Bd}{sm:Stmt}{rest:List Stmt}
theorem jK:PSs X [] (tS X.K B dN):=vI aKg (by
 rintro Dn σ H ⟨A,st,r,rs,hr,p⟩
 cases hr
 exact p A σ H Le.refl rs)
theorem bB(h1:PS X sm (tS X.K B bd))(h2:PSs X rest (tS X.K B bd')):PSs X (sm :: rest) (tS X.K B (bU bd bd')):=by
 refine vI (aBj h1 h2) ?_
 rintro Dn σ H ⟨A,st,r,rs,hr,p⟩
 obtain ⟨x,hx,h3⟩:=R.ok_of hr
 refine ⟨A,st,x,rs,hx,?_⟩
 cases x with
 | nx s1=>exact fun A' σ' H' l rs'=>⟨A',s1,r,rs',h3,p.mono l⟩
 | rt d=>cases h3;exact p
 | bk s1=>cases h3;exact p
 | ct s1=>cases h3;exact p
theorem bR(h1:PS X sm (tS X.K B bd)):PSs X [sm] (tS X.K B bd):=aF2 h1
theorem aJu(is:List Nat)(h:PS X sm (tS X.K B bd)):PS X sm (tS X.K B (sFz is bd)):=fC h (by
 rintro Dn σ H ⟨A,st,r,rs,hr,p⟩
 obtain ⟨A',rs',l⟩:=RS.fz is rs
 exact ⟨A',_,r,rs',hr,p.mono l⟩)
theorem cJ(h:PE X e (tI X.K B f)):PS X (.Return (some e) pos) (tS X.K B (cY f)):=fC (aIq h) (by
 rintro Dn σ H ⟨A,st,r,rs,hr,p⟩
 obtain ⟨d,hd,h3⟩:=R.ok_of hr
 cases h3
 exact ⟨A,st,d,rs,hd,fun v H' s q=>p A v H' (Le.of s) q⟩)
theorem dF(i:Nat){x:Str}{pos':Pos}(he:PE X e (tI X.K B f))(hN:X.N.Nodup)(hi:X.N[i]?=some x:=by rfl)(hx:Loc X.env.scope x:=by first | exact Or.inl rfl | exact Or.inr rfl)(hs:swapsWith e (some (.Name x pos')) pos.line X.env=pure false:=by rfl)
  (hf:X.fn x=true\/X.env.scope.names.lookup x=some .local:=by first | exact .inl rfl | exact .inr rfl | assumption):PS X (.Assign [.Name x pos'] e pos) (tS X.K B (eF i f)):=fC (aBk hN hi hx he hs hf) (by
 rintro Dn σ H ⟨A,st,r,rs,hr,p⟩
 obtain ⟨d,hd,h3⟩:=R.ok_of hr
 cases h3
 exact ⟨A,st,d,rs,hd,fun v H' s q=>p A _ H' (Le.of s) ((rs.mono s).set i q)⟩)
def tF(K:PySem.W.Frag)(B:List Addr)(f:Ex):TE:=fun σ H Q=>∃ A st ds,RS K B A H st σ/\f st = .ok (.lst ds)/\∀ p vs H',bA H H'->H' p=none->bL K (hide (A++B) H') ds vs->Q (.ref p) (upd H' p (.lst vs))
theorem aEn{es:List Expr}{r:Exs}(h:PA X es (tA X.K B r)):PE X (.List es pos) (tF X.K B (pY r)):=by
 refine cI (aOd h) ?_
 rintro σ H Q ⟨A,st,d,rs,hd,q⟩
 obtain ⟨xs,hx,h2⟩:=R.ok_of hd
 obtain ⟨c,h3⟩:=aJ h2
 cases h3
 exact ⟨A,st,_,rs,hx,fun vs H1 s1 r1=>⟨by rw [r1.length];exact lim c,fun p hp=>q p vs H1 s1 hp r1⟩⟩
theorem xH(i:Nat){x:Str}{pos':Pos}(he:PE X e (tF X.K B f))(hN:X.N.Nodup)(hi:X.N[i]?=some x:=by rfl)(hx:Loc X.env.scope x:=by first | exact Or.inl rfl | exact Or.inr rfl)(hs:swapsWith e (some (.Name x pos')) pos.line X.env=pure false:=by rfl)
  (hf:X.fn x=true\/X.env.scope.names.lookup x=some .local:=by first | exact .inl rfl | exact .inr rfl | assumption):PS X (.Assign [.Name x pos'] e pos) (tS X.K B (pG i f)):=fC (aBk hN hi hx he hs hf) (by
 rintro Dn σ H ⟨A,st,r,rs,hr,p⟩
 obtain ⟨d,hd,h3⟩:=R.ok_of hr
 cases d<;>first | (cases h3;done) | skip
 cases h3
 exact ⟨A,st,_,rs,hd,fun a vs H' s hn q=>p (a :: A) _ _ ((Le.of s).trans (aG0 hn)) ((rs.mono s).setO (kk := .l) i hn rfl q)⟩)
theorem pD{c:Expr}{t:Ex}{x y:List Stmt}(hc:PT X c (tT X.K B t))(ha:PSs X x (tS X.K B bd))(hb:PSs X y (tS X.K B bd')):PS X (.If c x y pos) (tS X.K B (sIf t bd bd')):=fC (aTw hc ha hb) (by
 rintro Dn σ H ⟨A,st,r,rs,hr,p⟩
 obtain ⟨d,hd,h3⟩:=R.ok_of hr
 obtain ⟨k,rfl,h4⟩:=rK h3
 refine ⟨A,st,k,rs,hd,fun H1 s1=>?_⟩
 cases k with
 | true=>exact ⟨A,st,r,rs.mono s1,h4,p.mono (Le.of s1)⟩
 | false=>exact ⟨A,st,r,rs.mono s1,h4,p.mono (Le.of s1)⟩)
theorem cL(i:Nat){x:Str}(hN:X.N.Nodup)(hi:X.N[i]?=some x:=by rfl)(hx:Loc X.env.scope x:=by first | exact Or.inl rfl | exact Or.inr rfl)
  (hf:X.fn x=true\/X.env.scope.names.lookup x=some .local:=by first | exact .inl rfl | exact .inr rfl | assumption):PG X (.Name x pos) (tG X.K B (tgN i)):=aQ5 (aRe hN hi hx hf) (by
 rintro v σ H Q ⟨A,st,d,s1,rs,hr,hg,q⟩
 cases hg
 exact q _ (rs.set i hr))
def tGs(K:PySem.W.Frag)(B:List Addr)(is:List Nat):TGs:=fun vs σ H Q=>∃ A st ds s1,RS K B A H st σ/\bL K (hide (A++B) H) ds vs/\pZ is ds st = .ok s1/\∀ σ',RS K B A H s1 σ'->Q σ' H
theorem aLv{es:List Expr}{t t':TGs}(h:PGs X es t)(m:∀ v σ H Q,t' v σ H Q->t v σ H Q):PGs X es t':=fun pins s σ H v u Q I r q=>h pins s σ H v u Q I r (m v σ H Q q)
theorem aQ9:PGs X [] (tGs X.K B []):=aLv aRf (by
 rintro v σ H Q ⟨A,st,ds,s1,rs,hr,hg,q⟩
 cases ds with
 | nil=>cases hg;exact ⟨cQ.mp hr,q σ rs⟩
 | cons _ _=>exact nomatch hg)
theorem aBe(i:Nat){is:List Nat}{x:Str}{es:List Expr}(h2:PGs X es (tGs X.K B is))(hN:X.N.Nodup)(hi:X.N[i]?=some x:=by rfl)(hx:Loc X.env.scope x:=by first | exact Or.inl rfl | exact Or.inr rfl)
  (hf:X.fn x=true\/X.env.scope.names.lookup x=some .local:=by first | exact .inl rfl | exact .inr rfl | assumption)
  (hs:(assignEach (.Name x pos :: es) X.env).map (·.2)=assign (.Name x pos) X.env :: (assignEach es X.env).map (·.2):=by rfl):PGs X (.Name x pos :: es) (tGs X.K B (i :: is)):=aLv (aO4 (cL i (pos:=pos) hN hi hx hf) h2 hs) (by
 rintro v σ H Q ⟨A,st,ds,s1,rs,hr,hg,q⟩
 cases ds with
 | nil=>exact nomatch hg
 | cons d ds =>
  obtain ⟨u,r,e,r1,r2⟩:=bY.mp hr
  exact ⟨u,r,e,A,st,d,st.set i (some (.v d)),rs,r1,rfl,fun σ' rs'=>⟨A,_,ds,s1,rs',r2,hg,q⟩⟩)
theorem aCr{h h':Heap}{l it:Addr}{items:Array Value}(hl:h.IsList l items)(s:Heap.SameBut it h h')(hne:l≠it):h'.IsList l items:=by
 obtain ⟨o,e,r⟩:=hl
 exact ⟨o,(s.2 l hne).trans e,r⟩
theorem aEo{M:Program}{w:World}{A:Around}{E:Value->Shared->Prop}{it t:Addr}{items:Array Value}(hne:t≠it):∀ (n i:Nat) (s:Shared) (Q:List Value->Shared->Prop),s.heap.IsListIter it t i->s.heap.IsList t items->i+n<=items.size ->
  (∀ h',h'.IsListIter it t (i+n)->Heap.SameBut it s.heap h'->Q ((items.toList.drop i).take n) { s with heap:=h' })->wpAny (model M w) A (draw (.ref it) n) Q E s
 | 0,i,s,Q,hit,_,_,hQ=>by
  show wpAny _ _ (pure []) Q E s
  exact wpAny_pure (by simpa using hQ s.heap hit (Heap.SameBut.refl ..))
 | n+1,i,s,Q,hit,ht,hle,hQ=>by
  have hlt:i < items.size:=by omega
  show wpAny _ _ (pyNext (.ref it) >>= _) Q E s
  refine wpAny_bind (wpAny_pyNext_list_item hit ht (x:=items[i]) (by simp [hlt]) fun h1 hit1 hs1=>?_)
  refine wpAny_bind (wpAny_holding (aEo hne n (i+1) _ _ hit1 (aCr ht hs1 hne) (by omega) fun h2 hit2 hs2=>wpAny_pure ?_))
  have hd:items.toList.drop i=items[i] :: items.toList.drop (i+1):=by simp [List.drop_eq_getElem_cons,hlt]
  have:=hQ h2 (by rw [show i+(n+1)=i+1+n by omega];exact hit2) (hs1.trans hs2)
  rw [hd,List.take_succ_cons] at this
  exact this
theorem yS{M:Program}{w:World}{A:Around}{E:Value->Shared->Prop}{s:Shared}{env:Env}{elts:List Expr}{x1:Nat}{pos:Pos}{t:Addr}{items:Array Value}{Q:Unit->Shared->Prop}(hh:A.handled=none)(ht:s.heap.IsList t items)
  (hn:(assignEach elts env).length=items.size) (hstar:(assignEach elts env).findIdx? (·.1)=none)
  (h:∀ h',Heap.ExtBut s.heap.objs.size s.heap h'->wpAny (model M w) A (assignInOrder ((assignEach elts env).map (·.2)) items.toList) Q E { s with heap:=h' }) :
  wpAny (model M w) A (assign (.Tuple elts x1 pos) env (.ref t)) Q E s:=by
 have hlt:t≠s.heap.objs.size:=by obtain ⟨o,ho,_⟩:=ht;exact Nat.ne_of_lt (Heap.lt_size ho)
 rw [assign_Tuple]
 refine wpAny_bind (wpAny_standAt ?_)
 unfold unpack
 rw [hn,hstar]
 refine wpAny_bind (wpAny_holding ?_)
 unfold unpackItems
 refine wpAny_bind ?_
 unfold notIterableAtAll
 refine wpAny_bind (wpAny_specialOf ht.typeIs PySem.F.slot_list_iter.lookup ?_)
 refine wpAny_pure ?_
 simp only [Bool.false_eq_true,if_false]
 refine wpAny_bind (wpAny_holding (wpAny_pyIter_list ht ?_))
 have ht0:(s.heap.push { cls := .type "list_iterator", data := .fields #[.ref t,rawInt 0] }).IsList t items:=by
  obtain ⟨o,ho,r⟩:=ht
  exact ⟨o,Heap.get?_push_of_some _ ho,r⟩
 refine wpAny_bind (wpAny_holding (aEo hlt items.size 0 _ _ ⟨_,Heap.get?_push_size _ rfl,rfl,rfl⟩ ht0 (by omega) fun h1 hit1 hs1=>?_))
 have hall:List.take items.size (List.drop 0 items.toList)=items.toList:=by
  rw [List.drop_zero];exact List.take_of_length_le (by simp)
 rw [hall]
 rw [if_neg (by simp)]
 refine wpAny_bind (wpAny_holding (wpAny_pyNext_list_end hh hit1 (aCr ht0 hs1 hlt) (by simp) fun h2 he2=>?_))
 simp only [Option.isSome_none,Bool.false_eq_true,if_false]
 refine wpAny_pure (h h2 fun b o hb e=>he2 b o hb (hs1.extBut b o hb (Heap.get?_push_of_some _ e)))
def bDo(K:PySem.W.Frag)(n:Nat)(t:TGs):TG:=fun v σ H Q=>∃ a xs,v = .ref a/\(SqT K H a xs\/SqL K H a xs)/\xs.length=n/\t xs σ H Q
theorem aXo{es:List Expr}{k:Nat}{t:TGs}{n:Nat}(hc:X.calm=true)(h:PGs X es t)
  (hn:(assignEach es X.env).length=n:=by rfl) (hst:(assignEach es X.env).findIdx? (·.1)=none:=by rfl):PG X (.Tuple es k pos) (bDo X.K n t):=by
 intro pins s σ H v u Q I r hw
 obtain ⟨a,xs,e1,hq,hl,hw⟩:=hw
 rcases hq with hq | hq
 ·exact aVi hc h hn hst pins s σ H v u Q I r ⟨a,xs,e1,hq,hl,hw⟩
 ·subst e1
  cases r
  obtain ⟨its,rv,ht,hz⟩:=I.list hq
  refine yS (I.ok.hd hc) ht.isList (by simp [hn,<-hl,rv.length]) hst fun h' hx=>?_
  have I1:Inv X pins σ H { s with heap:=h' }:=I.kept (t':=s.toks) fun b o e=>hx b o (Nat.ne_of_lt (Heap.lt_size e)) e
  exact h pins _ σ H xs _ Q I1 (by simpa using rv) hw
theorem aCs{s1:PSt}:∀ (is:List Nat) (ds:List D) (st:PSt),pZ is ds st = .ok s1->ds.length=is.length:=by
 intro is
 induction is with
 | nil=>intro ds st h;cases ds with | nil=>rfl | cons _ _=>exact nomatch h
 | cons i is ih=>intro ds st h;cases ds with | nil=>exact nomatch h | cons _ ds=>exact congrArg (· + 1) (ih ds _ h)
theorem aV1{is:List Nat}{es:List Expr}{k:Nat}(hc:X.calm=true)(h:PGs X es (tGs X.K B is))(hn:(assignEach es X.env).length=is.length:=by rfl)(hst:(assignEach es X.env).findIdx? (·.1)=none:=by rfl):PG X (.Tuple es k pos) (tG X.K B (tgT is)):=aQ5 (aXo hc h hn hst) (by
 rintro v σ H Q ⟨A,st,d,s1,rs,hr,hg,q⟩
 cases d<;>first | (cases hg;done) | skip
 ·rename_i ds
  obtain ⟨a,vs,e,h1,h2⟩:=bM hr
  exact ⟨a,vs,e,.inl (uV (bN _ _) h1),by rw [h2.length];exact aCs is ds st hg,A,st,ds,s1,rs,h2,hg,q⟩
 ·rename_i ds
  obtain ⟨a,vs,e,h1,h2⟩:=bZ.mp hr
  exact ⟨a,vs,e,.inr ((bN _ _).seq h1),by rw [h2.length];exact aCs is ds st hg,A,st,ds,s1,rs,h2,hg,q⟩)
theorem bB5{tg:Expr}{t:Tg}(he:PE X e (tI X.K B f))(hg:PG X tg (tG X.K B t))(hs:swapsWithSole [tg] e pos.line X.env=pure false:=by rfl)(hw:swappedStores [tg] e X.env=pure none:=by rfl)
  (h1:(assignEach [tg] X.env).map (·.2)=[assign tg X.env]:=by rfl):PS X (.Assign [tg] e pos) (tS X.K B (aW8 t f)):=fC (aIr he hg hs hw h1) (by
 rintro Dn σ H ⟨A,st,r,rs,hr,p⟩
 obtain ⟨d,hd,h3⟩:=R.ok_of hr
 obtain ⟨s1,hs1,h4⟩:=R.ok_of h3
 cases h4
 exact ⟨A,st,d,rs,hd,fun v H' s q=>⟨A,st,d,s1,rs.mono s,q,hs1,fun σ' rs'=>p A σ' H' (Le.of s) rs'⟩⟩)
theorem lM{tg iter:Expr}{body:List Stmt}{t:Tg}{it:ItE}(hi:L2.PI X tg iter (tIt X.K B it))(hg:PG X tg (tG X.K B t))(hb:PSs X body (tS X.K B bd))(hp:PassesOwn (model X.prog X.w) X.A X.env X.xe)(hc:X.calm=true)
  (hs:∀ x,foldedSetIterable iter X.env x=pure x:=by intro _;rfl):PS X (.For tg iter body [] pos) (tS X.K B (qC t it bd)):=fC (aVk hp hc hi hg hb hs) (by
 rintro Dn σ H ⟨A,st,r,rs,hr,p⟩
 obtain ⟨ds,hd,h3⟩:=R.ok_of hr
 refine ⟨A,st,ds,rs,hd,fun J H1 s1 ito=>?_⟩
 refine ⟨fun i m σ' H'=>∃ A' st',m=ds.length - i/\i<=ds.length/\RS X.K B A' H' st' σ'/\forR t bd (ds.drop i) st' = .ok r/\Le A H1 A' H',⟨ds.length,A,st,by simp,Nat.zero_le _,rs.mono s1,by rw [List.drop_zero];exact h3,Le.refl⟩,?_⟩
 rintro i m σ' H' ⟨A',st',rfl,hle,rs',hf,l⟩
 obtain ⟨i1,i2⟩:=ito A' H' l rs'.own i
 by_cases hlt:i < ds.length
 ·have hd':ds[i]?=some ds[i]:=List.getElem?_eq_getElem hlt
  obtain ⟨go,yl⟩:=i1 _ hd'
  rw [List.drop_eq_getElem_cons hlt] at hf
  obtain ⟨s2,hs2,h5⟩:=R.ok_of hf
  obtain ⟨fl,hfl,h6⟩:=R.ok_of h5
  refine .inr ⟨go,fun σ2 H2=>∃ A2 st2,i+1<=ds.length/\RS X.K B A2 H2 st2 σ2/\forR t bd (ds.drop (i+1)) st2 = .ok r/\Le A H1 A2 H2,?_,fun x H2 y=>?_⟩
  ·rintro σ2 H2 ⟨A2,st2,hle2,rs2,hf2,l2⟩
   exact ⟨ds.length - (i+1),by omega,A2,st2,rfl,hle2,rs2,hf2,l2⟩
  ·obtain ⟨sm,rx⟩:=yl x H2 y
   have l5:Le A H1 A' H2:=l.trans (Le.of sm)
   refine ⟨A',st',ds[i],s2,rs'.mono sm,rx,hs2,fun σ3 rs3=>⟨A',s2,fl,rs3,hfl,?_⟩⟩
   cases fl with
   | nx s4=>exact fun A4 σ4 H4 l4 rs4=>⟨A4,s4,hlt,rs4,h6,l5.trans l4⟩
   | ct s4=>exact fun A4 σ4 H4 l4 rs4=>⟨A4,s4,hlt,rs4,h6,l5.trans l4⟩
   | bk s4=>cases h6;exact p.mono ((Le.of s1).trans l5)
   | rt d=>cases h6;exact p.mono ((Le.of s1).trans l5)
 ·have e:i=ds.length:=by omega
  subst e
  rw [List.drop_length] at hf
  cases hf
  exact .inl ⟨i2 (Nat.le_refl _),p A' σ' H' ((Le.of s1).trans l) rs'⟩)
theorem aG1(n:Nat){c:Expr}{t:Ex}{body:List Stmt}(hc:PT X c (tT X.K B t))(hb:PSs X body (tS X.K B bd))(hp:PassesOwn (model X.prog X.w) X.A X.env X.xe):PS X (.While c body [] pos) (tS X.K B (aBs n t bd)):=fC (aO6 hp hc hb) (by
 rintro Dn σ H ⟨A,st,r,rs,hr,p⟩
 refine ⟨fun m σ' H'=>∃ A' st',RS X.K B A' H' st' σ'/\jG t bd m st' = .ok r/\Le A H A' H',⟨n,A,st,rs,hr,Le.refl⟩,?_⟩
 rintro m σ' H' ⟨A',st',rs',hw,l⟩
 cases m with
 | zero=>exact nomatch hw
 | succ m =>
  obtain ⟨d,hd,h3⟩:=R.ok_of hw
  obtain ⟨k,rfl,h4⟩:=rK h3
  refine ⟨A',st',k,rs',hd,fun H1 s1=>?_⟩
  cases k with
  | false =>
   cases h4
   exact p A' σ' H1 (l.trans (Le.of s1)) (rs'.mono s1)
  | true =>
   obtain ⟨fl,hfl,h6⟩:=R.ok_of h4
   refine ⟨fun σ2 H2=>∃ A2 st2,RS X.K B A2 H2 st2 σ2/\jG t bd m st2 = .ok r/\Le A H A2 H2,?_,A',st',fl,rs'.mono s1,hfl,?_⟩
   ·rintro σ2 H2 ⟨A2,st2,rs2,hf2,l2⟩
    exact ⟨m,Nat.lt_succ_self m,A2,st2,rs2,hf2,l2⟩
   ·cases fl with
    | nx s4=>exact fun A4 σ4 H4 l4 rs4=>⟨A4,s4,rs4,h6,l.trans ((Le.of s1).trans l4)⟩
    | ct s4=>exact fun A4 σ4 H4 l4 rs4=>⟨A4,s4,rs4,h6,l.trans ((Le.of s1).trans l4)⟩
    | bk s4=>cases h6;exact p.mono (l.trans (Le.of s1))
    | rt d=>cases h6;exact p.mono (l.trans (Le.of s1)))
theorem aXp{K:PySem.W.Frag}{A:List Addr}{H:Hp}{ds:List D}{vs:List V}{l:Addr}(hq:SqL K (hide (A++B) H) l vs)(r:bL K (hide (A++B) H) ds vs):aNe K B A H (Itl K l) ds:=by
 intro A' H' le own i
 have hq':SqL K H' l vs:=(bN _ _).seq ((Le.app le).seq hq)
 refine ⟨fun d hd=>?_,fun hl=>⟨vs,hq',by rw [r.length];exact hl⟩⟩
 obtain ⟨v,hv,rv⟩:=r.get hd
 refine ⟨⟨vs,v,hq',hv⟩,fun x H3 y=>⟨by rw [y.1];exact bA.refl _,?_⟩⟩
 have hx:=y.2 vs hq'
 rw [y.1]
 rw [hv] at hx
 cases hx
 exact rv.mono (Le.app le)
theorem aXq{K:PySem.W.Frag}{A:List Addr}{H:Hp}{ds:List D}{vs:List V}{l:Addr}(hq:SqT K (hide (A++B) H) l vs)(r:bL K (hide (A++B) H) ds vs):aNe K B A H (Itt K l) ds:=by
 intro A' H' le own i
 have hq':SqT K H' l vs:=uV (bN _ _) (uV (Le.app le) hq)
 refine ⟨fun d hd=>?_,fun hl=>⟨vs,hq',by rw [r.length];exact hl⟩⟩
 obtain ⟨v,hv,rv⟩:=r.get hd
 refine ⟨⟨vs,v,hq',hv⟩,fun x H3 y=>⟨by rw [y.1];exact bA.refl _,?_⟩⟩
 have hx:=y.2 vs hq'
 rw [y.1]
 rw [hv] at hx
 cases hx
 exact rv.mono (Le.app le)
theorem aQa{K:PySem.W.Frag}{A:List Addr}{H:Hp}{lo:Int}{n:Nat}:aNe K B A H (Itr lo n) (fL lo n):=by
 intro A' H' le own i
 have hl:(fL lo n).length=n:=by simp [fL]
 refine ⟨fun d hd=>?_,fun h=>by rw [hl] at h;exact h⟩
 have hi:i < n:=by
  have:=(List.getElem?_eq_some_iff.mp hd).1
  rw [hl] at this;exact this
 have e:d = .int (lo+(i:Int)):=by
  unfold fL at hd
  rw [List.getElem?_map,List.getElem?_range hi] at hd
  exact (Option.some.inj hd).symm
 subst e
 exact ⟨hi,fun x H3 y=>⟨by rw [y.1];exact bA.refl _,aV.mpr y.2⟩⟩
def Its(z:List Nat):It:=⟨fun i _=>i < z.length,fun i H x H'=>H'=H/\∃ c,z[i]?=some c/\x = .str ⟨#[c]⟩,fun i _=>z.length<=i⟩
theorem aQb{P:Program}{w:World}{K:PySem.W.Frag}{tg:Expr}{z:List Nat}{it:Addr}{n:String}{t:Tok}(hn:n = "str_ascii_iterator" \/ n = "str_iterator"):Turn P w K tg (Its z) [it] it (fun i h=>h.IsStrIter it n ⟨z.toArray⟩ t i) where
 mem:=by simp
 obj:=fun i h st b hb=>by
  have e:b=it:=by simpa using hb
  subst e
  obtain ⟨o,e,c,d⟩:=st
  exact ⟨o,e,fun v z=>by rw [d] at z;cases z⟩
 keep:=fun i h h' st k=>let ⟨o,e,r⟩:=st;⟨o,k it (by simp) o e,r⟩
 item:=by
  intro X hP hw hK hc i pins s σ H E I hf st hg
  subst hP hw hK
  obtain ⟨f0,f1,f2,f3,f4,f5⟩:=hf it (by simp)
  have fin:∀ v h' tk,SignAt ⟨z.toArray⟩ i v->Heap.IsStrIter h' it n ⟨z.toArray⟩ t (i+1)->(∀ b o,b ∉ [it]->s.heap.get? b=some o->h'.get? b=some o) ->
    ∃ u,some v=some u/\wpAny (model X.prog X.w) X.A (letOwnedTupleGo tg (.ref it) u) (fun _ s2=>∃ x H',Inv X pins σ H' s2/\RelV x u/\(Its z).yld i H x H'/\Heap.IsStrIter s2.heap it n ⟨z.toArray⟩ t (i+1)/\∀ b∈[it],H' b=none) E { s with heap:=h',toks:=tk }:=by
   intro v h' tk hv st' kk
   obtain ⟨c,u,hcu,rfl⟩:=hv
   have I1:Inv X pins σ H { s with heap:=h',toks:=tk }:=I.turned (fun b o hb e=>kk b o (by simpa using hb) e) f0 f1 f3 f4 f5
   obtain ⟨o,e,c',d⟩:=id st'
   refine ⟨_,rfl,aKh (s:={ s with heap:=h',toks:=tk }) e c' d (by rcases hn with rfl | rfl<;>decide) ⟨.str ⟨#[c]⟩,H,I1,⟨u,rfl⟩,⟨rfl,c,?_,rfl⟩,st',fun b hb=>(hf b hb).1⟩⟩
   simpa using hcu
  have hg2:i < z.length:=hg
  have hg':i < (⟨z.toArray⟩:Str).cps.size:=by simpa using hg2
  rcases hn with rfl | rfl
  ·exact (Walks.strAscii (prog:=X.prog) (w:=X.w) (I.ok.hd hc) it ⟨z.toArray⟩ t).item i s _ _ hg' st fun v h' tk hv st' kk=>fin v h' tk hv st' kk
  ·exact (Walks.strWide (prog:=X.prog) (w:=X.w) (I.ok.hd hc) it ⟨z.toArray⟩ t).item i s _ _ hg' st fun v h' tk hv st' kk=>fin v h' tk hv st' kk
 done:=by
  intro X hP hw hK hc i pins s σ H E I hf st hg
  subst hP hw hK
  obtain ⟨f0,f1,f2,f3,f4,f5⟩:=hf it (by simp)
  have hg2:z.length<=i:=hg
  rcases hn with rfl | rfl
  ·exact wpAny_pyNext_ascii_end (I.ok.hd hc) st (by simpa using hg2) fun h' eb=>⟨rfl,I.turned (t':=s.toks) (fun b o hb e=>eb b o hb e) f0 f1 f3 f4 f5⟩
  ·exact wpAny_pyNext_wide_end (I.ok.hd hc) st (by simpa using hg2) fun h' eb=>⟨rfl,I.turned (t':=s.toks) (fun b o hb e=>eb b o hb e) f0 f1 f3 f4 f5⟩
 self:=fun _ _ _ _ _ st h=>by
  rcases hn with rfl | rfl
  ·exact wpAny_pyIter_striter_ascii st h
  ·exact wpAny_pyIter_striter_wide st h
theorem aXr{K:PySem.W.Frag}{A:List Addr}{H:Hp}{z:List Nat}:aNe K B A H (Its z) (z.map fun c => .str [c]):=by
 intro A' H' le own i
 refine ⟨fun d hd=>?_,fun h=>(by simpa using h:z.length<=i)⟩
 rw [List.getElem?_map] at hd
 cases hz:z[i]? with
 | none=>rw [hz] at hd;cases hd
 | some c =>
  rw [hz] at hd
  cases hd
  refine ⟨(List.getElem?_eq_some_iff.mp hz).1,fun x H3 y=>⟨by rw [y.1];exact bA.refl _,?_⟩⟩
  obtain ⟨c',hc',rfl⟩:=y.2
  rw [hz] at hc'
  cases hc'
  exact bI.mpr rfl
def bDp(K:PySem.W.Frag)(tl:TE):TI:=fun σ H R=>tl σ H fun x H1=>(∃ a,x = .ref a/\(((∃ xs,SqL K H1 a xs)/\R (Itl K a) H1)\/((∃ xs,SqT K H1 a xs)/\R (Itt K a) H1)))\/∃ z:List Nat,x = .str ⟨z.toArray⟩/\R (Its z) H1
theorem aXs{tg l:Expr}{tl:TE}(hl:PE X l tl):L2.PI X tg l (bDp X.K tl):=by
 intro pins s σ H R I h
 refine thn (hl pins s σ H _ I h) fun v s1 ⟨x,H1,I1,r1,q1⟩=>?_
 rcases q1 with ⟨a,e,q⟩ | ⟨z,rfl,q⟩
 rotate_left
 ·obtain ⟨t,rfl⟩:=r1
  refine wpAny_pyIter_strU ?_
  refine ⟨s1.heap.objs.size,[s1.heap.objs.size],_,_,H1,rfl,I1.kept (t':=s1.toks) fun b o e=>Heap.get?_push_of_some _ e,aQb (z:=z) (n:=strIterType ⟨z.toArray⟩) (t:=t) (by unfold strIterType;split<;>simp),⟨_,Heap.get?_push_size _ rfl,rfl,rfl⟩,fun b hb=>?_,q⟩
  have e:b=s1.heap.objs.size:=by simpa using hb
  subst e
  exact I1.fpOk (Nat.le_refl _) (I1.hok.fresh (Nat.le_refl _))
 subst e
 cases r1
 rcases q with ⟨⟨xs,hq⟩,q⟩ | ⟨⟨xs,hq⟩,q⟩
 ·obtain ⟨its,rv,p,hz⟩:=I1.list hq
  refine wpAny_pyIter_list p.isList ?_
  refine ⟨s1.heap.objs.size,[s1.heap.objs.size],_,_,H1,rfl,I1.kept (t':=s1.toks) fun b o e=>Heap.get?_push_of_some _ e,aMg a _,⟨_,Heap.get?_push_size _ rfl,rfl,rfl⟩,fun b hb=>?_,q⟩
  have e:b=s1.heap.objs.size:=by simpa using hb
  subst e
  exact I1.fpOk (Nat.le_refl _) (I1.hok.fresh (Nat.le_refl _))
 ·obtain ⟨its,rv,p,hz⟩:=I1.tuple hq
  refine wpAny_pyIter_tuple (show s1.heap.IsTuple a its.toArray from p) ?_
  refine ⟨s1.heap.objs.size,[s1.heap.objs.size],_,_,H1,rfl,I1.kept (t':=s1.toks) fun b o e=>Heap.get?_push_of_some _ e,aIs a _,⟨_,Heap.get?_push_size _ rfl,rfl,rfl⟩,fun b hb=>?_,q⟩
  have e:b=s1.heap.objs.size:=by simpa using hb
  subst e
  exact I1.fpOk (Nat.le_refl _) (I1.hok.fresh (Nat.le_refl _))
theorem nO{tg l:Expr}(hl:PE X l (tI X.K B f)):L2.PI X tg l (tIt X.K B (itE f)):=aJs (aXs hl) (by
 rintro σ H Rq ⟨A,st,ds,rs,hd,q⟩
 obtain ⟨x,hx,h2⟩:=R.ok_of hd
 refine ⟨A,st,x,rs,hx,fun v H1 s1 r1=>?_⟩
 cases x<;>first | (cases h2;done) | skip
 ·obtain ⟨_,h2⟩:=aJ h2
  cases h2
  exact .inr ⟨_,bI.mp r1,q _ H1 s1 aXr⟩
 ·cases h2
  obtain ⟨a,vs,e,h3,r3⟩:=bM r1
  exact .inl ⟨a,e,.inr ⟨⟨vs,uV (bN _ _) h3⟩,q _ H1 s1 (aXq h3 r3)⟩⟩
 ·cases h2
  obtain ⟨a,vs,e,h3,r3⟩:=bZ.mp r1
  exact .inl ⟨a,e,.inl ⟨⟨vs,(bN _ _).seq h3⟩,q _ H1 s1 (aXp h3 r3)⟩⟩)
theorem aAs{tg:Expr}{p:Pos}(hm:X.mg "range" = none)(ha:PE X a (tP X.K B f))(hg:Gl X "range" := by rfl)(hs:starEach [a] X.env=[(false,eval a X.env)]:=by rfl):L2.PI X tg (.Call (.Name "range" p) [a] [] pos) (tIt X.K B (tQ f)):=aJs (aMh hg hm (fG ha kY hs) hs) (by
 rintro σ H Rq ⟨A,st,ds,rs,hd,q⟩
 obtain ⟨x,hx,h2⟩:=R.ok_of hd
 obtain ⟨j,rfl,h3⟩:=aBr h2
 obtain ⟨c,h4⟩:=aJ h3
 rw [nJ] at c
 cases h4
 exact ⟨A,st,_,rs,hx,fun v H1 s1 r1=>⟨j,by rw [r1.int],by omega,by omega,q _ H1 s1 aQa⟩⟩)
theorem bB6{tg:Expr}{p:Pos}(hm:X.mg "range" = none)(ha:PE X a (tP X.K B f))(hb:PE X b (tP X.K B g))(hg:Gl X "range" := by rfl)(hs:starEach [a,b] X.env=[(false,eval a X.env),(false,eval b X.env)]:=by rfl)(hs2:starEach [b] X.env=[(false,eval b X.env)]:=by rfl)
  (hs3:starEach [a,b] X.env=(false,eval a X.env) :: starEach [b] X.env:=by rfl):L2.PI X tg (.Call (.Name "range" p) [a,b] [] pos) (tIt X.K B (aRy f g)):=aJs (aMi hg hm (fG ha (fG hb kY hs2) hs3) hs hs2) (by
 rintro σ H Rq ⟨A,st,ds,rs,hd,q⟩
 obtain ⟨x,hx,h2⟩:=R.ok_of hd
 obtain ⟨y,hy,h5⟩:=R.ok_of h2
 obtain ⟨i,rfl,h6⟩:=aBr h5
 obtain ⟨j,rfl,h3⟩:=aBr h6
 obtain ⟨c,h4⟩:=aJ h3
 rw [nJ] at c
 cases h4
 exact ⟨A,st,_,rs,hx,fun v H1 s1 r1=>⟨A,st,_,rs.mono s1,hy,fun u H2 s2 r2=>⟨i,j,by rw [r1.int,r2.int],⟨by omega,by omega,by omega,by omega⟩,q _ H2 (s1.trans s2) aQa⟩⟩⟩)
end
theorem aCt{K:PySem.W.Frag}{B:List Addr}{H:Hp}{N:List Str}{ds:List D}{vs:List V}(w:Own B H)(r:bL K (hide B H) ds vs):RS K B [] H (ds.map (fun d=>some (Sl.v d))++List.replicate (N.length - ds.length) none) (L2.start N vs):=by
 have hl:=r.length
 have nov:∀ (i:Nat) (s:Sl),(ds.map (fun d=>some (Sl.v d))++List.replicate (N.length - ds.length) none)[i]?=some (some s)->∃ d,ds[i]?=some d/\s = .v d:=fun i s e=>by
  by_cases hi:i < ds.length
  ·rw [List.getElem?_append_left (by simpa using hi),List.getElem?_map,List.getElem?_eq_getElem hi] at e
   simp at e
   exact ⟨ds[i],List.getElem?_eq_getElem hi,e.symm⟩
  ·rw [List.getElem?_append_right (by simpa using hi),List.getElem?_replicate] at e
   split at e<;>simp at e
 refine ⟨by unfold L2.start;simp [hl],by rw [List.nil_append];exact w,fun a ha=>absurd ha (by simp),fun i d e=>?_,fun i kk xs e=>?_⟩
 ·obtain ⟨d',e1,e2⟩:=nov i _ e
  cases e2
  obtain ⟨v,hv,rv⟩:=r.get e1
  refine ⟨v,?_,by rw [List.nil_append];exact rv⟩
  unfold L2.start
  have hi:i < vs.length:=(List.getElem?_eq_some_iff.mp hv).1
  rw [List.getElem?_append_left (by simpa using hi),List.getElem?_map,hv]
  rfl
 ·obtain ⟨d',e1,e2⟩:=nov i _ e
  cases e2
theorem cB{np n:Nat}{bd:Bd}(ds:List D)(d:D)(h:dJ np n bd ds = .ok d):ds.length=np:=(aJ h).1
end Pu
namespace Pu
open PySem PySem.Spec PyProof.Rows L2
structure DefOk(P:Program)(w:World)(K:PySem.W.Frag)(mg:Str->Option Value)(base:Heap)(x:Str)(k np:Nat)(p:List D->R D):Prop where
 ex:∃ (fa:Addr) (fd:FuncData) (ps:List Str),FnOk P w K mg base CX0 k fa fd ps (spI K np p)/\mg x=some (.ref fa)/\PySem.W.keepIn K (.ref fa)=true/\Binds K fd ps []
 len:∀ ds d,p ds = .ok d->ds.length=np
theorem DefOk.of{P:Program}{w:World}{K:PySem.W.Frag}{mg:Str->Option Value}{base:Heap}{x:Str}{k np:Nat}{p:List D->R D}{fa:Addr}{fd:FuncData}{ps:List Str}(h:FnOk P w K mg base CX0 k fa fd ps (spI K np p))(m:mg x=some (.ref fa))
  (kp:PySem.W.keepIn K (.ref fa)=true) (b:Binds K fd ps []) (l:∀ ds d,p ds = .ok d->ds.length=np):DefOk P w K mg base x k np p:=⟨⟨fa,fd,ps,h,m,kp,b⟩,l⟩
section
variable{X:Cx}{B:List Addr}{a b e:Expr}{f g:Ex}{pos:Pos}
theorem aL{x:Str}{k j np:Nat}{p:List D->R D}{es:List Expr}{r:Exs}{p0:Pos}(h:DefOk X.prog X.w X.K X.mg X.base x k np p)(hr:Room j X.A)(hk:k<=j)(ha:PA X (e :: es) (tA X.K B r))(hg:Gl X x:=by rfl)(hdb:(x==("__debug__" : Str))=false:=by decide)
  (he:starEach (e :: es) X.env=(false,eval e X.env) :: starEach es X.env:=by rfl) (hpl:(backTo pos (starEach es X.env)).any (·.1)=false:=by rfl):PE X (.Call (.Name x p0) (e :: es) [] pos) (tI X.K B (aX p r)):=by
 obtain ⟨fa,fd,ps,F,m,kp,bd⟩:=h.ex
 exact aXn F (hr.mono hk) m kp bd h.len ha hg hdb he hpl
theorem aXt{K:PySem.W.Frag}{H:Hp}{a:Addr}{ns:List Int}{p:List D->R D}{E:XK}(hS:SqL K H a (ns.map V.int))(h:p [.lst (ns.map D.int)] = .ok (.bl true)):spI K 1 p [.ref a] H (fun v _=>v = .bl true) E:=by
 refine ⟨[],[.lst (ns.map D.int)],.bl true,fun b hb=>absurd hb (by simp),?_,rfl,h,fun v H' _ r=>bO.mp r⟩
 rw [uW]
 refine .cons (bZ.mpr ⟨a,_,rfl,hS,?_⟩) .nil
 clear hS h
 induction ns with
 | nil=>exact .nil
 | cons n ns ih=>exact .cons (aV.mpr rfl) ih
theorem fK{p0:Pos}(hm:X.mg "len" = none)(ha:PE X a (tP X.K B f))(hg:Gl X "len" := by rfl)(hs:starEach [a] X.env=(false,eval a X.env) :: starEach [] X.env:=by rfl):PE X (.Call (.Name "len" p0) [a] [] pos) (tI X.K B (e1 dR f)):=by
 refine cI (tX (aFa.or (aFb.or aNf)) hg hm PySem.boot_len (fG ha kY hs) (he:=hs)) ?_
 rintro σ H Q ⟨A,st,d,rs,hd,q⟩
 obtain ⟨x,hx,h2⟩:=R.ok_of hd
 refine ⟨A,st,x,rs,hx,fun v H1 s1 r1=>?_⟩
 cases x<;>first | (cases h2;done) | skip
 ·obtain ⟨c,h3⟩:=aJ h2
  cases h3
  exact .inr (.inl ⟨_,by rw [r1.str],by rw [str_len];exact lim c,by rw [str_len];exact q _ H1 s1 (aV.mpr rfl)⟩)
 ·cases h2
  obtain ⟨l,vs,e,h3,r3⟩:=r1.tup
  exact .inl ⟨l,vs,by rw [e],.inr h3,by rw [r3.length];exact q _ H1 s1 (aV.mpr rfl)⟩
 ·cases h2
  obtain ⟨l,vs,e,h3,r3⟩:=r1.lst
  exact .inl ⟨l,vs,by rw [e],.inl h3,by rw [r3.length];exact q _ H1 s1 (aV.mpr rfl)⟩
 ·rename_i t ks ds
  cases t<;>first | (cases h2;done) | skip
  cases h2
  obtain ⟨a,kvs,e,h3,h4⟩:=aT5 r1
  exact .inr (.inr ⟨a,kvs,by rw [e],h3,by rw [h4];exact q _ H1 s1 (aV.mpr rfl)⟩)
theorem aJv:PO X none (tO X.K B aDy):=aQ4 aRq (by
 rintro σ H Q ⟨A,st,o,rs,ho,q⟩
 cases ho
 exact q H (bA.refl _))
theorem xJ(h:PE X e (tP X.K B f)):PO X (some e) (tO X.K B (pF f)):=aQ4 (aRr h) (by
 rintro σ H Q ⟨A,st,o,rs,ho,q⟩
 obtain ⟨x,hx,h2⟩:=R.ok_of ho
 obtain ⟨i,rfl,h3⟩:=aBr h2
 cases h3
 exact ⟨A,st,_,rs,hx,fun v H1 s1 r1=>⟨i,r1.int,q H1 s1⟩⟩)
theorem aHs{α:Type}(x:List α):∀ (k a:Nat),((List.range k).map (a + ·)).filterMap (x[·]?)=(x.drop a).take k
 | 0,a=>by simp
 | k+1,a=>by
  rw [List.range_succ_eq_map,List.map_cons,List.filterMap_cons,List.map_map]
  have e:((fun b=>a+b) ∘ Nat.succ)=fun b=>(a+1)+b:=by funext b;simp only [Function.comp_apply];omega
  rw [e]
  have ih:=aHs x k (a+1)
  rw [ih]
  by_cases h:a < x.length
  ·rw [Nat.add_zero,List.getElem?_eq_getElem h]
   simp only [List.drop_eq_getElem_cons h,List.take_succ_cons]
  ·rw [Nat.add_zero,List.getElem?_eq_none (by omega)]
   simp only [List.drop_eq_nil_of_le (by omega:x.length<=a),List.drop_eq_nil_of_le (by omega:x.length<=a+1),List.take_nil]
theorem aLw(n d:Nat)(o:Option Int):(match o with | none=>(d:Int) | some i=>if (1:Int) > 0 then max 0 (min (if i < 0 then i+(n:Int) else i) (n:Int)) else max (-1) (min (if i < 0 then i+(n:Int) else i) ((n:Int) - 1)))=((sIx n d o:Nat):Int):=by
 cases o with
 | none=>rfl
 | some i =>
  show (if (1:Int) > 0 then _ else _)=(((if i < 0 then (i+(n:Int)).toNat else min i.toNat n):Nat):Int)
  rw [if_pos (by decide)]
  by_cases h:i < 0
  ·rw [if_pos h,if_pos h];omega
  ·rw [if_neg h,if_neg h];omega
theorem aQc(lo hi:Option Int)(n:Nat):Builtin.Str.strSliceIndices lo hi 1 n=(List.range (sIx n n hi - sIx n 0 lo)).map (sIx n 0 lo + ·):=by
 unfold Builtin.Str.strSliceIndices
 simp only [show (1:Int) > 0 by decide,if_true]
 have e1:=aLw n 0 lo
 have e2:=aLw n n hi
 simp only [show (1:Int) > 0 by decide,if_true] at e1 e2
 rw [show ((0:Nat):Int)=0 from rfl] at e1
 refine Eq.trans (congrArg (fun z=>sliceRange z _ 1) (show _=((sIx n 0 lo:Nat):Int) from e1)) (Eq.trans (congrArg (fun z=>sliceRange _ z 1) (show _=((sIx n n hi:Nat):Int) from e2)) ?_)
 unfold sliceRange
 simp only [show (1:Int) > 0 by decide,if_true]
 have hc:(if ((sIx n 0 lo:Nat):Int) < ((sIx n n hi:Nat):Int) then (((sIx n n hi:Nat):Int) - ((sIx n 0 lo:Nat):Int)+1 - 1) / 1 else 0).toNat=sIx n n hi - sIx n 0 lo:=by
  by_cases h:((sIx n 0 lo:Nat):Int) < ((sIx n n hi:Nat):Int)
  ·rw [if_pos h,Int.ediv_one];omega
  ·rw [if_neg h];omega
 rw [hc]
 refine List.map_congr_left fun k _=>?_
 omega
theorem aT7(n d:Nat)(hd:d<=n)(o:Option Int):sIx n d o<=n:=by
 cases o with
 | none=>exact hd
 | some v =>
  show (if v < 0 then (v+(n:Int)).toNat else min v.toNat n)<=n
  by_cases hv:v < 0
  ·rw [if_pos hv];omega
  ·rw [if_neg hv];omega
theorem aNg(x:List Nat)(lo hi:Option Int):Txt.slice ⟨x.toArray⟩ lo hi=⟨(cut x lo hi).toArray⟩:=by
 unfold Txt.slice cut
 rw [str_len,aQc,List.length_map,List.length_range]
 have h1:=aT7 x.length x.length (Nat.le_refl _) hi
 by_cases h:sIx x.length x.length hi - sIx x.length 0 lo=x.length
 ·have e0:sIx x.length 0 lo=0\/x.length=0:=by omega
  rw [if_pos (by simp [h]),h]
  rcases e0 with e0 | e0
  ·rw [e0,List.drop_zero,List.take_length]
  ·rw [List.length_eq_zero_iff.mp e0];simp
 ·rw [if_neg (by simp [h])]
  have e:(fun (i:Nat)=>(⟨x.toArray⟩:Str).cps[i]?)=fun i=>x[i]?:=by funext i;simp
  rw [e,aHs]
def bDq:V->Option Int->Option Int->Hp->VK->Prop:=fun x lo hi H Q=>∃ z:List Nat,x = .str ⟨z.toArray⟩/\z.length<=sizeLine/\Q (.str ⟨(cut z lo hi).toArray⟩) H
theorem aXu:SlR X bDq:=by
 intro pins s σ H x v vl vu lo hi sl Q I rx hs pl pu h
 obtain ⟨z,rfl,hz,q⟩:=h
 obtain ⟨t,rfl⟩:=rx
 refine ⟨"str", _,PySem.F.slot_str_getitem.lookup,typeIs_str _ _ _,?_⟩
 have hl:(Txt.slice ⟨z.toArray⟩ lo hi).length<=sizeLine:=Nat.le_trans (Txt.slice_le _ _ _) (by rw [str_len];exact hz)
 have fin:∀ t' k,EP X pins σ Q (.str (Txt.slice ⟨z.toArray⟩ lo hi) t') { s with toks:=k }:=fun t' k=>⟨.str ⟨(cut z lo hi).toArray⟩,H,I.tok k,⟨t',by rw [aNg]⟩,q⟩
 cases pl with
 | none =>
  cases pu with
  | none=>exact wpAny_getItem_str_slice (l:=none) (u:=none) (st:=none) hs rfl (post_val_or_str ⟨hl,fin⟩)
  | int j uj=>exact wpAny_getItem_str_slice (l:=none) (u:=some (j,uj)) (st:=none) hs rfl (post_val_or_str ⟨hl,fin⟩)
 | int i ui =>
  cases pu with
  | none=>exact wpAny_getItem_str_slice (l:=some (i,ui)) (u:=none) (st:=none) hs rfl (post_val_or_str ⟨hl,fin⟩)
  | int j uj=>exact wpAny_getItem_str_slice (l:=some (i,ui)) (u:=some (j,uj)) (st:=none) hs rfl (post_val_or_str ⟨hl,fin⟩)
theorem aHt{K:PySem.W.Frag}{H:Hp}{ds:List D}{vs:List V}(lo hi:Option Int)(r:bL K H ds vs):bL K H (cut ds lo hi) (aMo vs lo hi):=by
 unfold cut aMo
 rw [r.length]
 exact (r.drop _).take _
theorem aT8{lo hi:Option Expr}{l u:ExO}{p2:Pos}(ha:PE X a (tP X.K B f))(hl:PO X lo (tO X.K B l))(hu:PO X hi (tO X.K B u)):PE X (.Subscript a (.Slice lo hi none p2) pos) (tI X.K B (eSl f l u)):=by
 refine cI (aGp (aKm.or aXu) ha hl hu) ?_
 rintro σ H Q ⟨A,st,d,rs,hd,q⟩
 obtain ⟨x,hx,h2⟩:=R.ok_of hd
 obtain ⟨l',hl',h3⟩:=R.ok_of h2
 obtain ⟨u',hu',h4⟩:=R.ok_of h3
 refine ⟨A,st,x,rs,hx,fun v H1 s1 r1=>⟨A,st,l',rs.mono s1,hl',fun H2 s2=>⟨A,st,u',rs.mono (s1.trans s2),hu',fun H3 s3=>?_⟩⟩⟩
 have r3:=r1.mono (s2.trans s3)
 cases x<;>first | (cases h4;done) | skip
 ·obtain ⟨c,h5⟩:=aJ h4
  cases h5
  exact .inr ⟨_,r3.str,lim c,q _ H3 (s1.trans (s2.trans s3)) (bI.mpr rfl)⟩
 ·cases h4
  obtain ⟨p,vs,e,h6,r6⟩:=r3.lst
  refine .inl ⟨p,vs,e,h6,fun n hn=>q _ _ (s1.trans (s2.trans (s3.trans (cX hn)))) ?_⟩
  exact iI (rs.own.mono (s1.trans (s2.trans s3))) hn (aHt _ _ r6)
end
end Pu
namespace Pu
open PySem PySem.Spec PyProof.Rows L2
def clo(cells:List (Str × Addr)):List (Str × NameKind)->List (Str × Addr)->List (Str × Addr)
 | [],acc=>acc
 | (n,k) :: r,acc=>if k == .free then clo cells r ((n,(cells.lookup n).getD 0) :: acc) else clo cells r acc
theorem xK{env:Env}:∀ (names:List (Str × NameKind)) (acc:List (Str × Addr)),(∀ y∈names,y.2 = .free->∃ c,env.cells.lookup y.1=some c) ->
  (forIn names acc fun x cs=>if x.2 == .free then (do let c <- cellOf env x.1;pure (ForInStep.yield ((x.1,c) :: cs))) else pure (ForInStep.yield cs):Sem (List (Str × Addr)))=pure (clo env.cells names acc)
 | [],acc,_=>by rw [List.forIn_nil];rfl
 | (n,k) :: r,acc,h=>by
  rw [List.forIn_cons]
  unfold clo
  by_cases hk:k = .free
  ·subst hk
   obtain ⟨c,e⟩:=h (n,.free) List.mem_cons_self rfl
   have e2:cellOf env n=pure c:=by unfold cellOf;rw [e]
   simp only [beq_self_eq_true,if_true,e2,e,Option.getD_some]
   show (forIn r ((n,c) :: acc) _:Sem (List (Str × Addr)))=_
   exact xK r _ fun y hy=>h y (List.mem_cons_of_mem _ hy)
  ·have hb:(k==NameKind.free)=false:=by simpa using hk
   simp only [hb,Bool.false_eq_true,if_false]
   show (forIn r acc _:Sem (List (Str × Addr)))=_
   exact xK r _ fun y hy=>h y (List.mem_cons_of_mem _ hy)
theorem aDn{scope:Scope}{env:Env}(h:∀ y∈scope.names,y.2 = .free->∃ c,env.cells.lookup y.1=some c):closureFor scope env=pure (clo env.cells scope.names []):=by
 have q:=xK (env:=env) scope.names [] h
 unfold closureFor
 rw [<-q]
 simp only [pure_bind,bind_pure]
theorem aG2{cells:List (Str × Addr)}:∀ (names:List (Str × NameKind)) (acc:List (Str × Addr)) (x:Str) (c:Addr),(∀ y∈names,y.2 = .free->∃ c,cells.lookup y.1=some c)->(x,c)∈clo cells names acc->((x,NameKind.free)∈names/\cells.lookup x=some c)\/(x,c)∈acc
 | [],acc,x,c,_,h => .inr h
 | (n,k) :: r,acc,x,c,hn,h=>by
  unfold clo at h
  have hr:∀ y∈r,y.2 = .free->∃ c,cells.lookup y.1=some c:=fun y hy=>hn y (List.mem_cons_of_mem _ hy)
  by_cases hk:k = .free
  ·subst hk
   rw [if_pos (by simp)] at h
   obtain ⟨c',e⟩:=hn (n,.free) List.mem_cons_self rfl
   rcases aG2 r _ x c hr h with ⟨h1,h2⟩ | h1
   ·exact .inl ⟨List.mem_cons_of_mem _ h1,h2⟩
   ·rcases List.mem_cons.mp h1 with h1 | h1
    ·cases h1
     refine .inl ⟨List.mem_cons_self,?_⟩
     have e':cells.lookup n=some c':=e
     rw [e'];rfl
    ·exact .inr h1
  ·rw [if_neg (by simpa using hk)] at h
   rcases aG2 r _ x c hr h with ⟨h1,h2⟩ | h1
   ·exact .inl ⟨List.mem_cons_of_mem _ h1,h2⟩
   ·exact .inr h1
theorem aG3{cells:List (Str × Addr)}:∀ (names:List (Str × NameKind)) (acc:List (Str × Addr)) (x:Str),((x,NameKind.free)∈names\/∃ c,(x,c)∈acc)->∃ c,(x,c)∈clo cells names acc
 | [],acc,x,h=>by
  rcases h with h | h
  ·cases h
  ·exact h
 | (n,k) :: r,acc,x,h=>by
  unfold clo
  by_cases hk:k = .free
  ·subst hk
   rw [if_pos (by simp)]
   refine aG3 r _ x ?_
   rcases h with h | ⟨c,h⟩
   ·rcases List.mem_cons.mp h with h | h
    ·cases h;exact .inr ⟨_,List.mem_cons_self⟩
    ·exact .inl h
   ·exact .inr ⟨c,List.mem_cons_of_mem _ h⟩
  ·rw [if_neg (by simpa using hk)]
   refine aG3 r _ x ?_
   rcases h with h | h
   ·rcases List.mem_cons.mp h with h | h
    ·cases h;exact absurd rfl hk
    ·exact .inl h
   ·exact .inr h
theorem qM{α:Type}:∀ {l:List (Str × α)} {x:Str} {c:α},(x,c)∈l->∃ c',l.lookup x=some c'
 | (n,v) :: r,x,c,h=>by
  rw [List.lookup_cons]
  cases hb:x==n with
  | true=>exact ⟨v,rfl⟩
  | false =>
   rcases List.mem_cons.mp h with h | h
   ·cases h;simp at hb
   ·exact qM h
theorem lH{env:Env}:∀ (names:List (Str × NameKind)) (x:Str),(names.map fun (n,k)=>if (k==NameKind.free&&env.scope.kind == .function&&env.kindOf n==some .cell) then (n,NameKind.cell) else (n,k)).lookup x =
  (names.lookup x).map fun k=>if (k==NameKind.free&&env.scope.kind == .function&&env.kindOf x==some .cell) then NameKind.cell else k
 | [],_=>rfl
 | (n,k) :: r,x=>by
  have ih:=@lH env r x
  rw [List.map_cons,List.lookup_cons]
  show List.lookup x ((if (k==NameKind.free&&env.scope.kind == .function&&env.kindOf n==some .cell)=true then (n,NameKind.cell) else (n,k)) :: _)=_
  cases hx:x==n with
  | true =>
   have e:x=n:=beq_iff_eq.mp hx
   subst e
   by_cases hc:(k==NameKind.free&&env.scope.kind == .function&&env.kindOf x==some .cell)=true
   ·rw [if_pos hc,List.lookup_cons,List.lookup_cons,hx];simp only [Option.map_some];rw [if_pos hc]
   ·rw [if_neg hc,List.lookup_cons,List.lookup_cons,hx];simp only [Option.map_some];rw [if_neg hc]
  | false =>
   by_cases hc:(k==NameKind.free&&env.scope.kind == .function&&env.kindOf n==some .cell)=true
   ·rw [if_pos hc,List.lookup_cons,List.lookup_cons,hx];exact ih
   ·rw [if_neg hc,List.lookup_cons,List.lookup_cons,hx];exact ih
theorem mQ:∀ (names:List (Str × NameKind)) (n:Nat) (acc:List (Str × Addr)),cellsFrom n names acc=cellsFrom n names []++acc
 | [],_,_=>rfl
 | (x,k) :: r,n,acc=>by
  unfold cellsFrom
  split
  ·rw [mQ r (n+1) ((x,n) :: acc),mQ r (n+1) [(x,n)],List.append_assoc];rfl
  ·exact mQ r n acc
theorem sS:∀ (names:List (Str × NameKind)) (n:Nat) (acc:List (Str × Addr)) (x:Str) (c:Addr),(x,c)∈cellsFrom n names acc->(x,c)∈acc\/(x,NameKind.cell)∈names
 | [],_,_,_,_,h => .inl h
 | (y,k) :: r,n,acc,x,c,h=>by
  unfold cellsFrom at h
  split at h
  ·rename_i hk
   rcases sS r _ _ x c h with z | z
   ·rcases List.mem_cons.mp z with z | z
    ·cases z;exact .inr (by rw [show k=NameKind.cell from by simpa using hk];exact List.mem_cons_self)
    ·exact .inl z
   ·exact .inr (List.mem_cons_of_mem _ z)
  ·rcases sS r _ _ x c h with z | z
   ·exact .inl z
   ·exact .inr (List.mem_cons_of_mem _ z)
theorem mR:∀ (names:List (Str × NameKind)) (n:Nat) (acc:List (Str × Addr)) (x:Str),((x,NameKind.cell)∈names\/∃ c,(x,c)∈acc)->∃ c,(x,c)∈cellsFrom n names acc
 | [],_,_,x,h=>h.elim (fun z=>nomatch z) id
 | (y,k) :: r,n,acc,x,h=>by
  unfold cellsFrom
  split
  ·refine mR r _ _ x ?_
   rcases h with h | ⟨c,h⟩
   ·rcases List.mem_cons.mp h with h | h
    ·cases h;exact .inr ⟨n,List.mem_cons_self⟩
    ·exact .inl h
   ·exact .inr ⟨c,List.mem_cons_of_mem _ h⟩
  ·rename_i hk
   refine mR r _ _ x ?_
   rcases h with h | h
   ·rcases List.mem_cons.mp h with h | h
    ·cases h;exact absurd rfl hk
    ·exact .inl h
   ·exact .inr h
theorem aCu{α:Type}(x:Str):∀ (l r:List (Str × α)),(l++r).lookup x=(l.lookup x).or (r.lookup x)
 | [],r=>by simp
 | (y,v) :: l,r=>by
  rw [List.cons_append,List.lookup_cons,List.lookup_cons]
  cases hb:x==y with
  | true=>rfl
  | false=>exact aCu x l r
theorem mU{α:Type}:∀ {l:List (Str × α)} {x:Str} {v:α},(l.map (·.1)).Nodup->(x,v)∈l->l.lookup x=some v
 | (y,w) :: l,x,v,nd,h=>by
  rw [List.map_cons,List.nodup_cons] at nd
  rw [List.lookup_cons]
  rcases List.mem_cons.mp h with h | h
  ·cases h;simp
  ·have hne:(x==y)=false:=by
    rw [beq_eq_false_iff_ne]
    intro z
    exact nd.1 (List.mem_map.mpr ⟨(x,v),h,z⟩)
   rw [hne]
   exact mU nd.2 h
theorem aNh{M:Model}{A:Around}{E:Value->Shared->Prop}{s:Shared}{scope:Scope}{gl:Addr}{cl:List (Str × Addr)}{qual:Str}{env:Env}{Q:Env->Shared->Prop}
  (hQ:∀ h',h'.Ns s.heap.objs.size (fun _=>none)->(∀ b o,s.heap.get? b=some o->h'.get? b=some o)->CellsOk h' (s.heap.objs.size+1) (cellsFrom (s.heap.objs.size+1) scope.names []) ->
   Q { scope:=scope,locals:=s.heap.objs.size,globals:=gl,cells:=cellsFrom (s.heap.objs.size+1) scope.names cl,qual:=qual,func:=none,code:=env.code,frame:=env.frame,builtins:=env.builtins } { s with heap:=h' }) :
  wpAny M A (newFunctionEnv scope gl cl [] qual none .none (some env)) Q E s:=by
 simp only [newFunctionEnv,Option.isSome_some,if_true]
 refine wpAny_bind (wpAny_alloc (wpAny_bind (wpAny_layCells _ (fun name kind cells=>by cases hkc:kind==NameKind.cell<;>simp [hkc]) _ _ _ _ ?_)))
 rw [List.forIn_nil]
 refine wpAny_bind (wpAny_pure (wpAny_pure ?_))
 have ok:=cellsFrom_ok scope.names (s.heap.push { cls := .type "dict", data := .dict #[] }) (s.heap.objs.size+1) [] ⟨fun _ _ hm=>(nomatch hm),List.Pairwise.nil⟩ (by rw [Heap.size_push];exact Nat.le_refl _)
 rw [Heap.size_push] at ok
 have e:({ s with heap:=s.heap.push { cls := .type "dict", data := .dict #[] } }:Shared).heap.objs.size=s.heap.objs.size+1:=Heap.size_push ..
 rw [e]
 exact hQ _ ((Heap.Ns.new s.heap (.type "dict")).keeps (pushCells_keeps _ _)) (fun b o q=>pushCells_keeps _ _ b o (Heap.get?_push_of_some _ q)) ok
structure CScope(X:Cx)(scope:Scope)(is:List Nat):Prop where
 kind:scope.kind = .function
 nd:(scope.names.map (·.1)).Nodup
 free:∀ x∈scope.names,x.2 = .free->X.env.kindOf x.1=some .cell\/X.env.kindOf x.1=some .free
 own:∀ (i:Nat) x,X.N[i]?=some x->(scope.names.lookup x=some .local\/scope.names.lookup x=some .cell)->i∈is
section
variable{X:Cx}{scope:Scope}{is:List Nat}
theorem CScope.names(S:CScope X scope is):∀ x∈scope.names,x.2 = .local->scope.names.lookup x.1=some .local:=fun x hx e=>mU S.nd (by rw [<-e];exact hx)
def cO(X:Cx)(scope:Scope)(C:Addr)(s₀:Shared)(H₀:Hp)(fp:List Addr):Cx :=
 { X with s₀:=s₀,H₀:=H₀,env:=compEnvC scope (cellsFrom (C+1) scope.names (clo X.env.cells scope.names [])) C X.env,outer:=X.stack,stack:=X.stack,ex:=fp,fn:=fun x=>scope.names.lookup x==some .cell,pn:=[],xe:=fun _ _=>False,calm:=true }
theorem CScope.cells(S:CScope X scope is)(ok:X.Ok):∀ y∈scope.names,y.2 = .free->∃ c,X.env.cells.lookup y.1=some c:=fun y hy hf=>ok.has y.1 (S.free y hy hf)
theorem CScope.lk(S:CScope X scope is)(ok:X.Ok){n:Nat}{x:Str}{c:Addr}(h:(cellsFrom n scope.names (clo X.env.cells scope.names [])).lookup x=some c) :
  ((cellsFrom n scope.names []).lookup x=some c/\scope.names.lookup x=some .cell)\/(scope.names.lookup x=some .free/\X.env.cells.lookup x=some c):=by
 rw [mQ,aCu] at h
 cases e:(cellsFrom n scope.names []).lookup x with
 | some c' =>
  rw [e] at h
  cases h
  rcases sS _ _ _ _ _ (PySem.mem_of_lookup e) with z | z
  ·cases z
  ·exact .inl ⟨rfl,mU S.nd z⟩
 | none =>
  rw [e] at h
  have h:(clo X.env.cells scope.names []).lookup x=some c:=h
  rcases aG2 scope.names [] x c (S.cells ok) (PySem.mem_of_lookup h) with ⟨h1,h2⟩ | h2
  ·exact .inr ⟨mU S.nd h1,h2⟩
  ·cases h2
def aHu(is:List Nat)(σ:LSt):LSt:=is.foldl (fun τ i=>τ.set i none) σ
theorem aHv(is:List Nat):∀ σ:LSt,(aHu is σ).length=σ.length:=by
 induction is with
 | nil=>exact fun _=>rfl
 | cons i is ih=>intro σ;show (aHu is (σ.set i none)).length=_;rw [ih,List.length_set]
theorem aQd(is:List Nat):∀ (σ:LSt) (j:Nat) (v:V),(aHu is σ)[j]?=some (some v)->σ[j]?=some (some v)/\j ∉ is:=by
 induction is with
 | nil=>exact fun σ j v h=>⟨h,by simp⟩
 | cons i is ih =>
  intro σ j v h
  obtain ⟨h1,h2⟩:=ih (σ.set i none) j v h
  rw [List.getElem?_set] at h1
  by_cases e:i=j
  ·subst e
   rw [if_pos rfl] at h1
   split at h1<;>cases h1
  ·rw [if_neg e] at h1
   exact ⟨h1,fun z=>(List.mem_cons.mp z).elim (fun z=>e z.symm) h2⟩
theorem aJw{pins:List (Addr × Obj)}{σ:LSt}{H:Hp}{s:Shared}{fp:List Addr}{h':Heap}{t':Nat}(S:CScope X scope is)(hc:X.calm=true)(I:Inv X pins σ H s)(hf:∀ b∈fp,xT X pins H b)(hlt:∀ b∈fp,b < s.heap.objs.size)
  (hn:h'.Ns s.heap.objs.size fun _=>none) (hk:∀ b o,s.heap.get? b=some o->h'.get? b=some o) (hcl:CellsOk h' (s.heap.objs.size+1) (cellsFrom (s.heap.objs.size+1) scope.names [])) :
  Inv (cO X scope s.heap.objs.size s H fp) [] (aHu is σ) H { s with heap:=h',toks:=t' }:=by
 have lk:=@CScope.lk X scope is S I.ok (s.heap.objs.size+1)
 have nf:∀ b∈fp,b≠s.heap.objs.size:=fun b hb=>Nat.ne_of_lt (hlt b hb)
 have cellLt:∀ x c,X.env.cells.lookup x=some c->c < s.heap.objs.size:=fun x c e=>by
  obtain ⟨v,q⟩:=I.cell x c e
  exact q.lt
 have ownGe:∀ x c,(cellsFrom (s.heap.objs.size+1) scope.names []).lookup x=some c->s.heap.objs.size+1<=c:=fun x c e=>(hcl.empty x c (PySem.mem_of_lookup e)).2
 have has:∀ x k,(k = .cell\/k = .free)->scope.names.lookup x=some k->∃ c,(cellsFrom (s.heap.objs.size+1) scope.names (clo X.env.cells scope.names [])).lookup x=some c:=fun x k hk e=>by
  have hm:=PySem.mem_of_lookup e
  rcases hk with rfl | rfl
  ·obtain ⟨c,q⟩:=mR scope.names (s.heap.objs.size+1) (clo X.env.cells scope.names []) x (.inl hm)
   exact qM q
  ·obtain ⟨c,q⟩:=mR scope.names (s.heap.objs.size+1) (clo X.env.cells scope.names []) x (.inr (aG3 (cells:=X.env.cells) scope.names [] x (.inl hm)))
   exact qM q
 have knd:∀ x,(relabel scope X.env).names.lookup x=some .cell\/(relabel scope X.env).names.lookup x=some .free->scope.names.lookup x=some .cell\/scope.names.lookup x=some .free:=fun x hx=>by
  unfold relabel at hx
  rw [lH] at hx
  cases e:scope.names.lookup x with
  | none=>rw [e] at hx;rcases hx with hx | hx<;>cases hx
  | some k =>
   rw [e] at hx
   simp only [Option.map_some] at hx
   by_cases hc:(k==NameKind.free&&X.env.scope.kind == .function&&X.env.kindOf x==some .cell)=true
   ·simp only [Bool.and_eq_true,beq_iff_eq] at hc
    exact .inr (by rw [hc.1.1])
   ·rw [if_neg hc] at hx;exact hx
 refine ⟨⟨I.ok.mod,?_,I.ok.glob,I.ok.blt,Nat.le_refl _,fun x y c h1 h2=>?_,fun x hx=>?_,fun x c hfn e=>?_,fun _=>I.ok.hd hc,I.ok.frames,.inl rfl,fun b hb=>⟨nf b hb,fun x c e z=>?_⟩,I.bs,?_,fun b o e hb=>?_,fun b hb z=>?_,I.stack,I.stkFree⟩,
  rfl,I.bare,Un.kept hk,⟨_,hn,fun i x v e1 e2 e3=>?_⟩,fun x c e=>?_,I.hok.fresh (Nat.le_refl _),fun x c e=>?_,(fun p hp=>absurd (show p∈([]:List (Addr × Obj)) from hp) (by simp)),I.hok.kept hk,by rw [aHv];exact I.len⟩
 ·show (relabel scope X.env).kind = .function
  exact S.kind
 ·rcases lk h1 with ⟨a1,_⟩ | ⟨_,a1⟩ <;> rcases lk h2 with ⟨a2,_⟩ | ⟨_,a2⟩
  ·exact name_of_addr hcl.apart (PySem.mem_of_lookup a1) (PySem.mem_of_lookup a2)
  ·exact absurd (Nat.lt_of_lt_of_le (cellLt y c a2) (Nat.le_of_succ_le (ownGe x c a1))) (Nat.lt_irrefl _)
  ·exact absurd (Nat.lt_of_lt_of_le (cellLt x c a1) (Nat.le_of_succ_le (ownGe y c a2))) (Nat.lt_irrefl _)
  ·exact I.ok.inj x y c a1 a2
 ·rcases knd x hx with e | e
  ·exact has x _ (.inl rfl) e
  ·exact has x _ (.inr rfl) e
 ·have hfn:scope.names.lookup x=some .cell:=beq_iff_eq.mp hfn
  rcases lk e with ⟨a1,_⟩ | ⟨a1,_⟩
  ·have:=ownGe x c a1
   show s.heap.objs.size<=c
   omega
  ·rw [hfn] at a1;cases a1
 ·rcases lk e with ⟨a1,_⟩ | ⟨_,a1⟩
  ·have h2:=hlt b hb
   rw [<-z] at h2
   exact absurd (Nat.lt_of_lt_of_le h2 (Nat.le_of_succ_le (ownGe x c a1))) (Nat.lt_irrefl _)
  ·exact (hf b hb).2.2.2.2.1 x c a1 z
 ·exact Nat.le_trans I.ok.bsz I.sz
 ·rcases (hf b hb).2.2.2.1 with z | z
  ·exact I.ok.noex b o e z
  ·exact absurd (Nat.lt_of_lt_of_le (Heap.lt_size e) (Nat.le_trans I.ok.bsz z)) (Nat.lt_irrefl _)
 ·rcases List.mem_cons.mp (I.stkSub b z) with z | z
  ·exact (hf b hb).2.1 z
  ·exact (hf b hb).2.2.1 z
 ·obtain ⟨e2,hni⟩:=aQd is σ i v e2
  have e3:(relabel scope X.env).names.lookup x=some .local\/(relabel scope X.env).names.lookup x=some .cell\/(relabel scope X.env).names.lookup x=some .free:=e3
  have hfr:scope.names.lookup x=some .free:=by
   have e4:=e3
   unfold relabel at e4
   rw [lH] at e4
   cases e:scope.names.lookup x with
   | none=>rw [e] at e4;rcases e4 with e4 | e4 | e4<;>cases e4
   | some k =>
    rw [e] at e4
    simp only [Option.map_some] at e4
    by_cases hc:(k==NameKind.free&&X.env.scope.kind == .function&&X.env.kindOf x==some .cell)=true
    ·simp only [Bool.and_eq_true,beq_iff_eq] at hc
     rw [hc.1.1]
    ·rw [if_neg hc] at e4
     rcases e4 with e4 | e4 | e4
     ·exact absurd (S.own i x e1 (.inl (by rw [e,e4]))) hni
     ·exact absurd (S.own i x e1 (.inr (by rw [e,e4]))) hni
     ·exact e4
  have hrel:(relabel scope X.env).names.lookup x=some .cell\/(relabel scope X.env).names.lookup x=some .free:=by
   rcases e3 with e3 | e3 | e3
   ·unfold relabel at e3
    rw [lH,hfr] at e3
    simp only [Option.map_some] at e3
    split at e3<;>cases e3
   ·exact .inl e3
   ·exact .inr e3
  have hvis:=S.free _ (PySem.mem_of_lookup hfr) rfl
  obtain ⟨m,hm,hl⟩:=I.loc
  obtain ⟨u,ru,lu⟩:=hl i x v e1 e2 (.inr hvis)
  refine ⟨u,ru,.inr ⟨hrel,?_⟩⟩
  rcases lu with ⟨k1,_⟩ | ⟨_,c,ec,zc⟩
  ·have k1:X.env.kindOf x=some .local:=k1
   rcases hvis with q | q<;>rw [k1] at q<;>cases q
  ·obtain ⟨c2,e5⟩:=has x _ (.inr rfl) hfr
   rcases lk e5 with ⟨_,a1⟩ | ⟨_,a1⟩
   ·rw [hfr] at a1;cases a1
   ·rw [ec] at a1
    cases a1
    exact ⟨c,e5,zc.keeps hk⟩
 ·rcases lk e with ⟨a1,_⟩ | ⟨_,a1⟩
  ·exact ⟨_,(hcl.empty x c (PySem.mem_of_lookup a1)).1⟩
  ·obtain ⟨v,q⟩:=I.cell x c a1
   exact ⟨v,q.keeps hk⟩
 ·rcases lk e with ⟨a1,_⟩ | ⟨_,a1⟩
  ·exact I.hok.fresh (by have:=ownGe x c a1;omega)
  ·exact I.freeC x c a1
end
end Pu
namespace Pu
open PySem PySem.Spec PyProof.Rows L2
theorem aCv(elt target iter c:Expr)(scope:Scope)(pos:Pos)(it acc:Value)(env:Env) :
  compTurn (.ListComp elt [⟨target,iter,[c],0⟩] scope pos) 0 it acc env=(standAt iter.pos >>= fun _=>pyNext it >>= fun r=>match r with
   | none=>pure (.done .next)
   | some v=>letOwnedTupleGo target it v >>= fun _=>assign target env v >>= fun _=>isTrue c env (eval c env) >>= fun ok =>
    if ok=true then (eval elt env >>= fun x=>call (.builtin "list.append") [acc,x] >>= fun _=>again (.compLoop (.ListComp elt [⟨target,iter,[c],0⟩] scope pos) 0 it acc env))
    else again (.compLoop (.ListComp elt [⟨target,iter,[c],0⟩] scope pos) 0 it acc env)):=by
 unfold compTurn
 simp [List.forIn_cons,List.forIn_nil]
 rfl
theorem aB4(elt target iter:Expr)(scope:Scope)(pos:Pos)(it acc:Value)(env:Env) :
  compTurn (.ListComp elt [⟨target,iter,[],0⟩] scope pos) 0 it acc env=(standAt iter.pos >>= fun _=>pyNext it >>= fun r=>match r with
   | none=>pure (.done .next)
   | some v=>letOwnedTupleGo target it v >>= fun _=>assign target env v >>= fun _ =>
    (eval elt env >>= fun x=>call (.builtin "list.append") [acc,x] >>= fun _=>again (.compLoop (.ListComp elt [⟨target,iter,[],0⟩] scope pos) 0 it acc env))):=by
 unfold compTurn
 simp [List.forIn_nil]
 rfl
section
variable{X:Cx}{scope:Scope}{is:List Nat}{elt tg iter:Expr}{pos:Pos}{wi:TI}{g:TG}{te:TE}{tt:TT}
def tLC(is:List Nat)(wi:TI)(g:TG)(tt:TT)(te:TE):TE:=fun σ H Q=>wi σ H fun J H1=>∀ p,H1 p=none->∃ W:Nat->Nat->LSt->List V->Hp->Prop,(∃ m,W 0 m (aHu is σ) [] (upd H1 p (.lst []))) /\
 ∀ i m τ vs H,W i m τ vs H->H p=some (.lst vs)/\((J.stop i H/\Q (.ref p) H)\/(J.go i H/\∀ x H',J.yld i H x H'->g x τ H' fun τ2 H2=>tt τ2 H2 fun k H3 =>
  if k=true then te τ2 H3 fun y H4=>H4 p=some (.lst vs)/\vs.length < sizeLine/\∃ m',m' < m/\W (i+1) m' τ2 (vs++[y]) (upd H4 p (.lst (vs++[y]))) else ∃ m',m' < m/\W (i+1) m' τ2 vs H3))
theorem aG4{pins:List (Addr × Obj)}{σ σ5:LSt}{H H5:Hp}{s s5:Shared}{fp:List Addr}{C:Addr}{h':Heap}(I:Inv X pins σ H s)(hf:∀ b∈fp,xT X pins H b)(hC:s.heap.objs.size<=C)(J:Inv (cO X scope C s H fp) [] σ5 H5 s5)
  (hs:Heap.SameBut C s5.heap h'):Inv X pins σ H5 { s5 with heap:=h' }:=by
 have hfree:H5 C=none:=J.free
 have ne:∀ b o,s.heap.get? b=some o->b≠C:=fun b o e z=>by
  have:=Heap.lt_size e
  subst z
  exact absurd (Nat.lt_of_lt_of_le this hC) (Nat.lt_irrefl _)
 have u:Un (frs X.stack) fp H H5 s.heap h':=⟨fun b o e n hb hx=>hs.extBut b o (ne b o e) (J.base.keep b o e n hb hx),fun b o e n hb hx=>by
   obtain ⟨sl,q⟩:=J.base.slot b o e n hb hx
   exact ⟨sl,hs.extBut b _ (ne b o e) q⟩,J.base.free,fun b o e hx=>by
   obtain ⟨o',q⟩:=J.base.there b o e hx
   exact ⟨o',hs.extBut b _ (ne b o e) q⟩,J.base.tups,J.base.frzs,J.base.tbls⟩
 have hok:HOk X.prog X.w H5 h':=fun b o e=>by
  refine (J.hok b o e).stay (fun c v hc q=>hs.extBut c v ?_ q) (fun _ q=>q) fun _ _ q=>q
  rintro rfl
  rcases hc with z | z
  ·subst z;rw [hfree] at e;cases e
  ·rw [hfree] at z;cases z
 obtain ⟨hh,gg,dd,tt,os⟩:=s5
 have hos:os=s.os:=J.os
 subst hos
 have fin:=I.call (h':=h') (g':=gg) (d':=dd) (t':=tt) (ch:=fp) u hok J.bare fun b hb=>⟨(hf b hb).2.2.2.1,(hf b hb).2.1,(hf b hb).2.2.2.2.1,(hf b hb).2.2.2.2.2⟩
 exact fin
theorem aEp{Y:Cx}{pins:List (Addr × Obj)}{τ:LSt}{H:Hp}{s:Shared}{p:Addr}{vs:List V}{α:Type}{k:Sem α}{Q:α->Shared->Prop}{E:Value->Shared->Prop}(he:PE Y elt te)(hx:∀ e s',Y.xe e s'->E e s')(I:Inv Y pins τ H s)(hw:te τ H fun y H4=>H4 p=some (.lst vs)/\vs.length < sizeLine/\∀ s',Inv Y pins τ (upd H4 p (.lst (vs++[y]))) s'->wpAny (model Y.prog Y.w) Y.A k Q E s') :
  wpAny (model Y.prog Y.w) Y.A (eval elt Y.env >>= fun x=>call (.builtin "list.append") [.ref p,x] >>= fun _=>k) Q E s:=by
 refine wpAny_bind (wpAny_mono (he pins s τ H _ I hw) (fun u s1 ⟨y,H4,I4,r4,hp,hz,q⟩=>?_) hx)
 obtain ⟨z,its,n,r,hl,e⟩:=I4.lstM hp
 refine wpAny_bind (call_meets PySem.F.slot_list_append ⟨_,e,rfl⟩ PySem.F.entry_list_append (PySem.F.args_list_append_2 _ _) (PySem.list_append p its.toArray n u (by rw [List.size_toArray];omega)) ⟨e,?_⟩)
 refine q _ (I4.lset (its':=its++[u]) (t':=s1.toks) hp e (by simp) (r.append (.cons r4 .nil)) ?_)
 rw [List.length_append,List.length_singleton]
 omega
end
theorem aNi{Y:Cx}{e tg:Expr}{env:Env}{g:TG}{te:TE}{tt:TT}{it p:Addr}{fp:List Addr}{tn:Nat->Heap->Prop}{J:It}{R:Result->Shared->Prop}{iterPos:Pos}{rest:Sem Fin}
  (T:Turn Y.prog Y.w Y.K tg J fp it tn) (hc:Y.calm=true) (hE:Y.xe=fun _ _=>False) (hg:PG Y tg g) (hq:(Code.compLoop e 0 (.ref it) (.ref p) Y.env).quiet=true)
  (hden:∀ (s:Shared) (Q:Fin->Shared->Prop),wpAny (model Y.prog Y.w) Y.A (pyNext (.ref it) >>= fun r=>match r with
    | none=>pure (.done .next)
    | some v=>letOwnedTupleGo tg (.ref it) v >>= fun _=>assign tg Y.env v >>= fun _=>rest) Q (fun _ _=>False) s ->
   wpAny (model Y.prog Y.w) (Y.A.under (.compLoop e 0 (.ref it) (.ref p) Y.env)) ((model Y.prog Y.w).den (.compLoop e 0 (.ref it) (.ref p) Y.env)) Q (fun _ _=>False) s)
  (hrest:∀ (τ:LSt) (H:Hp) (s:Shared) (pins:List (Addr × Obj)) (vs:List V) (N:Hp->List V->Prop) (Q:Fin->Shared->Prop),Inv Y pins τ H s ->
   (tt τ H fun k H3=>if k=true then te τ H3 fun y H4=>H4 p=some (.lst vs)/\vs.length < sizeLine/\N (upd H4 p (.lst (vs++[y]))) (vs++[y]) else N H3 vs) ->
   (∀ s' H' ws,Inv Y pins τ H' s'->N H' ws->Q (.again (.compLoop e 0 (.ref it) (.ref p) Y.env)) s')->wpAny (model Y.prog Y.w) Y.A rest Q (fun _ _=>False) s)
  (W:Nat->Nat->LSt->List V->Hp->Prop) {Qe:Hp->Prop}
  (step:∀ i m τ vs H,W i m τ vs H->H p=some (.lst vs)/\((J.stop i H/\Qe H)\/(J.go i H/\∀ x H',J.yld i H x H'->g x τ H' fun τ2 H2=>tt τ2 H2 fun k H3 =>
   if k=true then te τ2 H3 fun y H4=>H4 p=some (.lst vs)/\vs.length < sizeLine/\∃ m',m' < m/\W (i+1) m' τ2 (vs++[y]) (upd H4 p (.lst (vs++[y]))) else ∃ m',m' < m/\W (i+1) m' τ2 vs H3)))
  (hR:∀ τ H s,Inv Y [] τ H s->Qe H->R (.ok .next) s) {s:Shared} {τ:LSt} {H:Hp} {vs:List V} {i m:Nat} (I:Inv Y [] τ H s) (st:tn i s.heap) (fr:∀ b∈fp,xT Y [] H b) (w:W i m τ vs H) :
  codeAny (model Y.prog Y.w) Y.A (.compLoop e 0 (.ref it) (.ref p) Y.env) R s:=by
 have stat:∀ {H':Hp},(∀ b∈fp,H' b=none)->∀ b∈fp,xT Y [] H' b:=fun hn b hb=>⟨hn b hb,(fr b hb).2⟩
 refine codeAny_loop hq (fun n s'=>∃ i τ' vs' H',Inv Y [] τ' H' s'/\tn i s'.heap/\(∀ b∈fp,H' b=none)/\W i n τ' vs' H') (fun n s3 hI=>?_) m ⟨i,τ,vs,H,I,st,fun b hb=>(fr b hb).1,w⟩
 obtain ⟨i,τ3,vs3,H3,I3,st3,fr3,w3⟩:=hI
 refine wpAny_mono (hden s3 _ ?_) (fun _ _ q=>q) (fun _ _ q=>q.elim)
 obtain ⟨hp,hs⟩:=step i n τ3 vs3 H3 w3
 rcases hs with ⟨stop,qe⟩ | ⟨go,hs⟩
 ·refine wpAny_bind (thn (T.done Y rfl rfl rfl hc i [] s3 τ3 H3 (fun _ _=>False) I3 (stat fr3) st3 stop) fun r s4 ⟨hr,I4⟩=>?_)
  subst hr
  exact wpAny_pure (hR τ3 H3 s4 I4 qe)
 ·refine wpAny_bind (thn (T.item Y rfl rfl rfl hc i [] s3 τ3 H3 (fun _ _=>False) I3 (stat fr3) st3 go) fun r s4 ⟨u,hr,h4⟩=>?_)
  subst hr
  refine wpAny_bind (thn h4 fun _ s5 ⟨x,H5,I5,r5,y5,st5,fr5⟩=>?_)
  have I5':=I5.pinned (stat fr5) (T.obj _ _ st5)
  have hg':=hg _ s5 τ3 H5 x u _ I5' r5 (hs x H5 y5)
  rw [hE] at hg'
  refine wpAny_bind (thn hg' fun _ s6 ⟨τ6,H6,I6,q6⟩=>?_)
  refine hrest τ6 H6 s6 _ vs3 (fun H' ws=>∃ m',m' < n/\W (i+1) m' τ6 ws H') _ I6 q6 fun s7 H7 ws I7 ⟨m',hm,w7⟩=>?_
  refine ⟨rfl,m',hm,i+1,τ6,ws,H7,I7.unpinned,T.keep _ _ _ st5 fun b hb o e=>(I7.pin (b,o) (List.mem_append_right _ (List.mem_append_right _ (rJ hb e)))).1,fun b hb=>?_,w7⟩
  obtain ⟨o,e,d⟩:=T.obj _ _ st5 b hb
  exact (I7.pin (b,o) (List.mem_append_right _ (List.mem_append_right _ (rJ hb e)))).2.1
end Pu
namespace Pu
open PySem PySem.Spec PyProof.Rows L2
section
variable{X:Cx}{scope:Scope}{is:List Nat}{elt tg iter c:Expr}{pos:Pos}{wi:TI}{g:TG}{te:TE}{tt:TT}
theorem vK{use:Option (Value->Sem Unit)}{Qf:Value->Shared->Prop}{ppos:Pos}{pins:List (Addr × Obj)}{s:Shared}{σ:LSt}{H:Hp}{Q:VK}{ifs:List Expr}{rest:Env->Value->Value->Sem Fin}(S:CScope X scope is)(hc:X.calm=true)(hi:L2.PI X tg iter wi)(hg:∀ C s₀ H₀ fp,PG (cO X scope C s₀ H₀ fp) tg g)
  (hquiet:∀ it acc env,(Code.compLoop (.ListComp elt [⟨tg,iter,ifs,0⟩] scope pos) 0 it acc env).quiet=true)
  (hden:∀ C s₀ H₀ fp it p (s:Shared) (Q:Fin->Shared->Prop),wpAny (model X.prog X.w) X.A (pyNext (.ref it) >>= fun r=>match r with
    | none=>pure (.done .next)
    | some v=>letOwnedTupleGo tg (.ref it) v >>= fun _=>assign tg (cO X scope C s₀ H₀ fp).env v >>= fun _=>rest (cO X scope C s₀ H₀ fp).env (.ref it) (.ref p)) Q (fun _ _=>False) s ->
   wpAny (model X.prog X.w) (X.A.under (.compLoop (.ListComp elt [⟨tg,iter,ifs,0⟩] scope pos) 0 (.ref it) (.ref p) (cO X scope C s₀ H₀ fp).env)) ((model X.prog X.w).den (.compLoop (.ListComp elt [⟨tg,iter,ifs,0⟩] scope pos) 0 (.ref it) (.ref p) (cO X scope C s₀ H₀ fp).env)) Q (fun _ _=>False) s)
  (hrest:∀ C s₀ H₀ fp it p (τ:LSt) (H:Hp) (s:Shared) (pins:List (Addr × Obj)) (vs:List V) (N:Hp->List V->Prop) (Q:Fin->Shared->Prop),Inv (cO X scope C s₀ H₀ fp) pins τ H s ->
   (tt τ H fun k H3=>if k=true then te τ H3 fun y H4=>H4 p=some (.lst vs)/\vs.length < sizeLine/\N (upd H4 p (.lst (vs++[y]))) (vs++[y]) else N H3 vs) ->
   (∀ s' H' ws,Inv (cO X scope C s₀ H₀ fp) pins τ H' s'->N H' ws->Q (.again (.compLoop (.ListComp elt [⟨tg,iter,ifs,0⟩] scope pos) 0 (.ref it) (.ref p) (cO X scope C s₀ H₀ fp).env)) s') ->
   wpAny (model X.prog X.w) X.A (rest (cO X scope C s₀ H₀ fp).env (.ref it) (.ref p)) Q (fun _ _=>False) s)
  (hs:∀ x,foldedSetIterable iter X.env x=pure x) (I:Inv X pins σ H s) (h:tLC is wi g tt te σ H Q)
  (hfin:∀ C p H5 s5 m5 s3 H3 fp τ,s3.heap.objs.size<=C->Inv X pins σ H3 s3->(∀ b∈fp,xT X pins H3 b)->Inv (cO X scope C s3 H3 fp) [] τ H5 s5->s5.heap.Ns C m5->Q (.ref p) H5->compPost (model X.prog X.w) X.A X.xe use Qf (.ref p) C (.ok .next) s5) :
  wpAny (model X.prog X.w) X.A (comprehension (.ListComp elt [⟨tg,iter,ifs,0⟩] scope pos) scope X.env ppos (newList []) false (eval iter X.env) use) Qf X.xe s:=by
 refine wpAny_comprehension_free (use:=use) rfl hs (aDn (S.cells I.ok)) S.kind S.names ?_
 refine thn (hi pins s σ H _ I h) fun v s1 h1=>thn h1 fun itv s2 h2=>?_
 obtain ⟨it,fp,tn,J,H2,e,I2,T,st2,f2,hW⟩:=h2
 subst e
 refine wpAny_newObj_type (aNh fun h₁ hns₁ hkp hcl₁=>?_)
 have I3:Inv X pins σ (upd H2 s2.heap.objs.size (.lst [])) { s2 with heap:=s2.heap.push { cls := .type "list", data := .seq ([]:List Value).toArray } }:=I2.lnew (t':=s2.toks) .nil (Nat.zero_le _)
 obtain ⟨W,⟨m,w0⟩,step⟩:=hW s2.heap.objs.size I2.fresh
 have hob:∀ b∈fp,b < s2.heap.objs.size:=fun b hb=>let ⟨o,e,_⟩:=T.obj 0 _ st2 b hb;Heap.lt_size e
 have hfp:∀ b∈fp,xT X pins (upd H2 s2.heap.objs.size (.lst [])) b:=fun b hb=>⟨by rw [bW (Nat.ne_of_lt (hob b hb))];exact (f2 b hb).1,(f2 b hb).2⟩
 have hk:∀ b o,(s2.heap.push { cls := .type "list", data := .seq ([]:List Value).toArray }).get? b=some o->h₁.get? b=some o:=hkp
 have Ic:=aJw (t':=s2.toks) S hc I3 hfp (fun b hb=>Nat.lt_of_lt_of_le (hob b hb) (by rw [Heap.size_push];exact Nat.le_succ _)) hns₁ hk hcl₁
 have st4:tn 0 h₁:=T.keep 0 _ _ st2 fun b _ o e=>hk b o (Heap.get?_push_of_some _ e)
 have fr4:∀ b∈fp,xT (cO X scope _ _ _ fp) [] (upd H2 s2.heap.objs.size (.lst [])) b:=fun b hb=>⟨(hfp b hb).1,(Ic.ok.exf b hb).1,Ic.ok.exfs b hb,.inl hb,fun x c e=>(Ic.ok.exf b hb).2 x c e,fun p hp=>absurd (show p∈([]:List (Addr × Obj)) from hp) (by simp)⟩
 have loop:=aNi (Y:=cO X scope _ _ _ fp) (e := .ListComp elt [⟨tg,iter,ifs,0⟩] scope pos) (env:=X.env) (iterPos:=pos) T rfl rfl (hg _ _ _ fp) (hquiet _ _ _) (hden _ _ _ fp it s2.heap.objs.size) (hrest _ _ _ fp it s2.heap.objs.size) W step
  (R:=compPost (model X.prog X.w) X.A X.xe use Qf (.ref s2.heap.objs.size) (s2.heap.push { cls := .type "list", data := .seq ([]:List Value).toArray }).objs.size) (fun τ H5 s5 I5 q5=>by
   obtain ⟨m5,hn5,_⟩:=I5.loc
   exact hfin _ _ H5 s5 m5 _ _ fp τ (Nat.le_refl _) I3 hfp I5 hn5 q5) Ic st4 fr4 w0
 exact codeAny_compStart_list loop (T.self _ 0 _ _ _ st4 loop)
theorem sU{e:Expr}{it acc:Value}{env:Env}:(Code.compLoop e 0 it acc env).quiet=true:=rfl
theorem bB7 {Y : Cx} {it p : Addr} {s : Shared} {Q : Fin -> Shared -> Prop} (h : wpAny (model X.prog X.w) X.A (pyNext (.ref it) >>= fun r => match r with
        | none=>pure (.done .next)
        | some v=>letOwnedTupleGo tg (.ref it) v >>= fun _=>assign tg Y.env v >>= fun _=>(eval elt Y.env >>= fun x=>call (.builtin "list.append") [.ref p,x] >>= fun _=>again (.compLoop (.ListComp elt [⟨tg,iter,[],0⟩] scope pos) 0 (.ref it) (.ref p) Y.env))) Q (fun _ _=>False) s) :
      wpAny (model X.prog X.w) (X.A.under (.compLoop (.ListComp elt [⟨tg,iter,[],0⟩] scope pos) 0 (.ref it) (.ref p) Y.env)) ((model X.prog X.w).den (.compLoop (.ListComp elt [⟨tg,iter,[],0⟩] scope pos) 0 (.ref it) (.ref p) Y.env)) Q (fun _ _=>False) s:=by
 show wpAny _ _ ((compTurn (.ListComp elt [⟨tg,iter,[],0⟩] scope pos) 0 (.ref it) (.ref p) Y.env).onRaise (fun x=>do noteFrame x Y.env;theTreesLotGoes x)) _ _ s
 refine wpAny_noted ?_
 rw [aB4]
 exact wpAny_bind (wpAny_standAt (wpAny_mono h (fun _ _ q=>q) fun _ _ q=>q.elim))
theorem bB8 {Y : Cx} {it p : Addr} {s : Shared} {Q : Fin -> Shared -> Prop} (h : wpAny (model X.prog X.w) X.A (pyNext (.ref it) >>= fun r => match r with
        | none=>pure (.done .next)
        | some v=>letOwnedTupleGo tg (.ref it) v >>= fun _=>assign tg Y.env v >>= fun _=>(isTrue c Y.env (eval c Y.env) >>= fun ok=>if ok=true then (eval elt Y.env >>= fun x=>call (.builtin "list.append") [.ref p,x] >>= fun _=>again (.compLoop (.ListComp elt [⟨tg,iter,[c],0⟩] scope pos) 0 (.ref it) (.ref p) Y.env))
          else again (.compLoop (.ListComp elt [⟨tg,iter,[c],0⟩] scope pos) 0 (.ref it) (.ref p) Y.env))) Q (fun _ _=>False) s) :
      wpAny (model X.prog X.w) (X.A.under (.compLoop (.ListComp elt [⟨tg,iter,[c],0⟩] scope pos) 0 (.ref it) (.ref p) Y.env)) ((model X.prog X.w).den (.compLoop (.ListComp elt [⟨tg,iter,[c],0⟩] scope pos) 0 (.ref it) (.ref p) Y.env)) Q (fun _ _=>False) s:=by
 show wpAny _ _ ((compTurn (.ListComp elt [⟨tg,iter,[c],0⟩] scope pos) 0 (.ref it) (.ref p) Y.env).onRaise (fun x=>do noteFrame x Y.env;theTreesLotGoes x)) _ _ s
 refine wpAny_noted ?_
 rw [aCv]
 exact wpAny_bind (wpAny_standAt (wpAny_mono h (fun _ _ q=>q) fun _ _ q=>q.elim))
def aG5:TT:=fun _ H Q=>Q true H
theorem aV2{Y:Cx}(hY:Y.xe=fun _ _=>False)(he:PE Y elt te){it p:Addr}(τ:LSt)(H:Hp)(s:Shared)(pins:List (Addr × Obj))(vs:List V)(N:Hp->List V->Prop)(Q:Fin->Shared->Prop)(I:Inv Y pins τ H s)
  (h:aG5 τ H fun k H3=>if k=true then te τ H3 fun y H4=>H4 p=some (.lst vs)/\vs.length < sizeLine/\N (upd H4 p (.lst (vs++[y]))) (vs++[y]) else N H3 vs)
  (mono:∀ (Q Q':VK),(∀ v H',Q v H'->Q' v H')->te τ H Q->te τ H Q')
  (q:∀ s' H' ws,Inv Y pins τ H' s'->N H' ws->Q (.again (.compLoop (.ListComp elt [⟨tg,iter,[],0⟩] scope pos) 0 (.ref it) (.ref p) Y.env)) s') :
  wpAny (model Y.prog Y.w) Y.A (eval elt Y.env >>= fun x=>call (.builtin "list.append") [.ref p,x] >>= fun _=>again (.compLoop (.ListComp elt [⟨tg,iter,[],0⟩] scope pos) 0 (.ref it) (.ref p) Y.env)) Q (fun _ _=>False) s:=by
 have h':te τ H fun y H4=>H4 p=some (.lst vs)/\vs.length < sizeLine/\N (upd H4 p (.lst (vs++[y]))) (vs++[y]):=h
 exact aEp he (by rw [hY];exact fun _ _ z=>z) I (mono _ _ (fun y H4 ⟨a,b,n⟩=>⟨a,b,fun s' I'=>wpAny_pure (q s' _ _ I' n)⟩) h')
end
end Pu
namespace Pu
open PySem PySem.Spec PyProof.Rows L2
section
variable{K:PySem.W.Frag}{B A:List Addr}{H:Hp}{st st':PSt}{σ:LSt}
theorem aT9(is:List Nat):∀ st:PSt,(clr is st).length=st.length:=by
 induction is with
 | nil=>exact fun _=>rfl
 | cons i is ih=>intro st;show (clr is (st.set i none)).length=_;rw [ih,List.length_set]
theorem aBf(is:List Nat):∀ (st:PSt) (j:Nat) (x:Sl),(clr is st)[j]?=some (some x)->st[j]?=some (some x)/\j ∉ is:=by
 induction is with
 | nil=>exact fun σ j v h=>⟨h,by simp⟩
 | cons i is ih =>
  intro σ j v h
  obtain ⟨h1,h2⟩:=ih (σ.set i none) j v h
  rw [List.getElem?_set] at h1
  by_cases e:i=j
  ·subst e
   rw [if_pos rfl] at h1
   split at h1<;>cases h1
  ·rw [if_neg e] at h1
   exact ⟨h1,fun z=>(List.mem_cons.mp z).elim (fun z=>e z.symm) h2⟩
theorem aCw(is:List Nat):∀ (σ:LSt) (j:Nat),j ∉ is->(aHu is σ)[j]?=σ[j]?:=by
 induction is with
 | nil=>exact fun σ j _=>rfl
 | cons i is ih =>
  intro σ j h
  show (aHu is (σ.set i none))[j]?=_
  rw [ih _ j fun z=>h (List.mem_cons_of_mem _ z),List.getElem?_set,if_neg (show ¬ i=j from fun z=>h (z ▸ List.mem_cons_self))]
theorem RS.clr(is:List Nat)(r:RS K B A H st σ):RS K B A H (Pu.clr is st) (aHu is σ) where
 len:=by rw [aT9,aHv,r.len]
 own:=r.own
 dis:=r.dis
 val:=fun i d e=>by
  obtain ⟨e1,h⟩:=aBf is st i _ e
  rw [aCw is σ i h]
  exact r.val i d e1
 lst:=fun i kk xs e=>by
  obtain ⟨e1,h⟩:=aBf is st i _ e
  obtain ⟨a,o,vs,e2,m,h1,ko,q,u⟩:=r.lst i kk xs e1
  refine ⟨a,o,vs,by rw [aCw is σ i h];exact e2,m,h1,ko,q,fun j k' ys ej ej2=>?_⟩
  obtain ⟨e3,h3⟩:=aBf is st j _ ej
  rw [aCw is σ j h3] at ej2
  exact u j k' ys e3 ej2
theorem RS.weaken(r:RS K B A H st σ)(hl:st'.length=st.length)(h:∀ (j:Nat) (x:Sl),st'[j]?=some (some x)->st[j]?=some (some x)):RS K B A H st' σ where
 len:=hl.trans r.len
 own:=r.own
 dis:=r.dis
 val:=fun i d e=>r.val i d (h i _ e)
 lst:=fun i kk xs e=>by
  obtain ⟨a,o,vs,e2,m,h1,ko,q,u⟩:=r.lst i kk xs (h i _ e)
  exact ⟨a,o,vs,e2,m,h1,ko,q,fun j k' ys ej ej2=>u j k' ys (h j _ ej) ej2⟩
theorem mem_mid{A B:List Addr}{p b:Addr}:b∈A++p :: B ↔ b=p\/b∈A++B:=by
 simp only [List.mem_append,List.mem_cons]
 constructor
 ·rintro (h | h | h)
  ·exact .inr (.inl h)
  ·exact .inl h
  ·exact .inr (.inr h)
 ·rintro (h | h | h)
  ·exact .inr (.inl h)
  ·exact .inl h
  ·exact .inr (.inr h)
theorem aHw{p:Addr}{o:HO}(hp:H p=none):bA (hide (A++B) H) (hide (A++p :: B) (upd H p o)):=fun b u q=>by
 have q1:=bN _ _ _ _ q
 have hb:b ∉ A++B:=fun z=>by rw [fO z] at q;cases q
 have ne:b≠p:=bK q1 hp
 rw [cD (show b ∉ A++p :: B from fun z=>(mem_mid.mp z).elim ne hb),bW ne]
 exact q1
theorem RS.grow(r:RS K B A H st σ){p:Addr}{vs:List V}(hp:H p=none):RS K (p :: B) A (upd H p (.lst vs)) st σ where
 len:=r.len
 own:=fun a ha=>by
  by_cases e:a=p
  ·subst e;rw [cH];rfl
  ·rw [bW e];exact r.own a ((mem_mid.mp ha).resolve_left e)
 dis:=fun a ha hb=>by
  rcases List.mem_cons.mp hb with rfl | hb
  ·exact r.own.free hp (List.mem_append_left _ ha)
  ·exact r.dis a ha hb
 val:=fun j d' e=>let ⟨u,e1,q⟩:=r.val j d' e;⟨u,e1,q.mono (aHw hp)⟩
 lst:=fun j kk xs e=>by
  obtain ⟨a,o,vs',e1,m,h1,ko,q,u⟩:=r.lst j kk xs e
  exact ⟨a,o,vs',e1,m,by rw [bW (bK h1 hp)];exact h1,ko,q.mono (aHw hp),u⟩
theorem RS.put{p:Addr}(r:RS K (p :: B) A H st σ){vs:List V}:RS K (p :: B) A (upd H p (.lst vs)) st σ:=by
 have hh:hide (A++p :: B) (upd H p (.lst vs))=hide (A++p :: B) H:=yQ (mem_mid.mpr (.inl rfl))
 refine ⟨r.len,fun b hb=>?_,r.dis,fun j d e=>by rw [hh];exact r.val j d e,fun j kk xs e=>?_⟩
 ·by_cases e:b=p
  ·subst e;rw [cH];rfl
  ·rw [bW e];exact r.own b hb
 ·obtain ⟨a,o,vs',e1,m,h1,ko,q,u⟩:=r.lst j kk xs e
  refine ⟨a,o,vs',e1,m,?_,ko,by rw [hh];exact q,u⟩
  have:a≠p:=fun z=>r.dis a m (z ▸ List.mem_cons_self)
  rw [bW this];exact h1
end
def aEq(is:List Nat)(t:Tg):Prop:=∀ d st s2,t d st = .ok s2->s2.length=st.length/\∀ (j:Nat),j ∉ is->s2[j]?=st[j]?
theorem nF{i:Nat}:aEq [i] (tgN i):=fun d st s2 h=>by
 cases h
 refine ⟨List.length_set,fun j hj=>?_⟩
 rw [List.getElem?_set,if_neg fun z=>hj (by simp [z])]
def ndB:List Str->Bool
 | []=>true
 | x :: r => !r.contains x&&ndB r
theorem aV3:∀ {l:List Str},ndB l=true->l.Nodup
 | [],_ => .nil
 | x :: r,h=>by
  unfold ndB at h
  simp only [Bool.and_eq_true,Bool.not_eq_true'] at h
  exact List.nodup_cons.mpr ⟨fun z=>by rw [List.contains_iff_mem.mpr z] at h;exact Bool.noConfusion h.1,aV3 h.2⟩
def bB9(scope:Scope)(outer:List (Str × NameKind))(N:List Str)(is:List Nat):Bool :=
 scope.kind == .function&&ndB (scope.names.map (·.1))&&scope.names.all (fun x=>x.2 != .free||outer.lookup x.1==some .cell||outer.lookup x.1==some .free) &&
  (List.range N.length).all fun i=>(scope.names.lookup (N.getD i "") != some .local&&scope.names.lookup (N.getD i "") != some .cell)||is.contains i
theorem CScope.of{X:Cx}{scope:Scope}{is:List Nat}(h:bB9 scope X.env.scope.names X.N is=true):CScope X scope is:=by
 unfold bB9 at h
 simp only [Bool.and_eq_true,List.all_eq_true] at h
 obtain ⟨⟨⟨h1,h0⟩,h2⟩,h3⟩:=h
 refine ⟨by simpa using h1,aV3 h0,fun x hx hf=>?_,fun i x e hl=>?_⟩
 ·have:=h2 x hx
  simp only [Bool.or_eq_true,bne_iff_ne,ne_eq,beq_iff_eq] at this
  rcases this with (z | z) | z
  ·exact absurd hf z
  ·exact .inl z
  ·exact .inr z
 ·have hi:i < X.N.length:=(List.getElem?_eq_some_iff.mp e).1
  have:=h3 i (List.mem_range.mpr hi)
  rw [List.getD_eq_getElem?_getD,e] at this
  simp only [Option.getD_some,Bool.or_eq_true,Bool.and_eq_true,bne_iff_ne,ne_eq] at this
  rcases this with ⟨z1,z2⟩ | z
  ·rcases hl with hl | hl
   ·exact absurd hl z1
   ·exact absurd hl z2
  ·simpa using z
theorem aTa{K:PySem.W.Frag}{B:List Addr}{f:Ex}{τ:LSt}{H:Hp}(Q Q':VK)(m:∀ v H',Q v H'->Q' v H')(h:tI K B f τ H Q):tI K B f τ H Q' :=
 let ⟨A,st,d,rs,hd,q⟩:=h;⟨A,st,d,rs,hd,fun v H' s r=>m v H' (q v H' s r)⟩
def tIx(K:PySem.W.Frag)(f:Ex):TE:=fun τ H Q=>∃ B,tI K B f τ H Q
def tTx(K:PySem.W.Frag)(f:Ex):TT:=fun τ H Q=>∃ B,tT K B f τ H Q
def tGx(K:PySem.W.Frag)(t:Tg):TG:=fun v τ H Q=>∃ B,tG K B t v τ H Q
theorem aTb{X:Cx}{e:Expr}{f:Ex}(h:∀ B,PE X e (tI X.K B f)):PE X e (tIx X.K f):=fun pins s σ H Q I ⟨B,q⟩=>h B pins s σ H Q I q
theorem bBa{X:Cx}{e:Expr}{f:Ex}(h:∀ B,PT X e (tT X.K B f)):PT X e (tTx X.K f):=fun pins s σ H Q I ⟨B,q⟩=>h B pins s σ H Q I q
theorem aTc{X:Cx}{e:Expr}{t:Tg}(h:∀ B,PG X e (tG X.K B t)):PG X e (tGx X.K t):=fun pins s σ H v u Q I r ⟨B,q⟩=>h B pins s σ H v u Q I r q
theorem yU{K:PySem.W.Frag}{f:Ex}{τ:LSt}{H:Hp}(Q Q':VK)(m:∀ v H',Q v H'->Q' v H')(h:tIx K f τ H Q):tIx K f τ H Q':=let ⟨B,q⟩:=h;⟨B,aTa Q Q' m q⟩
theorem aLx{K:PySem.W.Frag}{B:List Addr}{is:List Nat}{t:Tg}{it:ItE}{c f:Ex}{tt:TT}{σ:LSt}{H:Hp}(hsub:aEq is t)
  (htt:∀ τ H Q,tTx K c τ H Q->tt τ H Q) {A:List Addr} {st:PSt} {xs ys:List D} (rs:RS K B A H st σ) (hx:it st = .ok xs) (hl:xs.length<=big) (hy:nP t c f (clr is st) xs = .ok ys) {Q:VK}
  (q:∀ p vs H1 H',bA H H1->H1 p=none->bA H1 H'->H' p=some (.lst vs)->bL K (hide (A++p :: B) H') ys vs->Q (.ref p) H'):tLC is (tIt K B it) (tGx K t) tt (tIx K f) σ H Q:=by
 refine ⟨A,st,xs,rs,hx,fun J H1 s1 ito p hp=>?_⟩
 have rs1:=rs.mono s1
 refine ⟨fun i m τ vs H'=>m=xs.length - i/\i<=xs.length/\vs.length<=i/\H' p=some (.lst vs)/\bA H1 H'/\RS K (p :: B) A H' (clr is st) τ /\
   ∃ ds rest,bL K (hide (A++p :: B) H') ds vs/\nP t c f (clr is st) (xs.drop i) = .ok rest/\ds++rest=ys,⟨xs.length,by simp,Nat.zero_le _,Nat.zero_le _,cH,cX hp,(rs1.clr is).grow hp,[],ys,.nil,by rw [List.drop_zero];exact hy,rfl⟩,?_⟩
 rintro i m τ vs H' ⟨rfl,hi,hvl,hpv,s2,rs2,ds,rest,rds,hr,hcat⟩
 refine ⟨hpv,?_⟩
 have mv:∀ a,a∈(p :: A)++B ↔ a∈A++p :: B:=fun a=>by
  rw [mem_mid]
  exact List.mem_cons
 have le:Le A H1 (p :: A) H':=fun b u z=>by
  have z1:=bN _ _ _ _ z
  have hb:b ∉ A:=fun w=>by rw [fO w] at z;cases z
  have ne:b≠p:=bK z1 hp
  rw [cD (show b ∉ p :: A from fun w=>(List.mem_cons.mp w).elim ne hb)]
  exact s2 b u z1
 obtain ⟨i1,i2⟩:=ito (p :: A) H' le (fun a ha=>rs2.own a ((mv a).mp ha)) i
 by_cases hlt:i < xs.length
 ·have hd':xs[i]?=some xs[i]:=List.getElem?_eq_getElem hlt
  obtain ⟨go,yl⟩:=i1 _ hd'
  rw [List.drop_eq_getElem_cons hlt] at hr
  obtain ⟨st2,hst2,h5⟩:=R.ok_of hr
  obtain ⟨cb,hcb,h6⟩:=R.ok_of h5
  obtain ⟨k,rfl,h7⟩:=rK h6
  refine .inr ⟨go,fun x H2 y=>?_⟩
  obtain ⟨sm3,rx⟩:=yl x H2 y
  have hpv:=sm3 _ _ hpv
  have s2:=s2.trans sm3
  have rs2:=rs2.mono sm3
  have rds:=rds.mono (bA.hide sm3)
  have rx':Rep K (hide (A++p :: B) H2) xs[i] x:=rx.mono (iV fun a ha=>(mv a).mpr ha)
  obtain ⟨sl,sg⟩:=hsub _ _ _ hst2
  have back:∀ (j:Nat) (z:Sl),(clr is st)[j]?=some (some z)->st2[j]?=some (some z):=fun j z ez=>by rw [sg j (aBf is st j z ez).2];exact ez
  refine ⟨p :: B,A,clr is st,xs[i],st2,rs2,rx',hst2,fun τ2 rs3=>htt _ _ _ ⟨p :: B,A,st2,k,rs3,hcb,fun H3 s3=>?_⟩⟩
  cases k with
  | true =>
   obtain ⟨y',hy',h8⟩:=R.ok_of h7
   obtain ⟨rest',hrest',h9⟩:=R.ok_of h8
   cases h9
   refine ⟨p :: B,A,st2,y',rs3.mono s3,hy',fun v H4 s4 r4=>⟨s4 _ _ (s3 _ _ hpv),?_,xs.length - (i+1),by omega,rfl,hlt,by rw [List.length_append,List.length_singleton];omega,cH,?_,?_,ds++[y'],rest',?_,hrest',by rw [List.append_assoc];exact hcat⟩⟩
   ·have:sizeLine=16777216:=by decide
    have hbg:=nJ
    omega
   ·exact fun b u z=>by rw [bW (bK z hp)];exact s4 _ _ (s3 _ _ (s2 b u z))
   ·exact (((rs3.mono s3).mono s4).weaken (by rw [sl]) back).put
   ·rw [yQ (mem_mid.mpr (.inl rfl))]
    exact (rds.mono (bA.hide (s3.trans s4))).append (.cons r4 .nil)
  | false=>exact ⟨xs.length - (i+1),by omega,rfl,hlt,by omega,s3 _ _ hpv,s2.trans s3,(rs3.mono s3).weaken (by rw [sl]) back,ds,rest,rds.mono (bA.hide s3),h7,hcat⟩
 ·have e:i=xs.length:=by omega
  subst e
  rw [List.drop_length] at hr
  cases hr
  rw [List.append_nil] at hcat
  subst hcat
  exact .inl ⟨i2 (Nat.le_refl _),q p vs H1 H' s1 hp s2 hpv rds⟩
section
variable{X:Cx}{B:List Addr}{scope:Scope}{elt tg iter c:Expr}{pos:Pos}{t:Tg}{it:ItE}{f u:Ex}
theorem aV4{Y:Cx}{te:TE}{tt:TT}(hY:Y.xe=fun _ _=>False)(he:PE Y elt te)(ht:PT Y c tt){it p:Addr}(τ:LSt)(H:Hp)(s:Shared)(pins:List (Addr × Obj))(vs:List V)(N:Hp->List V->Prop)(Q:Fin->Shared->Prop)(I:Inv Y pins τ H s)
  (h:tt τ H fun k H3=>if k=true then te τ H3 fun y H4=>H4 p=some (.lst vs)/\vs.length < sizeLine/\N (upd H4 p (.lst (vs++[y]))) (vs++[y]) else N H3 vs)
  (mono:∀ H (Q Q':VK),(∀ v H',Q v H'->Q' v H')->te τ H Q->te τ H Q')
  (q:∀ s' H' ws,Inv Y pins τ H' s'->N H' ws->Q (.again (.compLoop (.ListComp elt [⟨tg,iter,[c],0⟩] scope pos) 0 (.ref it) (.ref p) Y.env)) s') :
  wpAny (model Y.prog Y.w) Y.A (isTrue c Y.env (eval c Y.env) >>= fun ok => if ok = true then (eval elt Y.env >>= fun x => call (.builtin "list.append") [.ref p, x] >>= fun _ => again (.compLoop (.ListComp elt [⟨tg, iter, [c], 0⟩] scope pos) 0 (.ref it) (.ref p) Y.env))
        else again (.compLoop (.ListComp elt [⟨tg,iter,[c],0⟩] scope pos) 0 (.ref it) (.ref p) Y.env)) Q (fun _ _=>False) s:=by
 have ht':=ht pins s τ H _ I h
 rw [hY] at ht'
 refine wpAny_bind (thn ht' fun k s1 ⟨H1,I1,q1⟩=>?_)
 cases k with
 | true =>
  rw [if_pos rfl]
  have q1:te τ H1 fun y H4=>H4 p=some (.lst vs)/\vs.length < sizeLine/\N (upd H4 p (.lst (vs++[y]))) (vs++[y]):=q1
  exact aEp he (by rw [hY];exact fun _ _ z=>z) I1 (mono _ _ _ (fun y H4 ⟨a,b,n⟩=>⟨a,b,fun s' I'=>wpAny_pure (q s' _ _ I' n)⟩) q1)
 | false =>
  rw [if_neg Bool.false_ne_true]
  exact wpAny_pure (q s1 H1 vs I1 q1)
theorem aJx{σ:LSt}{H:Hp}{Q:VK}{st:PSt}{A:List Addr}{ys:List D}{p:Addr}{vs:List V}{H1 H':Hp}(rs:RS X.K B A H st σ)(q:∀ v H',bA H H'->Rep X.K (hide (A++B) H') (.lst ys) v->Q v H')(s1:bA H H1)(hp:H1 p=none)(s2:bA H1 H')
  (hv:H' p=some (.lst vs)) (r:bL X.K (hide (A++p :: B) H') ys vs):Q (.ref p) H' :=
 q _ H' (s1.trans s2) (bZ.mpr ⟨p,vs,rfl,SqL.of (by rw [cD ((rs.own.mono s1).free hp)];exact hv),r.mono (iV fun a ha=>mem_mid.mpr (.inr ha))⟩)
theorem qN(is:List Nat)(hsub:aEq is t)(S:CScope X scope is)(hi:L2.PI X tg iter (tIt X.K B it))(hg:∀ (B:List Addr) (C:Addr) (s₀:Shared) (H₀:Hp) (fp:List Addr),PG (cO X scope C s₀ H₀ fp) tg (tG X.K B t))
  (he:∀ (B:List Addr) (C:Addr) (s₀:Shared) (H₀:Hp) (fp:List Addr),PE (cO X scope C s₀ H₀ fp) elt (tI X.K B f)) (hc:X.calm=true) (hs:∀ x,foldedSetIterable iter X.env x=pure x:=by intro _;rfl) :
  PE X (.ListComp elt [⟨tg,iter,[],0⟩] scope pos) (tI X.K B (dU is t it fH f)):=by
 intro pins s σ H Q I h
 obtain ⟨A,st,d,rs,hd,q⟩:=h
 obtain ⟨xs,hx,h2⟩:=R.ok_of hd
 obtain ⟨hl,h3⟩:=aJ h2
 obtain ⟨ys,hy,h4⟩:=R.ok_of h3
 cases h4
 rw [eval_ListComp]
 refine vK (use:=none) (Qf:=EP X pins σ Q) (Q:=Q) (tt:=aG5) (te:=tIx X.K f) (rest:=fun env it p=>eval elt env >>= fun x=>call (.builtin "list.append") [p,x] >>= fun _=>again (.compLoop (.ListComp elt [⟨tg,iter,[],0⟩] scope pos) 0 it p env)) S hc hi (fun C s₀ H₀ fp=>aTc fun B=>hg B C s₀ H₀ fp) (fun _ _ _=>sU)
  (fun C s₀ H₀ fp it p s Q h=>bB7 (Y:=cO X scope C s₀ H₀ fp) h) (fun C s₀ H₀ fp it p τ H s pins vs N Q I h q=>aV2 (Y:=cO X scope C s₀ H₀ fp) rfl (aTb fun B=>he B C s₀ H₀ fp) τ H s pins vs N Q I h (fun Q Q' m h=>yU Q Q' m h) q) hs I
  (aLx hsub (fun τ H Q ⟨B,A,st,k,rs,hk,q⟩=>?_) rs hx hl hy fun p vs H1 H' s1 hp s2 hv r=>aJx rs q s1 hp s2 hv r) fun C p H5 s5 m5 s3 H3 fp τ hC I3 hfp I5 hn5 q5=>⟨m5,hn5,fun h' hs'=>⟨.ref p,H5,aG4 I3 hfp hC I5 hs',rfl,q5⟩⟩
 cases hk
 exact q H (bA.refl _)
theorem aCx(is:List Nat)(hsub:aEq is t)(S:CScope X scope is)(hi:L2.PI X tg iter (tIt X.K B it))(hg:∀ (B:List Addr) (C:Addr) (s₀:Shared) (H₀:Hp) (fp:List Addr),PG (cO X scope C s₀ H₀ fp) tg (tG X.K B t))
  (ht:∀ (B:List Addr) (C:Addr) (s₀:Shared) (H₀:Hp) (fp:List Addr),PT (cO X scope C s₀ H₀ fp) c (tT X.K B u))
  (he:∀ (B:List Addr) (C:Addr) (s₀:Shared) (H₀:Hp) (fp:List Addr),PE (cO X scope C s₀ H₀ fp) elt (tI X.K B f)) (hc:X.calm=true) (hs:∀ x,foldedSetIterable iter X.env x=pure x:=by intro _;rfl) :
  PE X (.ListComp elt [⟨tg,iter,[c],0⟩] scope pos) (tI X.K B (dU is t it u f)):=by
 intro pins s σ H Q I h
 obtain ⟨A,st,d,rs,hd,q⟩:=h
 obtain ⟨xs,hx,h2⟩:=R.ok_of hd
 obtain ⟨hl,h3⟩:=aJ h2
 obtain ⟨ys,hy,h4⟩:=R.ok_of h3
 cases h4
 rw [eval_ListComp]
 exact vK (use:=none) (Qf:=EP X pins σ Q) (Q:=Q) (tt:=tTx X.K u) (te:=tIx X.K f) (rest:=fun env it p=>isTrue c env (eval c env) >>= fun ok=>if ok=true then (eval elt env >>= fun x=>call (.builtin "list.append") [p,x] >>= fun _=>again (.compLoop (.ListComp elt [⟨tg,iter,[c],0⟩] scope pos) 0 it p env)) else again (.compLoop (.ListComp elt [⟨tg,iter,[c],0⟩] scope pos) 0 it p env)) S hc hi (fun C s₀ H₀ fp=>aTc fun B=>hg B C s₀ H₀ fp) (fun _ _ _=>sU)
  (fun C s₀ H₀ fp it p s Q h=>bB8 (Y:=cO X scope C s₀ H₀ fp) h) (fun C s₀ H₀ fp it p τ H s pins vs N Q I h q=>aV4 (Y:=cO X scope C s₀ H₀ fp) rfl (aTb fun B=>he B C s₀ H₀ fp) (bBa fun B=>ht B C s₀ H₀ fp) τ H s pins vs N Q I h (fun _ Q Q' m h=>yU Q Q' m h) q) hs I
  (aLx hsub (fun τ H Q h=>h) rs hx hl hy fun p vs H1 H' s1 hp s2 hv r=>aJx rs q s1 hp s2 hv r) fun C p H5 s5 m5 s3 H3 fp τ hC I3 hfp I5 hn5 q5=>⟨m5,hn5,fun h' hs'=>⟨.ref p,H5,aG4 I3 hfp hC I5 hs',rfl,q5⟩⟩
end
end Pu
namespace Pu
open PySem PySem.Spec PyProof.Rows L2 PySem.SeqAt
section
variable{X:Cx}{pins:List (Addr × Obj)}{σ:LSt}{H:Hp}{s:Shared}
theorem aLy(I:Inv X pins σ H s){a:Addr}{xs ys:List V}(h1:SqL X.K H a xs)(h2:SqT X.K H a ys):False:=by
 obtain ⟨its,_,⟨o,n,e,hc,_⟩,_⟩:=I.list h1
 obtain ⟨its2,_,⟨o2,e2,hc2,_⟩,_⟩:=I.tuple h2
 rw [e] at e2;cases e2
 rw [hc] at hc2;simp at hc2
mutual
theorem Rep.inj(I:Inv X pins σ H s):∀ {x y:D} {v:V},plain x=true->plain y=true->Rep X.K H x v->Rep X.K H y v->x=y
 | .non,y,v,px,py,h,h'=>by
  have e:=cC.mp h;subst e
  cases y<;>first | (simp at py;done) | skip
  all_goals simp only [cC,bO,aV,bI,rB,bZ] at h'
  all_goals first | rfl | (obtain ⟨_,_,h',_⟩:=h';cases h';done) | (cases h';done)
 | .bl b,y,v,px,py,h,h'=>by
  have e:=bO.mp h;subst e
  cases y<;>first | (simp at py;done) | skip
  all_goals simp only [cC,bO,aV,bI,rB,bZ] at h'
  all_goals first | (obtain ⟨_,_,h',_⟩:=h';cases h';done) | (cases h';first | rfl | done)
 | .int i,y,v,px,py,h,h'=>by
  have e:=aV.mp h;subst e
  cases y<;>first | (simp at py;done) | skip
  all_goals simp only [cC,bO,aV,bI,rB,bZ] at h'
  all_goals first | (obtain ⟨_,_,h',_⟩:=h';cases h';done) | (cases h';first | rfl | done)
 | .str x,y,v,px,py,h,h'=>by
  have e:=bI.mp h;subst e
  cases y with
  | dct _ _ _=>simp at py
  | ins _ _ _=>simp at py
  | exn _ _ _=>simp at py
  | fn _=>simp at py
  | str z =>
   have e2:=bI.mp h'
   injection e2 with e2
   injection e2 with e2
   have:x=z:=by simpa using congrArg Array.toList e2
   rw [this]
  | non=>exact nomatch cC.mp h'
  | bl _=>exact nomatch bO.mp h'
  | int _=>exact nomatch aV.mp h'
  | tup _=>obtain ⟨_,_,h',_⟩:=bM h';cases h'
  | lst _=>obtain ⟨_,_,h',_⟩:=bZ.mp h';cases h'
 | .tup ds,y,v,px,py,h,h'=>by
  obtain ⟨a,vs,e,hq,hr⟩:=bM h
  subst e
  cases y with
  | dct _ _ _=>simp at py
  | ins _ _ _=>simp at py
  | exn _ _ _=>simp at py
  | fn _=>simp at py
  | tup es =>
   obtain ⟨a',vs',e',hq',hr'⟩:=bM h'
   cases e'
   have:=I.tuple_inj hq hq'
   subst this
   rw [bL.inj I (by simpa using px) (by simpa using py) hr hr']
  | lst es =>
   obtain ⟨a',vs',e',hq',hr'⟩:=bZ.mp h'
   cases e'
   exact (aLy I hq' hq).elim
  | non=>exact nomatch cC.mp h'
  | bl _=>exact nomatch bO.mp h'
  | int _=>exact nomatch aV.mp h'
  | str _=>exact nomatch bI.mp h'
 | .lst ds,y,v,px,py,h,h'=>by
  obtain ⟨a,vs,e,hq,hr⟩:=bZ.mp h
  subst e
  cases y with
  | dct _ _ _=>simp at py
  | ins _ _ _=>simp at py
  | exn _ _ _=>simp at py
  | fn _=>simp at py
  | lst es =>
   obtain ⟨a',vs',e',hq',hr'⟩:=bZ.mp h'
   cases e'
   have:=I.list_inj hq hq'
   subst this
   rw [bL.inj I (by simpa using px) (by simpa using py) hr hr']
  | tup es =>
   obtain ⟨a',vs',e',hq',hr'⟩:=bM h'
   cases e'
   exact (aLy I hq hq').elim
  | non=>exact nomatch cC.mp h'
  | bl _=>exact nomatch bO.mp h'
  | int _=>exact nomatch aV.mp h'
  | str _=>exact nomatch bI.mp h'
 | .dct _ _ _,y,v,px,py,h,h'=>by simp at px
 | .ins _ _ _,y,v,px,py,h,h'=>by simp at px
 | .exn _ _ _,y,v,px,py,h,h'=>by simp at px
 | .fn _,y,v,px,py,h,h'=>by simp at px
theorem bL.inj(I:Inv X pins σ H s):∀ {xs ys:List D} {vs:List V},dC xs=true->dC ys=true->bL X.K H xs vs->bL X.K H ys vs->xs=ys
 | [],ys,vs,px,py,h,h'=>by
  have e:=cQ.mp h;subst e
  cases ys with
  | nil=>rfl
  | cons y ys=>obtain ⟨_,_,h',_⟩:=bY.mp h';cases h'
 | x :: xs,ys,vs,px,py,h,h'=>by
  obtain ⟨v,r,e,h1,h2⟩:=bY.mp h
  subst e
  cases ys with
  | nil=>exact nomatch cQ.mp h'
  | cons y ys =>
   obtain ⟨v',r',e',h1',h2'⟩:=bY.mp h'
   cases e'
   simp only [mV,Bool.and_eq_true] at px py
   rw [Rep.inj I px.1 py.1 h1 h1',bL.inj I px.2 py.2 h2 h2']
end
mutual
theorem aCy:∀ x:D,plain x=true->eqD x x=true
 | .non,_=>by unfold eqD;rfl
 | .bl b,_=>by unfold eqD;simp
 | .int i,_=>by unfold eqD;simp
 | .str x,_=>by unfold eqD;simp
 | .tup x,h=>by unfold eqD;exact aA5 x (by simpa using h)
 | .lst x,h=>by unfold eqD;exact aA5 x (by simpa using h)
 | .dct _ _ _,h=>by simp at h
 | .ins _ _ _,h=>by simp at h
 | .exn _ _ _,h=>by simp at h
 | .fn _,h=>by simp at h
theorem aA5:∀ x:List D,dC x=true->eU x x=true
 | [],_=>by unfold eU;rfl
 | a :: x,h=>by
  simp only [mV,Bool.and_eq_true] at h
  unfold eU;rw [aCy a h.1,aA5 x h.2];rfl
end
def pairE(xs ys:List D)(j:Nat):Bool:=eqD (xs.getD j .non) (ys.getD j .non)
theorem nG:∀ xs ys:List D,((List.range (min xs.length ys.length)).all (pairE xs ys)&&xs.length==ys.length)=eU xs ys
 | [],[]=>by unfold eU;rfl
 | [],_ :: _=>by unfold eU;simp
 | _ :: _,[]=>by unfold eU;simp
 | x :: xs,y :: ys=>by
  have ih:=nG xs ys
  have e:eU (x :: xs) (y :: ys)=(eqD x y&&eU xs ys):=by conv=>lhs;unfold eU
  rw [e,<-ih]
  have hm:min (x :: xs).length (y :: ys).length=min xs.length ys.length+1:=by simp only [List.length_cons];omega
  rw [hm,List.range_succ_eq_map,List.all_cons,List.all_map]
  have e1:pairE (x :: xs) (y :: ys) 0=eqD x y:=rfl
  have e2:(pairE (x :: xs) (y :: ys) ∘ Nat.succ)=pairE xs ys:=rfl
  rw [e1,e2,Bool.and_assoc]
  congr 1
  simp
theorem xM{xs ys:List D}(h:xs.length≠ys.length):eU xs ys=false:=by
 rw [<-nG];simp [h]
mutual
theorem aHx(I:Inv X pins σ H s):∀ (x y:D) (A:Around) (v u:V) (a b:Value),Rep X.K H x v->Rep X.K H y u->RelV v a->RelV u b->A.units+dep x < cLine->plain x=true->plain y=true->EqAt A s a b (eqD x y)
 | .non,y,A,v,u,a,b,ra,rb,va,vb,hu,px,py=>by
  have zv:=cC.mp ra;subst zv;have za:a=Value.none:=va;subst za
  cases y with
  | dct _ _ _=>simp at py
  | ins _ _ _=>simp at py
  | exn _ _ _=>simp at py
  | fn _=>simp at py
  | non =>
   have zu:=cC.mp rb;subst zu;have zb:b=Value.none:=vb;subst zb
   have e:eqD (.non) (.non)=eqD _ _:=rfl
   unfold eqD
   exact EqAt.same _
  | bl y =>
   have zu:=bO.mp rb;subst zu;have zb:b=Value.bool y:=vb;subst zb
   have e:eqD (.non) (.bl y)=eqD _ _:=rfl
   unfold eqD
   exact EqAt.none_bool y
  | int y =>
   have zu:=aV.mp rb;subst zu;obtain ⟨tb,zb⟩:∃ t,b=Value.int y t:=vb;subst zb
   have e:eqD (.non) (.int y)=eqD _ _:=rfl
   unfold eqD
   exact EqAt.none_int y tb
  | str y =>
   have zu:=bI.mp rb;subst zu;obtain ⟨tb,zb⟩:∃ t,b=Value.str ⟨y.toArray⟩ t:=vb;subst zb
   have e:eqD (.non) (.str y)=eqD _ _:=rfl
   unfold eqD
   exact EqAt.none_str _ tb
  | tup y =>
   obtain ⟨lb,wsb,zu,hqb,hrb⟩:=bM rb;subst zu;have zb:b=Value.ref lb:=vb;subst zb;obtain ⟨itsb,rvb,plb,_⟩:=I.tuple hqb;have ilb:s.heap.IsTuple lb itsb.toArray:=plb
   have e:eqD (.non) (.tup y)=eqD _ _:=rfl
   unfold eqD
   exact EqAt.none_tuple ilb (Nat.lt_of_le_of_lt (Nat.le_add_right _ _) hu)
  | lst y =>
   obtain ⟨lb,wsb,zu,hqb,hrb⟩:=bZ.mp rb;subst zu;have zb:b=Value.ref lb:=vb;subst zb;obtain ⟨itsb,rvb,plb,_⟩:=I.list hqb;have ilb:=plb.isList
   have e:eqD (.non) (.lst y)=eqD _ _:=rfl
   unfold eqD
   exact EqAt.none_list ilb (Nat.lt_of_le_of_lt (Nat.le_add_right _ _) hu)
 | .bl x,y,A,v,u,a,b,ra,rb,va,vb,hu,px,py=>by
  have zv:=bO.mp ra;subst zv;have za:a=Value.bool x:=va;subst za
  cases y with
  | dct _ _ _=>simp at py
  | ins _ _ _=>simp at py
  | exn _ _ _=>simp at py
  | fn _=>simp at py
  | non =>
   have zu:=cC.mp rb;subst zu;have zb:b=Value.none:=vb;subst zb
   have e:eqD (.bl x) (.non)=eqD _ _:=rfl
   unfold eqD
   exact EqAt.bool_none x
  | bl y =>
   have zu:=bO.mp rb;subst zu;have zb:b=Value.bool y:=vb;subst zb
   have e:eqD (.bl x) (.bl y)=eqD _ _:=rfl
   unfold eqD
   exact EqAt.bool_bool x y
  | int y =>
   have zu:=aV.mp rb;subst zu;obtain ⟨tb,zb⟩:∃ t,b=Value.int y t:=vb;subst zb
   have e:eqD (.bl x) (.int y)=eqD _ _:=rfl
   unfold eqD
   exact EqAt.bool_int x y tb
  | str y =>
   have zu:=bI.mp rb;subst zu;obtain ⟨tb,zb⟩:∃ t,b=Value.str ⟨y.toArray⟩ t:=vb;subst zb
   have e:eqD (.bl x) (.str y)=eqD _ _:=rfl
   unfold eqD
   exact EqAt.bool_str x _ tb
  | tup y =>
   obtain ⟨lb,wsb,zu,hqb,hrb⟩:=bM rb;subst zu;have zb:b=Value.ref lb:=vb;subst zb;obtain ⟨itsb,rvb,plb,_⟩:=I.tuple hqb;have ilb:s.heap.IsTuple lb itsb.toArray:=plb
   have e:eqD (.bl x) (.tup y)=eqD _ _:=rfl
   unfold eqD
   exact EqAt.bool_tuple x ilb (Nat.lt_of_le_of_lt (Nat.le_add_right _ _) hu)
  | lst y =>
   obtain ⟨lb,wsb,zu,hqb,hrb⟩:=bZ.mp rb;subst zu;have zb:b=Value.ref lb:=vb;subst zb;obtain ⟨itsb,rvb,plb,_⟩:=I.list hqb;have ilb:=plb.isList
   have e:eqD (.bl x) (.lst y)=eqD _ _:=rfl
   unfold eqD
   exact EqAt.bool_list x ilb (Nat.lt_of_le_of_lt (Nat.le_add_right _ _) hu)
 | .int x,y,A,v,u,a,b,ra,rb,va,vb,hu,px,py=>by
  have zv:=aV.mp ra;subst zv;obtain ⟨ta,za⟩:∃ t,a=Value.int x t:=va;subst za
  cases y with
  | dct _ _ _=>simp at py
  | ins _ _ _=>simp at py
  | exn _ _ _=>simp at py
  | fn _=>simp at py
  | non =>
   have zu:=cC.mp rb;subst zu;have zb:b=Value.none:=vb;subst zb
   have e:eqD (.int x) (.non)=eqD _ _:=rfl
   unfold eqD
   exact EqAt.int_none x ta
  | bl y =>
   have zu:=bO.mp rb;subst zu;have zb:b=Value.bool y:=vb;subst zb
   have e:eqD (.int x) (.bl y)=eqD _ _:=rfl
   unfold eqD
   exact EqAt.int_bool x ta y
  | int y =>
   have zu:=aV.mp rb;subst zu;obtain ⟨tb,zb⟩:∃ t,b=Value.int y t:=vb;subst zb
   have e:eqD (.int x) (.int y)=eqD _ _:=rfl
   unfold eqD
   exact EqAt.int_int x ta y tb
  | str y =>
   have zu:=bI.mp rb;subst zu;obtain ⟨tb,zb⟩:∃ t,b=Value.str ⟨y.toArray⟩ t:=vb;subst zb
   have e:eqD (.int x) (.str y)=eqD _ _:=rfl
   unfold eqD
   exact EqAt.int_str x ta _ tb
  | tup y =>
   obtain ⟨lb,wsb,zu,hqb,hrb⟩:=bM rb;subst zu;have zb:b=Value.ref lb:=vb;subst zb;obtain ⟨itsb,rvb,plb,_⟩:=I.tuple hqb;have ilb:s.heap.IsTuple lb itsb.toArray:=plb
   have e:eqD (.int x) (.tup y)=eqD _ _:=rfl
   unfold eqD
   exact EqAt.int_tuple x ta ilb (Nat.lt_of_le_of_lt (Nat.le_add_right _ _) hu)
  | lst y =>
   obtain ⟨lb,wsb,zu,hqb,hrb⟩:=bZ.mp rb;subst zu;have zb:b=Value.ref lb:=vb;subst zb;obtain ⟨itsb,rvb,plb,_⟩:=I.list hqb;have ilb:=plb.isList
   have e:eqD (.int x) (.lst y)=eqD _ _:=rfl
   unfold eqD
   exact EqAt.int_list x ta ilb (Nat.lt_of_le_of_lt (Nat.le_add_right _ _) hu)
 | .str x,y,A,v,u,a,b,ra,rb,va,vb,hu,px,py=>by
  have zv:=bI.mp ra;subst zv;obtain ⟨ta,za⟩:∃ t,a=Value.str ⟨x.toArray⟩ t:=va;subst za
  cases y with
  | dct _ _ _=>simp at py
  | ins _ _ _=>simp at py
  | exn _ _ _=>simp at py
  | fn _=>simp at py
  | non =>
   have zu:=cC.mp rb;subst zu;have zb:b=Value.none:=vb;subst zb
   have e:eqD (.str x) (.non)=eqD _ _:=rfl
   unfold eqD
   exact EqAt.str_none _ ta
  | bl y =>
   have zu:=bO.mp rb;subst zu;have zb:b=Value.bool y:=vb;subst zb
   have e:eqD (.str x) (.bl y)=eqD _ _:=rfl
   unfold eqD
   exact EqAt.str_bool _ ta y
  | int y =>
   have zu:=aV.mp rb;subst zu;obtain ⟨tb,zb⟩:∃ t,b=Value.int y t:=vb;subst zb
   have e:eqD (.str x) (.int y)=eqD _ _:=rfl
   unfold eqD
   exact EqAt.str_int _ ta y tb
  | str y =>
   have zu:=bI.mp rb;subst zu;obtain ⟨tb,zb⟩:∃ t,b=Value.str ⟨y.toArray⟩ t:=vb;subst zb
   have e:eqD (.str x) (.str y)=((⟨x.toArray⟩:Str)==⟨y.toArray⟩):=by rw [<-str_beq];unfold eqD;simp
   rw [e]
   exact EqAt.str_str _ ta _ tb
  | tup y =>
   obtain ⟨lb,wsb,zu,hqb,hrb⟩:=bM rb;subst zu;have zb:b=Value.ref lb:=vb;subst zb;obtain ⟨itsb,rvb,plb,_⟩:=I.tuple hqb;have ilb:s.heap.IsTuple lb itsb.toArray:=plb
   have e:eqD (.str x) (.tup y)=eqD _ _:=rfl
   unfold eqD
   exact EqAt.str_tuple _ ta ilb (Nat.lt_of_le_of_lt (Nat.le_add_right _ _) hu)
  | lst y =>
   obtain ⟨lb,wsb,zu,hqb,hrb⟩:=bZ.mp rb;subst zu;have zb:b=Value.ref lb:=vb;subst zb;obtain ⟨itsb,rvb,plb,_⟩:=I.list hqb;have ilb:=plb.isList
   have e:eqD (.str x) (.lst y)=eqD _ _:=rfl
   unfold eqD
   exact EqAt.str_list _ ta ilb (Nat.lt_of_le_of_lt (Nat.le_add_right _ _) hu)
 | .tup x,y,A,v,u,a,b,ra,rb,va,vb,hu,px,py=>by
  obtain ⟨la,wsa,zv,hqa,hra⟩:=bM ra;subst zv;have za:a=Value.ref la:=va;subst za;obtain ⟨itsa,rva,pla,_⟩:=I.tuple hqa;have ila:s.heap.IsTuple la itsa.toArray:=pla
  cases y with
  | dct _ _ _=>simp at py
  | ins _ _ _=>simp at py
  | exn _ _ _=>simp at py
  | fn _=>simp at py
  | non =>
   have zu:=cC.mp rb;subst zu;have zb:b=Value.none:=vb;subst zb
   have e:eqD (.tup x) (.non)=eqD _ _:=rfl
   unfold eqD
   exact EqAt.tuple_none ila (Nat.lt_of_le_of_lt (Nat.le_add_right _ _) hu)
  | bl y =>
   have zu:=bO.mp rb;subst zu;have zb:b=Value.bool y:=vb;subst zb
   have e:eqD (.tup x) (.bl y)=eqD _ _:=rfl
   unfold eqD
   exact EqAt.tuple_bool y ila (Nat.lt_of_le_of_lt (Nat.le_add_right _ _) hu)
  | int y =>
   have zu:=aV.mp rb;subst zu;obtain ⟨tb,zb⟩:∃ t,b=Value.int y t:=vb;subst zb
   have e:eqD (.tup x) (.int y)=eqD _ _:=rfl
   unfold eqD
   exact EqAt.tuple_int y tb ila (Nat.lt_of_le_of_lt (Nat.le_add_right _ _) hu)
  | str y =>
   have zu:=bI.mp rb;subst zu;obtain ⟨tb,zb⟩:∃ t,b=Value.str ⟨y.toArray⟩ t:=vb;subst zb
   have e:eqD (.tup x) (.str y)=eqD _ _:=rfl
   unfold eqD
   exact EqAt.tuple_str _ tb ila (Nat.lt_of_le_of_lt (Nat.le_add_right _ _) hu)
  | tup y =>
   obtain ⟨lb,wsb,zu,hqb,hrb⟩:=bM rb;subst zu;have zb:b=Value.ref lb:=vb;subst zb;obtain ⟨itsb,rvb,plb,_⟩:=I.tuple hqb;have ilb:s.heap.IsTuple lb itsb.toArray:=plb
   have n1:itsa.length=x.length:=by rw [<-rva.length,hra.length]
   have n2:itsb.length=y.length:=by rw [<-rvb.length,hrb.length]
   have e:eqD (.tup x) (.tup y)=eU x y:=by conv=>lhs;unfold eqD
   have hd:dep (.tup x)=dX x+1:=by conv=>lhs;unfold dep
   rw [hd] at hu
   have hin:A.in1.units+dX x < cLine:=by show A.units+1+dX x < cLine;omega
   by_cases hll:la=lb
   ·subst hll
    have:=Rep.inj I px py ra rb
    rw [this,aCy _ py]
    exact EqAt.same _
   ·rw [e]
    have e3:eU x y=((List.range (min itsa.toArray.size itsb.toArray.size)).all (pairE x y)&&itsa.toArray.size==itsb.toArray.size):=by rw [<-nG,List.size_toArray,List.size_toArray,n1,n2]
    rw [e3]
    refine EqAt.of_refs hll (RcAt.tuples ila ilb (by omega) fun j j1 j2=>?_)
    have:=lY I x y A.in1 wsa wsb itsa itsb hra hrb rva rvb hin (by simpa using px) (by simpa using py) j (by simpa using j1) (by simpa using j2)
    simpa using this
  | lst y =>
   obtain ⟨lb,wsb,zu,hqb,hrb⟩:=bZ.mp rb;subst zu;have zb:b=Value.ref lb:=vb;subst zb;obtain ⟨itsb,rvb,plb,_⟩:=I.list hqb;have ilb:=plb.isList
   have e:eqD (.tup x) (.lst y)=eqD _ _:=rfl
   unfold eqD
   exact EqAt.tuple_list ila ilb (Nat.lt_of_le_of_lt (Nat.le_add_right _ _) hu)
 | .lst x,y,A,v,u,a,b,ra,rb,va,vb,hu,px,py=>by
  obtain ⟨la,wsa,zv,hqa,hra⟩:=bZ.mp ra;subst zv;have za:a=Value.ref la:=va;subst za;obtain ⟨itsa,rva,pla,_⟩:=I.list hqa;have ila:=pla.isList
  cases y with
  | dct _ _ _=>simp at py
  | ins _ _ _=>simp at py
  | exn _ _ _=>simp at py
  | fn _=>simp at py
  | non =>
   have zu:=cC.mp rb;subst zu;have zb:b=Value.none:=vb;subst zb
   have e:eqD (.lst x) (.non)=eqD _ _:=rfl
   unfold eqD
   exact EqAt.list_none ila (Nat.lt_of_le_of_lt (Nat.le_add_right _ _) hu)
  | bl y =>
   have zu:=bO.mp rb;subst zu;have zb:b=Value.bool y:=vb;subst zb
   have e:eqD (.lst x) (.bl y)=eqD _ _:=rfl
   unfold eqD
   exact EqAt.list_bool y ila (Nat.lt_of_le_of_lt (Nat.le_add_right _ _) hu)
  | int y =>
   have zu:=aV.mp rb;subst zu;obtain ⟨tb,zb⟩:∃ t,b=Value.int y t:=vb;subst zb
   have e:eqD (.lst x) (.int y)=eqD _ _:=rfl
   unfold eqD
   exact EqAt.list_int y tb ila (Nat.lt_of_le_of_lt (Nat.le_add_right _ _) hu)
  | str y =>
   have zu:=bI.mp rb;subst zu;obtain ⟨tb,zb⟩:∃ t,b=Value.str ⟨y.toArray⟩ t:=vb;subst zb
   have e:eqD (.lst x) (.str y)=eqD _ _:=rfl
   unfold eqD
   exact EqAt.list_str _ tb ila (Nat.lt_of_le_of_lt (Nat.le_add_right _ _) hu)
  | tup y =>
   obtain ⟨lb,wsb,zu,hqb,hrb⟩:=bM rb;subst zu;have zb:b=Value.ref lb:=vb;subst zb;obtain ⟨itsb,rvb,plb,_⟩:=I.tuple hqb;have ilb:s.heap.IsTuple lb itsb.toArray:=plb
   have e:eqD (.lst x) (.tup y)=eqD _ _:=rfl
   unfold eqD
   exact EqAt.list_tuple ila ilb (Nat.lt_of_le_of_lt (Nat.le_add_right _ _) hu)
  | lst y =>
   obtain ⟨lb,wsb,zu,hqb,hrb⟩:=bZ.mp rb;subst zu;have zb:b=Value.ref lb:=vb;subst zb;obtain ⟨itsb,rvb,plb,_⟩:=I.list hqb;have ilb:=plb.isList
   have n1:itsa.length=x.length:=by rw [<-rva.length,hra.length]
   have n2:itsb.length=y.length:=by rw [<-rvb.length,hrb.length]
   have e:eqD (.lst x) (.lst y)=eU x y:=by conv=>lhs;unfold eqD
   have hd:dep (.lst x)=dX x+1:=by conv=>lhs;unfold dep
   rw [hd] at hu
   have hin:A.in1.units+dX x < cLine:=by show A.units+1+dX x < cLine;omega
   by_cases hll:la=lb
   ·subst hll
    have:=Rep.inj I px py ra rb
    rw [this,aCy _ py]
    exact EqAt.same _
   ·rw [e]
    by_cases hsz:itsa.length=itsb.length
    ·have e3:eU x y=(List.range itsa.toArray.size).all (pairE x y):=by rw [<-nG,List.size_toArray,n1];simp [show x.length=y.length by omega]
     rw [e3]
     refine EqAt.of_refs hll (RcAt.lists ila ilb (by simpa using hsz) (by omega) fun j j1 j2=>?_)
     have:=lY I x y A.in1 wsa wsb itsa itsb hra hrb rva rvb hin (by simpa using px) (by simpa using py) j (by simpa using j1) (by simpa using j2)
     simpa using this
    ·rw [xM (by omega)]
     exact EqAt.of_refs hll (RcAt.lists_lengths ila ilb (by simpa using hsz) (by omega))
 | .dct _ _ _,y,A,v,u,a,b,ra,rb,va,vb,hu,px,py=>by simp at px
 | .ins _ _ _,y,A,v,u,a,b,ra,rb,va,vb,hu,px,py=>by simp at px
 | .exn _ _ _,y,A,v,u,a,b,ra,rb,va,vb,hu,px,py=>by simp at px
 | .fn _,y,A,v,u,a,b,ra,rb,va,vb,hu,px,py=>by simp at px
theorem lY(I:Inv X pins σ H s):∀ (xs ys:List D) (A:Around) (vs us:List V) (as bs:List Value),bL X.K H xs vs->bL X.K H ys us->Vals vs as->Vals us bs->A.units+dX xs < cLine->dC xs=true->dC ys=true->∀ (j:Nat) (h1:j < as.length) (h2:j < bs.length),EqAt A s as[j] bs[j] (pairE xs ys j)
 | [],_,A,vs,us,as,bs,ra,rb,va,vb,hu,px,py,j,h1,h2=>by
  have e:=cQ.mp ra;subst e;cases va;exact absurd h1 (Nat.not_lt_zero _)
 | x :: xs,[],A,vs,us,as,bs,ra,rb,va,vb,hu,px,py,j,h1,h2=>by
  have e:=cQ.mp rb;subst e;cases vb;exact absurd h2 (Nat.not_lt_zero _)
 | x :: xs,y :: ys,A,vs,us,as,bs,ra,rb,va,vb,hu,px,py,j,h1,h2=>by
  obtain ⟨v,r,e,p1,p2⟩:=bY.mp ra;subst e
  obtain ⟨u,r',e,q1,q2⟩:=bY.mp rb;subst e
  have hd:dX (x :: xs)=max (dep x) (dX xs):=by conv=>lhs;unfold dX
  rw [hd] at hu
  simp only [mV,Bool.and_eq_true] at px py
  cases va with
  | cons va vas =>
   cases vb with
   | cons vb vbs =>
    cases j with
    | zero=>exact aHx I x y A v u _ _ p1 q1 va vb (by omega) px.1 py.1
    | succ j=>exact lY I xs ys A r r' _ _ p2 q2 vas vbs (by omega) px.2 py.2 j (Nat.lt_of_succ_lt_succ h1) (Nat.lt_of_succ_lt_succ h2)
end
theorem aQe(I:Inv X pins σ H s):∀ (x y:D) (A:Around) (v u:V) (a b:Value),Rep X.K H x v->Rep X.K H y u->RelV v a->RelV u b->A.units+dep x < cLine->plain x=true->plain y=true->RcAt A s a b (eqD x y)
 | .non,y,A,v,u,a,b,ra,rb,va,vb,hu,px,py=>by
  have zv:=cC.mp ra;subst zv;have za:a=Value.none:=va;subst za
  cases y with
  | dct _ _ _=>simp at py
  | ins _ _ _=>simp at py
  | exn _ _ _=>simp at py
  | fn _=>simp at py
  | non =>
   have zu:=cC.mp rb;subst zu;have zb:b=Value.none:=vb;subst zb
   have e:eqD (.non) (.non)=eqD _ _:=rfl
   unfold eqD
   exact RcAt.none_none
  | bl y =>
   have zu:=bO.mp rb;subst zu;have zb:b=Value.bool y:=vb;subst zb
   have e:eqD (.non) (.bl y)=eqD _ _:=rfl
   unfold eqD
   exact RcAt.none_bool y
  | int y =>
   have zu:=aV.mp rb;subst zu;obtain ⟨tb,zb⟩:∃ t,b=Value.int y t:=vb;subst zb
   have e:eqD (.non) (.int y)=eqD _ _:=rfl
   unfold eqD
   exact RcAt.none_int y tb
  | str y =>
   have zu:=bI.mp rb;subst zu;obtain ⟨tb,zb⟩:∃ t,b=Value.str ⟨y.toArray⟩ t:=vb;subst zb
   have e:eqD (.non) (.str y)=eqD _ _:=rfl
   unfold eqD
   exact RcAt.none_str _ tb
  | tup y =>
   obtain ⟨lb,wsb,zu,hqb,hrb⟩:=bM rb;subst zu;have zb:b=Value.ref lb:=vb;subst zb;obtain ⟨itsb,rvb,plb,_⟩:=I.tuple hqb;have ilb:s.heap.IsTuple lb itsb.toArray:=plb
   have e:eqD (.non) (.tup y)=eqD _ _:=rfl
   unfold eqD
   exact RcAt.none_tuple ilb (Nat.lt_of_le_of_lt (Nat.le_add_right _ _) hu)
  | lst y =>
   obtain ⟨lb,wsb,zu,hqb,hrb⟩:=bZ.mp rb;subst zu;have zb:b=Value.ref lb:=vb;subst zb;obtain ⟨itsb,rvb,plb,_⟩:=I.list hqb;have ilb:=plb.isList
   have e:eqD (.non) (.lst y)=eqD _ _:=rfl
   unfold eqD
   exact RcAt.none_list ilb (Nat.lt_of_le_of_lt (Nat.le_add_right _ _) hu)
 | .bl x,y,A,v,u,a,b,ra,rb,va,vb,hu,px,py=>by
  have zv:=bO.mp ra;subst zv;have za:a=Value.bool x:=va;subst za
  cases y with
  | dct _ _ _=>simp at py
  | ins _ _ _=>simp at py
  | exn _ _ _=>simp at py
  | fn _=>simp at py
  | non =>
   have zu:=cC.mp rb;subst zu;have zb:b=Value.none:=vb;subst zb
   have e:eqD (.bl x) (.non)=eqD _ _:=rfl
   unfold eqD
   exact RcAt.bool_none x
  | bl y =>
   have zu:=bO.mp rb;subst zu;have zb:b=Value.bool y:=vb;subst zb
   have e:eqD (.bl x) (.bl y)=eqD _ _:=rfl
   unfold eqD
   exact RcAt.bool_bool x y
  | int y =>
   have zu:=aV.mp rb;subst zu;obtain ⟨tb,zb⟩:∃ t,b=Value.int y t:=vb;subst zb
   have e:eqD (.bl x) (.int y)=eqD _ _:=rfl
   unfold eqD
   exact RcAt.bool_int x y tb
  | str y =>
   have zu:=bI.mp rb;subst zu;obtain ⟨tb,zb⟩:∃ t,b=Value.str ⟨y.toArray⟩ t:=vb;subst zb
   have e:eqD (.bl x) (.str y)=eqD _ _:=rfl
   unfold eqD
   exact RcAt.bool_str x _ tb
  | tup y =>
   obtain ⟨lb,wsb,zu,hqb,hrb⟩:=bM rb;subst zu;have zb:b=Value.ref lb:=vb;subst zb;obtain ⟨itsb,rvb,plb,_⟩:=I.tuple hqb;have ilb:s.heap.IsTuple lb itsb.toArray:=plb
   have e:eqD (.bl x) (.tup y)=eqD _ _:=rfl
   unfold eqD
   exact RcAt.bool_tuple x ilb (Nat.lt_of_le_of_lt (Nat.le_add_right _ _) hu)
  | lst y =>
   obtain ⟨lb,wsb,zu,hqb,hrb⟩:=bZ.mp rb;subst zu;have zb:b=Value.ref lb:=vb;subst zb;obtain ⟨itsb,rvb,plb,_⟩:=I.list hqb;have ilb:=plb.isList
   have e:eqD (.bl x) (.lst y)=eqD _ _:=rfl
   unfold eqD
   exact RcAt.bool_list x ilb (Nat.lt_of_le_of_lt (Nat.le_add_right _ _) hu)
 | .int x,y,A,v,u,a,b,ra,rb,va,vb,hu,px,py=>by
  have zv:=aV.mp ra;subst zv;obtain ⟨ta,za⟩:∃ t,a=Value.int x t:=va;subst za
  cases y with
  | dct _ _ _=>simp at py
  | ins _ _ _=>simp at py
  | exn _ _ _=>simp at py
  | fn _=>simp at py
  | non =>
   have zu:=cC.mp rb;subst zu;have zb:b=Value.none:=vb;subst zb
   have e:eqD (.int x) (.non)=eqD _ _:=rfl
   unfold eqD
   exact RcAt.int_none x ta
  | bl y =>
   have zu:=bO.mp rb;subst zu;have zb:b=Value.bool y:=vb;subst zb
   have e:eqD (.int x) (.bl y)=eqD _ _:=rfl
   unfold eqD
   exact RcAt.int_bool x ta y
  | int y =>
   have zu:=aV.mp rb;subst zu;obtain ⟨tb,zb⟩:∃ t,b=Value.int y t:=vb;subst zb
   have e:eqD (.int x) (.int y)=eqD _ _:=rfl
   unfold eqD
   exact RcAt.int_int x ta y tb
  | str y =>
   have zu:=bI.mp rb;subst zu;obtain ⟨tb,zb⟩:∃ t,b=Value.str ⟨y.toArray⟩ t:=vb;subst zb
   have e:eqD (.int x) (.str y)=eqD _ _:=rfl
   unfold eqD
   exact RcAt.int_str x ta _ tb
  | tup y =>
   obtain ⟨lb,wsb,zu,hqb,hrb⟩:=bM rb;subst zu;have zb:b=Value.ref lb:=vb;subst zb;obtain ⟨itsb,rvb,plb,_⟩:=I.tuple hqb;have ilb:s.heap.IsTuple lb itsb.toArray:=plb
   have e:eqD (.int x) (.tup y)=eqD _ _:=rfl
   unfold eqD
   exact RcAt.int_tuple x ta ilb (Nat.lt_of_le_of_lt (Nat.le_add_right _ _) hu)
  | lst y =>
   obtain ⟨lb,wsb,zu,hqb,hrb⟩:=bZ.mp rb;subst zu;have zb:b=Value.ref lb:=vb;subst zb;obtain ⟨itsb,rvb,plb,_⟩:=I.list hqb;have ilb:=plb.isList
   have e:eqD (.int x) (.lst y)=eqD _ _:=rfl
   unfold eqD
   exact RcAt.int_list x ta ilb (Nat.lt_of_le_of_lt (Nat.le_add_right _ _) hu)
 | .str x,y,A,v,u,a,b,ra,rb,va,vb,hu,px,py=>by
  have zv:=bI.mp ra;subst zv;obtain ⟨ta,za⟩:∃ t,a=Value.str ⟨x.toArray⟩ t:=va;subst za
  cases y with
  | dct _ _ _=>simp at py
  | ins _ _ _=>simp at py
  | exn _ _ _=>simp at py
  | fn _=>simp at py
  | non =>
   have zu:=cC.mp rb;subst zu;have zb:b=Value.none:=vb;subst zb
   have e:eqD (.str x) (.non)=eqD _ _:=rfl
   unfold eqD
   exact RcAt.str_none _ ta
  | bl y =>
   have zu:=bO.mp rb;subst zu;have zb:b=Value.bool y:=vb;subst zb
   have e:eqD (.str x) (.bl y)=eqD _ _:=rfl
   unfold eqD
   exact RcAt.str_bool _ ta y
  | int y =>
   have zu:=aV.mp rb;subst zu;obtain ⟨tb,zb⟩:∃ t,b=Value.int y t:=vb;subst zb
   have e:eqD (.str x) (.int y)=eqD _ _:=rfl
   unfold eqD
   exact RcAt.str_int _ ta y tb
  | str y =>
   have zu:=bI.mp rb;subst zu;obtain ⟨tb,zb⟩:∃ t,b=Value.str ⟨y.toArray⟩ t:=vb;subst zb
   have e:eqD (.str x) (.str y)=((⟨x.toArray⟩:Str)==⟨y.toArray⟩):=by rw [<-str_beq];unfold eqD;simp
   rw [e]
   exact RcAt.str_str _ ta _ tb
  | tup y =>
   obtain ⟨lb,wsb,zu,hqb,hrb⟩:=bM rb;subst zu;have zb:b=Value.ref lb:=vb;subst zb;obtain ⟨itsb,rvb,plb,_⟩:=I.tuple hqb;have ilb:s.heap.IsTuple lb itsb.toArray:=plb
   have e:eqD (.str x) (.tup y)=eqD _ _:=rfl
   unfold eqD
   exact RcAt.str_tuple _ ta ilb (Nat.lt_of_le_of_lt (Nat.le_add_right _ _) hu)
  | lst y =>
   obtain ⟨lb,wsb,zu,hqb,hrb⟩:=bZ.mp rb;subst zu;have zb:b=Value.ref lb:=vb;subst zb;obtain ⟨itsb,rvb,plb,_⟩:=I.list hqb;have ilb:=plb.isList
   have e:eqD (.str x) (.lst y)=eqD _ _:=rfl
   unfold eqD
   exact RcAt.str_list _ ta ilb (Nat.lt_of_le_of_lt (Nat.le_add_right _ _) hu)
 | .tup x,y,A,v,u,a,b,ra,rb,va,vb,hu,px,py=>by
  obtain ⟨la,wsa,zv,hqa,hra⟩:=bM ra;subst zv;have za:a=Value.ref la:=va;subst za;obtain ⟨itsa,rva,pla,_⟩:=I.tuple hqa;have ila:s.heap.IsTuple la itsa.toArray:=pla
  cases y with
  | dct _ _ _=>simp at py
  | ins _ _ _=>simp at py
  | exn _ _ _=>simp at py
  | fn _=>simp at py
  | non =>
   have zu:=cC.mp rb;subst zu;have zb:b=Value.none:=vb;subst zb
   have e:eqD (.tup x) (.non)=eqD _ _:=rfl
   unfold eqD
   exact RcAt.tuple_none ila (Nat.lt_of_le_of_lt (Nat.le_add_right _ _) hu)
  | bl y =>
   have zu:=bO.mp rb;subst zu;have zb:b=Value.bool y:=vb;subst zb
   have e:eqD (.tup x) (.bl y)=eqD _ _:=rfl
   unfold eqD
   exact RcAt.tuple_bool y ila (Nat.lt_of_le_of_lt (Nat.le_add_right _ _) hu)
  | int y =>
   have zu:=aV.mp rb;subst zu;obtain ⟨tb,zb⟩:∃ t,b=Value.int y t:=vb;subst zb
   have e:eqD (.tup x) (.int y)=eqD _ _:=rfl
   unfold eqD
   exact RcAt.tuple_int y tb ila (Nat.lt_of_le_of_lt (Nat.le_add_right _ _) hu)
  | str y =>
   have zu:=bI.mp rb;subst zu;obtain ⟨tb,zb⟩:∃ t,b=Value.str ⟨y.toArray⟩ t:=vb;subst zb
   have e:eqD (.tup x) (.str y)=eqD _ _:=rfl
   unfold eqD
   exact RcAt.tuple_str _ tb ila (Nat.lt_of_le_of_lt (Nat.le_add_right _ _) hu)
  | tup y =>
   obtain ⟨lb,wsb,zu,hqb,hrb⟩:=bM rb;subst zu;have zb:b=Value.ref lb:=vb;subst zb;obtain ⟨itsb,rvb,plb,_⟩:=I.tuple hqb;have ilb:s.heap.IsTuple lb itsb.toArray:=plb
   have n1:itsa.length=x.length:=by rw [<-rva.length,hra.length]
   have n2:itsb.length=y.length:=by rw [<-rvb.length,hrb.length]
   have e:eqD (.tup x) (.tup y)=eU x y:=by conv=>lhs;unfold eqD
   have hd:dep (.tup x)=dX x+1:=by conv=>lhs;unfold dep
   rw [hd] at hu
   have hin:A.in1.units+dX x < cLine:=by show A.units+1+dX x < cLine;omega
   rw [e]
   have e3:eU x y=((List.range (min itsa.toArray.size itsb.toArray.size)).all (pairE x y)&&itsa.toArray.size==itsb.toArray.size):=by rw [<-nG,List.size_toArray,List.size_toArray,n1,n2]
   rw [e3]
   refine  (RcAt.tuples ila ilb (by omega) fun j j1 j2=>?_)
   have:=lY I x y A.in1 wsa wsb itsa itsb hra hrb rva rvb hin (by simpa using px) (by simpa using py) j (by simpa using j1) (by simpa using j2)
   simpa using this
  | lst y =>
   obtain ⟨lb,wsb,zu,hqb,hrb⟩:=bZ.mp rb;subst zu;have zb:b=Value.ref lb:=vb;subst zb;obtain ⟨itsb,rvb,plb,_⟩:=I.list hqb;have ilb:=plb.isList
   have e:eqD (.tup x) (.lst y)=eqD _ _:=rfl
   unfold eqD
   exact RcAt.tuple_list ila ilb (Nat.lt_of_le_of_lt (Nat.le_add_right _ _) hu)
 | .lst x,y,A,v,u,a,b,ra,rb,va,vb,hu,px,py=>by
  obtain ⟨la,wsa,zv,hqa,hra⟩:=bZ.mp ra;subst zv;have za:a=Value.ref la:=va;subst za;obtain ⟨itsa,rva,pla,_⟩:=I.list hqa;have ila:=pla.isList
  cases y with
  | dct _ _ _=>simp at py
  | ins _ _ _=>simp at py
  | exn _ _ _=>simp at py
  | fn _=>simp at py
  | non =>
   have zu:=cC.mp rb;subst zu;have zb:b=Value.none:=vb;subst zb
   have e:eqD (.lst x) (.non)=eqD _ _:=rfl
   unfold eqD
   exact RcAt.list_none ila (Nat.lt_of_le_of_lt (Nat.le_add_right _ _) hu)
  | bl y =>
   have zu:=bO.mp rb;subst zu;have zb:b=Value.bool y:=vb;subst zb
   have e:eqD (.lst x) (.bl y)=eqD _ _:=rfl
   unfold eqD
   exact RcAt.list_bool y ila (Nat.lt_of_le_of_lt (Nat.le_add_right _ _) hu)
  | int y =>
   have zu:=aV.mp rb;subst zu;obtain ⟨tb,zb⟩:∃ t,b=Value.int y t:=vb;subst zb
   have e:eqD (.lst x) (.int y)=eqD _ _:=rfl
   unfold eqD
   exact RcAt.list_int y tb ila (Nat.lt_of_le_of_lt (Nat.le_add_right _ _) hu)
  | str y =>
   have zu:=bI.mp rb;subst zu;obtain ⟨tb,zb⟩:∃ t,b=Value.str ⟨y.toArray⟩ t:=vb;subst zb
   have e:eqD (.lst x) (.str y)=eqD _ _:=rfl
   unfold eqD
   exact RcAt.list_str _ tb ila (Nat.lt_of_le_of_lt (Nat.le_add_right _ _) hu)
  | tup y =>
   obtain ⟨lb,wsb,zu,hqb,hrb⟩:=bM rb;subst zu;have zb:b=Value.ref lb:=vb;subst zb;obtain ⟨itsb,rvb,plb,_⟩:=I.tuple hqb;have ilb:s.heap.IsTuple lb itsb.toArray:=plb
   have e:eqD (.lst x) (.tup y)=eqD _ _:=rfl
   unfold eqD
   exact RcAt.list_tuple ila ilb (Nat.lt_of_le_of_lt (Nat.le_add_right _ _) hu)
  | lst y =>
   obtain ⟨lb,wsb,zu,hqb,hrb⟩:=bZ.mp rb;subst zu;have zb:b=Value.ref lb:=vb;subst zb;obtain ⟨itsb,rvb,plb,_⟩:=I.list hqb;have ilb:=plb.isList
   have n1:itsa.length=x.length:=by rw [<-rva.length,hra.length]
   have n2:itsb.length=y.length:=by rw [<-rvb.length,hrb.length]
   have e:eqD (.lst x) (.lst y)=eU x y:=by conv=>lhs;unfold eqD
   have hd:dep (.lst x)=dX x+1:=by conv=>lhs;unfold dep
   rw [hd] at hu
   have hin:A.in1.units+dX x < cLine:=by show A.units+1+dX x < cLine;omega
   rw [e]
   by_cases hsz:itsa.length=itsb.length
   ·have e3:eU x y=(List.range itsa.toArray.size).all (pairE x y):=by rw [<-nG,List.size_toArray,n1];simp [show x.length=y.length by omega]
    rw [e3]
    refine  (RcAt.lists ila ilb (by simpa using hsz) (by omega) fun j j1 j2=>?_)
    have:=lY I x y A.in1 wsa wsb itsa itsb hra hrb rva rvb hin (by simpa using px) (by simpa using py) j (by simpa using j1) (by simpa using j2)
    simpa using this
   ·rw [xM (by omega)]
    exact  (RcAt.lists_lengths ila ilb (by simpa using hsz) (by omega))
 | .dct _ _ _,y,A,v,u,a,b,ra,rb,va,vb,hu,px,py=>by simp at px
 | .ins _ _ _,y,A,v,u,a,b,ra,rb,va,vb,hu,px,py=>by simp at px
 | .exn _ _ _,y,A,v,u,a,b,ra,rb,va,vb,hu,px,py=>by simp at px
 | .fn _,y,A,v,u,a,b,ra,rb,va,vb,hu,px,py=>by simp at px
theorem aQf(I:Inv X pins σ H s):∀ (x y:D) (A:Around) (v u:V) (a b:Value),Rep X.K H x v->Rep X.K H y u->RelV v a->RelV u b->A.units+dep x < cLine->plain x=true->plain y=true->RcNeAt A s a b (!eqD x y)
 | .non,y,A,v,u,a,b,ra,rb,va,vb,hu,px,py=>by
  have zv:=cC.mp ra;subst zv;have za:a=Value.none:=va;subst za
  cases y with
  | dct _ _ _=>simp at py
  | ins _ _ _=>simp at py
  | exn _ _ _=>simp at py
  | fn _=>simp at py
  | non =>
   have zu:=cC.mp rb;subst zu;have zb:b=Value.none:=vb;subst zb
   have e:eqD (.non) (.non)=eqD _ _:=rfl
   unfold eqD
   exact RcNeAt.none_none
  | bl y =>
   have zu:=bO.mp rb;subst zu;have zb:b=Value.bool y:=vb;subst zb
   have e:eqD (.non) (.bl y)=eqD _ _:=rfl
   unfold eqD
   exact RcNeAt.none_bool y
  | int y =>
   have zu:=aV.mp rb;subst zu;obtain ⟨tb,zb⟩:∃ t,b=Value.int y t:=vb;subst zb
   have e:eqD (.non) (.int y)=eqD _ _:=rfl
   unfold eqD
   exact RcNeAt.none_int y tb
  | str y =>
   have zu:=bI.mp rb;subst zu;obtain ⟨tb,zb⟩:∃ t,b=Value.str ⟨y.toArray⟩ t:=vb;subst zb
   have e:eqD (.non) (.str y)=eqD _ _:=rfl
   unfold eqD
   exact RcNeAt.none_str _ tb
  | tup y =>
   obtain ⟨lb,wsb,zu,hqb,hrb⟩:=bM rb;subst zu;have zb:b=Value.ref lb:=vb;subst zb;obtain ⟨itsb,rvb,plb,_⟩:=I.tuple hqb;have ilb:s.heap.IsTuple lb itsb.toArray:=plb
   have e:eqD (.non) (.tup y)=eqD _ _:=rfl
   unfold eqD
   exact RcNeAt.none_tuple ilb (Nat.lt_of_le_of_lt (Nat.le_add_right _ _) hu)
  | lst y =>
   obtain ⟨lb,wsb,zu,hqb,hrb⟩:=bZ.mp rb;subst zu;have zb:b=Value.ref lb:=vb;subst zb;obtain ⟨itsb,rvb,plb,_⟩:=I.list hqb;have ilb:=plb.isList
   have e:eqD (.non) (.lst y)=eqD _ _:=rfl
   unfold eqD
   exact RcNeAt.none_list ilb (Nat.lt_of_le_of_lt (Nat.le_add_right _ _) hu)
 | .bl x,y,A,v,u,a,b,ra,rb,va,vb,hu,px,py=>by
  have zv:=bO.mp ra;subst zv;have za:a=Value.bool x:=va;subst za
  cases y with
  | dct _ _ _=>simp at py
  | ins _ _ _=>simp at py
  | exn _ _ _=>simp at py
  | fn _=>simp at py
  | non =>
   have zu:=cC.mp rb;subst zu;have zb:b=Value.none:=vb;subst zb
   have e:eqD (.bl x) (.non)=eqD _ _:=rfl
   unfold eqD
   exact RcNeAt.bool_none x
  | bl y =>
   have zu:=bO.mp rb;subst zu;have zb:b=Value.bool y:=vb;subst zb
   have e:eqD (.bl x) (.bl y)=eqD _ _:=rfl
   unfold eqD
   exact RcNeAt.bool_bool x y
  | int y =>
   have zu:=aV.mp rb;subst zu;obtain ⟨tb,zb⟩:∃ t,b=Value.int y t:=vb;subst zb
   have e:eqD (.bl x) (.int y)=eqD _ _:=rfl
   unfold eqD
   exact RcNeAt.bool_int x y tb
  | str y =>
   have zu:=bI.mp rb;subst zu;obtain ⟨tb,zb⟩:∃ t,b=Value.str ⟨y.toArray⟩ t:=vb;subst zb
   have e:eqD (.bl x) (.str y)=eqD _ _:=rfl
   unfold eqD
   exact RcNeAt.bool_str x _ tb
  | tup y =>
   obtain ⟨lb,wsb,zu,hqb,hrb⟩:=bM rb;subst zu;have zb:b=Value.ref lb:=vb;subst zb;obtain ⟨itsb,rvb,plb,_⟩:=I.tuple hqb;have ilb:s.heap.IsTuple lb itsb.toArray:=plb
   have e:eqD (.bl x) (.tup y)=eqD _ _:=rfl
   unfold eqD
   exact RcNeAt.bool_tuple x ilb (Nat.lt_of_le_of_lt (Nat.le_add_right _ _) hu)
  | lst y =>
   obtain ⟨lb,wsb,zu,hqb,hrb⟩:=bZ.mp rb;subst zu;have zb:b=Value.ref lb:=vb;subst zb;obtain ⟨itsb,rvb,plb,_⟩:=I.list hqb;have ilb:=plb.isList
   have e:eqD (.bl x) (.lst y)=eqD _ _:=rfl
   unfold eqD
   exact RcNeAt.bool_list x ilb (Nat.lt_of_le_of_lt (Nat.le_add_right _ _) hu)
 | .int x,y,A,v,u,a,b,ra,rb,va,vb,hu,px,py=>by
  have zv:=aV.mp ra;subst zv;obtain ⟨ta,za⟩:∃ t,a=Value.int x t:=va;subst za
  cases y with
  | dct _ _ _=>simp at py
  | ins _ _ _=>simp at py
  | exn _ _ _=>simp at py
  | fn _=>simp at py
  | non =>
   have zu:=cC.mp rb;subst zu;have zb:b=Value.none:=vb;subst zb
   have e:eqD (.int x) (.non)=eqD _ _:=rfl
   unfold eqD
   exact RcNeAt.int_none x ta
  | bl y =>
   have zu:=bO.mp rb;subst zu;have zb:b=Value.bool y:=vb;subst zb
   have e:eqD (.int x) (.bl y)=eqD _ _:=rfl
   unfold eqD
   exact RcNeAt.int_bool x ta y
  | int y =>
   have zu:=aV.mp rb;subst zu;obtain ⟨tb,zb⟩:∃ t,b=Value.int y t:=vb;subst zb
   have e:eqD (.int x) (.int y)=eqD _ _:=rfl
   unfold eqD
   exact RcNeAt.int_int x ta y tb
  | str y =>
   have zu:=bI.mp rb;subst zu;obtain ⟨tb,zb⟩:∃ t,b=Value.str ⟨y.toArray⟩ t:=vb;subst zb
   have e:eqD (.int x) (.str y)=eqD _ _:=rfl
   unfold eqD
   exact RcNeAt.int_str x ta _ tb
  | tup y =>
   obtain ⟨lb,wsb,zu,hqb,hrb⟩:=bM rb;subst zu;have zb:b=Value.ref lb:=vb;subst zb;obtain ⟨itsb,rvb,plb,_⟩:=I.tuple hqb;have ilb:s.heap.IsTuple lb itsb.toArray:=plb
   have e:eqD (.int x) (.tup y)=eqD _ _:=rfl
   unfold eqD
   exact RcNeAt.int_tuple x ta ilb (Nat.lt_of_le_of_lt (Nat.le_add_right _ _) hu)
  | lst y =>
   obtain ⟨lb,wsb,zu,hqb,hrb⟩:=bZ.mp rb;subst zu;have zb:b=Value.ref lb:=vb;subst zb;obtain ⟨itsb,rvb,plb,_⟩:=I.list hqb;have ilb:=plb.isList
   have e:eqD (.int x) (.lst y)=eqD _ _:=rfl
   unfold eqD
   exact RcNeAt.int_list x ta ilb (Nat.lt_of_le_of_lt (Nat.le_add_right _ _) hu)
 | .str x,y,A,v,u,a,b,ra,rb,va,vb,hu,px,py=>by
  have zv:=bI.mp ra;subst zv;obtain ⟨ta,za⟩:∃ t,a=Value.str ⟨x.toArray⟩ t:=va;subst za
  cases y with
  | dct _ _ _=>simp at py
  | ins _ _ _=>simp at py
  | exn _ _ _=>simp at py
  | fn _=>simp at py
  | non =>
   have zu:=cC.mp rb;subst zu;have zb:b=Value.none:=vb;subst zb
   have e:eqD (.str x) (.non)=eqD _ _:=rfl
   unfold eqD
   exact RcNeAt.str_none _ ta
  | bl y =>
   have zu:=bO.mp rb;subst zu;have zb:b=Value.bool y:=vb;subst zb
   have e:eqD (.str x) (.bl y)=eqD _ _:=rfl
   unfold eqD
   exact RcNeAt.str_bool _ ta y
  | int y =>
   have zu:=aV.mp rb;subst zu;obtain ⟨tb,zb⟩:∃ t,b=Value.int y t:=vb;subst zb
   have e:eqD (.str x) (.int y)=eqD _ _:=rfl
   unfold eqD
   exact RcNeAt.str_int _ ta y tb
  | str y =>
   have zu:=bI.mp rb;subst zu;obtain ⟨tb,zb⟩:∃ t,b=Value.str ⟨y.toArray⟩ t:=vb;subst zb
   have e:eqD (.str x) (.str y)=((⟨x.toArray⟩:Str)==⟨y.toArray⟩):=by rw [<-str_beq];unfold eqD;simp
   rw [e]
   exact RcNeAt.str_str _ ta _ tb
  | tup y =>
   obtain ⟨lb,wsb,zu,hqb,hrb⟩:=bM rb;subst zu;have zb:b=Value.ref lb:=vb;subst zb;obtain ⟨itsb,rvb,plb,_⟩:=I.tuple hqb;have ilb:s.heap.IsTuple lb itsb.toArray:=plb
   have e:eqD (.str x) (.tup y)=eqD _ _:=rfl
   unfold eqD
   exact RcNeAt.str_tuple _ ta ilb (Nat.lt_of_le_of_lt (Nat.le_add_right _ _) hu)
  | lst y =>
   obtain ⟨lb,wsb,zu,hqb,hrb⟩:=bZ.mp rb;subst zu;have zb:b=Value.ref lb:=vb;subst zb;obtain ⟨itsb,rvb,plb,_⟩:=I.list hqb;have ilb:=plb.isList
   have e:eqD (.str x) (.lst y)=eqD _ _:=rfl
   unfold eqD
   exact RcNeAt.str_list _ ta ilb (Nat.lt_of_le_of_lt (Nat.le_add_right _ _) hu)
 | .tup x,y,A,v,u,a,b,ra,rb,va,vb,hu,px,py=>by
  obtain ⟨la,wsa,zv,hqa,hra⟩:=bM ra;subst zv;have za:a=Value.ref la:=va;subst za;obtain ⟨itsa,rva,pla,_⟩:=I.tuple hqa;have ila:s.heap.IsTuple la itsa.toArray:=pla
  cases y with
  | dct _ _ _=>simp at py
  | ins _ _ _=>simp at py
  | exn _ _ _=>simp at py
  | fn _=>simp at py
  | non =>
   have zu:=cC.mp rb;subst zu;have zb:b=Value.none:=vb;subst zb
   have e:eqD (.tup x) (.non)=eqD _ _:=rfl
   unfold eqD
   exact RcNeAt.tuple_none ila (Nat.lt_of_le_of_lt (Nat.le_add_right _ _) hu)
  | bl y =>
   have zu:=bO.mp rb;subst zu;have zb:b=Value.bool y:=vb;subst zb
   have e:eqD (.tup x) (.bl y)=eqD _ _:=rfl
   unfold eqD
   exact RcNeAt.tuple_bool y ila (Nat.lt_of_le_of_lt (Nat.le_add_right _ _) hu)
  | int y =>
   have zu:=aV.mp rb;subst zu;obtain ⟨tb,zb⟩:∃ t,b=Value.int y t:=vb;subst zb
   have e:eqD (.tup x) (.int y)=eqD _ _:=rfl
   unfold eqD
   exact RcNeAt.tuple_int y tb ila (Nat.lt_of_le_of_lt (Nat.le_add_right _ _) hu)
  | str y =>
   have zu:=bI.mp rb;subst zu;obtain ⟨tb,zb⟩:∃ t,b=Value.str ⟨y.toArray⟩ t:=vb;subst zb
   have e:eqD (.tup x) (.str y)=eqD _ _:=rfl
   unfold eqD
   exact RcNeAt.tuple_str _ tb ila (Nat.lt_of_le_of_lt (Nat.le_add_right _ _) hu)
  | tup y =>
   obtain ⟨lb,wsb,zu,hqb,hrb⟩:=bM rb;subst zu;have zb:b=Value.ref lb:=vb;subst zb;obtain ⟨itsb,rvb,plb,_⟩:=I.tuple hqb;have ilb:s.heap.IsTuple lb itsb.toArray:=plb
   have n1:itsa.length=x.length:=by rw [<-rva.length,hra.length]
   have n2:itsb.length=y.length:=by rw [<-rvb.length,hrb.length]
   have e:eqD (.tup x) (.tup y)=eU x y:=by conv=>lhs;unfold eqD
   have hd:dep (.tup x)=dX x+1:=by conv=>lhs;unfold dep
   rw [hd] at hu
   have hin:A.in1.units+dX x < cLine:=by show A.units+1+dX x < cLine;omega
   rw [e]
   have e3:eU x y=((List.range (min itsa.toArray.size itsb.toArray.size)).all (pairE x y)&&itsa.toArray.size==itsb.toArray.size):=by rw [<-nG,List.size_toArray,List.size_toArray,n1,n2]
   rw [e3]
   refine  (RcNeAt.tuples ila ilb (by omega) fun j j1 j2=>?_)
   have:=lY I x y A.in1 wsa wsb itsa itsb hra hrb rva rvb hin (by simpa using px) (by simpa using py) j (by simpa using j1) (by simpa using j2)
   simpa using this
  | lst y =>
   obtain ⟨lb,wsb,zu,hqb,hrb⟩:=bZ.mp rb;subst zu;have zb:b=Value.ref lb:=vb;subst zb;obtain ⟨itsb,rvb,plb,_⟩:=I.list hqb;have ilb:=plb.isList
   have e:eqD (.tup x) (.lst y)=eqD _ _:=rfl
   unfold eqD
   exact RcNeAt.tuple_list ila ilb (Nat.lt_of_le_of_lt (Nat.le_add_right _ _) hu)
 | .lst x,y,A,v,u,a,b,ra,rb,va,vb,hu,px,py=>by
  obtain ⟨la,wsa,zv,hqa,hra⟩:=bZ.mp ra;subst zv;have za:a=Value.ref la:=va;subst za;obtain ⟨itsa,rva,pla,_⟩:=I.list hqa;have ila:=pla.isList
  cases y with
  | dct _ _ _=>simp at py
  | ins _ _ _=>simp at py
  | exn _ _ _=>simp at py
  | fn _=>simp at py
  | non =>
   have zu:=cC.mp rb;subst zu;have zb:b=Value.none:=vb;subst zb
   have e:eqD (.lst x) (.non)=eqD _ _:=rfl
   unfold eqD
   exact RcNeAt.list_none ila (Nat.lt_of_le_of_lt (Nat.le_add_right _ _) hu)
  | bl y =>
   have zu:=bO.mp rb;subst zu;have zb:b=Value.bool y:=vb;subst zb
   have e:eqD (.lst x) (.bl y)=eqD _ _:=rfl
   unfold eqD
   exact RcNeAt.list_bool y ila (Nat.lt_of_le_of_lt (Nat.le_add_right _ _) hu)
  | int y =>
   have zu:=aV.mp rb;subst zu;obtain ⟨tb,zb⟩:∃ t,b=Value.int y t:=vb;subst zb
   have e:eqD (.lst x) (.int y)=eqD _ _:=rfl
   unfold eqD
   exact RcNeAt.list_int y tb ila (Nat.lt_of_le_of_lt (Nat.le_add_right _ _) hu)
  | str y =>
   have zu:=bI.mp rb;subst zu;obtain ⟨tb,zb⟩:∃ t,b=Value.str ⟨y.toArray⟩ t:=vb;subst zb
   have e:eqD (.lst x) (.str y)=eqD _ _:=rfl
   unfold eqD
   exact RcNeAt.list_str _ tb ila (Nat.lt_of_le_of_lt (Nat.le_add_right _ _) hu)
  | tup y =>
   obtain ⟨lb,wsb,zu,hqb,hrb⟩:=bM rb;subst zu;have zb:b=Value.ref lb:=vb;subst zb;obtain ⟨itsb,rvb,plb,_⟩:=I.tuple hqb;have ilb:s.heap.IsTuple lb itsb.toArray:=plb
   have e:eqD (.lst x) (.tup y)=eqD _ _:=rfl
   unfold eqD
   exact RcNeAt.list_tuple ila ilb (Nat.lt_of_le_of_lt (Nat.le_add_right _ _) hu)
  | lst y =>
   obtain ⟨lb,wsb,zu,hqb,hrb⟩:=bZ.mp rb;subst zu;have zb:b=Value.ref lb:=vb;subst zb;obtain ⟨itsb,rvb,plb,_⟩:=I.list hqb;have ilb:=plb.isList
   have n1:itsa.length=x.length:=by rw [<-rva.length,hra.length]
   have n2:itsb.length=y.length:=by rw [<-rvb.length,hrb.length]
   have e:eqD (.lst x) (.lst y)=eU x y:=by conv=>lhs;unfold eqD
   have hd:dep (.lst x)=dX x+1:=by conv=>lhs;unfold dep
   rw [hd] at hu
   have hin:A.in1.units+dX x < cLine:=by show A.units+1+dX x < cLine;omega
   rw [e]
   by_cases hsz:itsa.length=itsb.length
   ·have e3:eU x y=(List.range itsa.toArray.size).all (pairE x y):=by rw [<-nG,List.size_toArray,n1];simp [show x.length=y.length by omega]
    rw [e3]
    refine  (RcNeAt.lists ila ilb (by simpa using hsz) (by omega) fun j j1 j2=>?_)
    have:=lY I x y A.in1 wsa wsb itsa itsb hra hrb rva rvb hin (by simpa using px) (by simpa using py) j (by simpa using j1) (by simpa using j2)
    simpa using this
   ·rw [xM (by omega)]
    exact  (RcNeAt.lists_lengths ila ilb (by simpa using hsz) (by omega))
 | .dct _ _ _,y,A,v,u,a,b,ra,rb,va,vb,hu,px,py=>by simp at px
 | .ins _ _ _,y,A,v,u,a,b,ra,rb,va,vb,hu,px,py=>by simp at px
 | .exn _ _ _,y,A,v,u,a,b,ra,rb,va,vb,hu,px,py=>by simp at px
 | .fn _,y,A,v,u,a,b,ra,rb,va,vb,hu,px,py=>by simp at px
end
end Pu
namespace Pu
open PySem PySem.Spec PyProof.Rows L2
section
variable{X:Cx}{B:List Addr}{a b e:Expr}{f g:Ex}{pos:Pos}
theorem lG.rep{K:PySem.W.Frag}{A:List Addr}{H:Hp}{d:D}{v:V}(h:lG K A H d v):Rep K H d v:=by
 rcases h with h | ⟨a,k,o,ds,vs,e1,e2,e3,ko,q⟩
 ·exact h.mono (bN _ _)
 ·subst e1 e2
  exact ko.rep e3 (q.mono (bN _ _))
def aTd(K:PySem.W.Frag)(neg:Bool):R2:=fun v u H Q=>∃ x y,Rep K H x v/\Rep K H y u/\(dep x<=64/\plain x=true/\plain y=true)/\Q (.bl (if neg then !eqD x y else eqD x y)) H
theorem gQ(hu:X.A.units+64 < cLine):OpR X (compareOp .Eq) (aTd X.K false):=by
 intro pins s σ H v u a b Q I ra rb h
 obtain ⟨x,y,rx,ry,hd,q⟩:=h
 exact aQe I x y X.A v u a b rx ry ra rb (by omega) hd.2.1 hd.2.2 X.prog X.w X.xe _ ⟨.bl _,H,I,rfl,q⟩
theorem xN(hu:X.A.units+64 < cLine):OpR X (compareOp .NotEq) (aTd X.K true):=by
 intro pins s σ H v u a b Q I ra rb h
 obtain ⟨x,y,rx,ry,hd,q⟩:=h
 exact aQf I x y X.A v u a b rx ry ra rb (by omega) hd.2.1 hd.2.2 X.prog X.w X.xe _ ⟨.bl _,H,I,rfl,q⟩
theorem gU{K:PySem.W.Frag}:sH K (aTd K false) dEq:=by
 intro A H x y d v u Q w rx ry e q
 obtain ⟨c,e⟩:=aJ e
 cases e
 exact ⟨x,y,rx.rep,ry.rep,c,q _ H (bA.refl _) (bO.mpr rfl)⟩
theorem xO{K:PySem.W.Frag}:sH K (aTd K true) dNe:=by
 intro A H x y d v u Q w rx ry e q
 obtain ⟨c,e⟩:=aJ e
 cases e
 exact ⟨x,y,rx.rep,ry.rep,c,q _ H (bA.refl _) (bO.mpr rfl)⟩
def tyD:D->String
 | .non => "NoneType"
 | .bl _ => "bool"
 | .int _ => "int"
 | .str _ => "str"
 | .tup _ => "tuple"
 | .lst _ => "list"
 | .dct _ _ _ => "dict"
 | .ins _ _ _ => ""
 | .exn _ _ _ => ""
 | .fn _ => ""
structure IsT(T:String)(p:D->Bool):Prop where
 boot:bootBuiltins T=some (.type T)
 ans:∀ (K:PySem.W.Frag) (d:D),aBp d=true->PySem.W.kitOne K (.type (tyD d)) (.type T)=some (p d)
theorem aQg{T:String}{p:D->Bool}(h:IsT T p):oO X (.builtin "isinstance") (fun xs H Q=>∃ v d,xs=[v,.ty T]/\aBp d=true/\Rep X.K H d v/\Q (.bl (p d)) H):=by
 intro pins s σ H xs us Q I r q
 obtain ⟨v,d,rfl,hbl,rd,q⟩:=q
 obtain ⟨u,u2,rfl,ru,ru2⟩:=r.two
 have e2:u2=Value.type T:=ru2
 subst e2
 have fin:∀ tk,EP X pins σ Q (.bool (p d)) { s with toks:=tk }:=fun tk=>⟨.bl (p d),H,I.tok tk,rfl,q⟩
 have e:=h.ans X.K d hbl
 cases d with
 | non=>have z:=cC.mp rd;subst z;have z:u=Value.none:=ru;subst z;exact PySem.W.kia_one PySem.W.kitx_none I.kIn True.intro e (fun z=>nomatch z) fin
 | bl x=>have z:=bO.mp rd;subst z;have z:u=Value.bool x:=ru;subst z;exact PySem.W.kia_one PySem.W.kitx_bool I.kIn True.intro e (fun z=>nomatch z) fin
 | int x=>have z:=aV.mp rd;subst z;obtain ⟨t,z⟩:∃ t,u=Value.int x t:=ru;subst z;exact PySem.W.kia_one PySem.W.kitx_int I.kIn True.intro e (fun z=>nomatch z) fin
 | str x=>have z:=bI.mp rd;subst z;obtain ⟨t,z⟩:∃ t,u=Value.str ⟨x.toArray⟩ t:=ru;subst z;exact PySem.W.kia_one PySem.W.kitx_str I.kIn True.intro e (fun z=>nomatch z) fin
 | tup x =>
  obtain ⟨l,vs,z,hq,_⟩:=bM rd;subst z
  have z:u=Value.ref l:=ru;subst z
  obtain ⟨its,_,⟨o,h1,h2,_⟩,_⟩:=I.tuple hq
  exact PySem.W.kia_one PySem.W.kitx_tuple I.kIn ⟨o,h1,h2⟩ e (fun z=>nomatch z) fin
 | lst x =>
  obtain ⟨l,vs,z,hq,_⟩:=bZ.mp rd;subst z
  have z:u=Value.ref l:=ru;subst z
  obtain ⟨its,_,⟨o,n,h1,h2,_⟩,_⟩:=I.list hq
  exact PySem.W.kia_one PySem.W.kitx_list I.kIn ⟨o,h1,h2⟩ e (fun z=>nomatch z) fin
 | dct t ks x =>
  obtain ⟨l,vs,z,hq,_⟩:=vH.mp rd;subst z
  have z:u=Value.ref l:=ru;subst z
  have hd:∃ o,s.heap.get? l=some o/\o.ExactDict:=by
   rcases hq with ⟨_,kvs,hq,_⟩ | ⟨_,kvs,hq,_⟩
   ·obtain ⟨_,_,vs',_,m⟩:kvs.length<=sizeLine/\(l==sysModules)=false/\∃ vs,KV kvs vs/\s.heap.DictOf (dW X.prog X.w) l vs:=I.hok l _ hq
    obtain ⟨o,es,n,h1,h2,_⟩:=m
    exact ⟨o,h1,h2⟩
   ·obtain ⟨_,_,xs,_,o,es,ep,h1,h2,_⟩:=I.hok l _ hq
    exact ⟨o,h1,h2⟩
  obtain ⟨o,h1,h2⟩:=hd
  exact PySem.W.kia_one PySem.W.kitx_dict I.kIn ⟨o,h1,h2.1⟩ e (fun z=>nomatch z) fin
 | ins _ _ _=>exact nomatch hbl
 | exn _ _ _=>exact nomatch hbl
 | fn _=>exact nomatch hbl
theorem rC{T:Str}{S:String}{p:D->Bool}{p0 p1:Pos}(hT:IsT S p)(hm:X.mg "isinstance" = none)(hmT:X.mg T=none)(ha:PE X a (tP X.K B f))(hST:bootBuiltins T=some (.type S):=by first | rfl | exact hT.boot)(hg:Gl X "isinstance" := by rfl)(hgT:Gl X T:=by rfl)(hnT:T ≠ "__name__" := by decide)(hdT:(T==("__debug__" : Str))=false:=by decide)
  (hs:starEach [a,.Name T p1] X.env=(false,eval a X.env) :: starEach [.Name T p1] X.env:=by rfl) (hs2:starEach [.Name T p1] X.env=(false,eval (.Name T p1) X.env) :: starEach [] X.env:=by rfl) :
  PE X (.Call (.Name "isinstance" p0) [a,.Name T p1] [] pos) (tI X.K B (eB p f)):=by
 have hTy:PE X (.Name T p1) (tC (.ty S)):=aRc hgT hmT hST rfl hnT hdT
 refine cI (tX (aQg hT) hg hm boot_isinstance (fG ha (fG hTy kY hs2) hs) (he:=hs)) ?_
 rintro σ H Q ⟨A,st,d,rs,hd,q⟩
 obtain ⟨x,hx,h2⟩:=R.ok_of hd
 obtain ⟨hbl,h2⟩:=aJ h2
 cases h2
 exact ⟨A,st,x,rs,hx,fun v H1 s1 r1=>⟨v,x,rfl,hbl,r1.rep,q _ H1 s1 (bO.mpr rfl)⟩⟩
theorem ty_str:IsT "str" aW5:=⟨rfl,fun K d hb=>by cases d<;>first | (cases hb;done) | kernel_rfl⟩
theorem ty_bool:IsT "bool" aW6:=⟨rfl,fun K d hb=>by cases d<;>first | (cases hb;done) | kernel_rfl⟩
theorem ty_int:IsT "int" isIn:=⟨rfl,fun K d hb=>by cases d<;>first | (cases hb;done) | kernel_rfl⟩
theorem ty_tuple:IsT "tuple" aW7:=⟨rfl,fun K d hb=>by cases d<;>first | (cases hb;done) | kernel_rfl⟩
theorem ty_list:IsT "list" aMw:=⟨rfl,fun K d hb=>by cases d<;>first | (cases hb;done) | kernel_rfl⟩
end
end Pu
namespace Pu
open PySem PySem.Spec PyProof.Rows L2 PySem.SeqAt PySem.StrLaws
theorem aJy(x y:List Nat)(i:Nat):Builtin.Str.subAt ⟨x.toArray⟩ ⟨y.toArray⟩ i=((x.drop i).take y.length==y):=by
 rw [subAt_eq]
 simp [Str.length]
theorem aHy(s sub:Str)(hi:Nat):∀ (l:List Nat) (st:Array Nat × Nat),1<=st.1.size->(forIn l st (occBody s sub hi 1)).run.fst=st.1
 | [],st,h=>rfl
 | a :: l,st,h=>by
  rw [List.forIn_cons]
  unfold occBody
  rw [if_neg (fun z=>by have:=z.1.1.1;omega)]
  exact aHy s sub hi l (st.1,st.2) h
theorem aHz(s sub:Str)(hi:Nat):∀ (l:List Nat) (free:Nat),(∀ i∈l,free<=i) ->
  (forIn l ((#[]:Array Nat),free) (occBody s sub hi 1)).run.fst.toList=(l.find? fun i=>decide (i+sub.length<=hi)&&Builtin.Str.subAt s sub i).toList
 | [],free,_=>rfl
 | a :: l,free,hf=>by
  rw [List.forIn_cons]
  have ha:free<=a:=hf a List.mem_cons_self
  by_cases hc:a+sub.length<=hi/\Builtin.Str.subAt s sub a=true
  ·have e:(decide (a+sub.length<=hi)&&Builtin.Str.subAt s sub a)=true:=by rw [hc.2,decide_eq_true hc.1];rfl
   rw [List.find?_cons_of_pos (p:=fun i=>decide (i+sub.length<=hi)&&Builtin.Str.subAt s sub i) e]
   have e2:occBody s sub hi 1 a ((#[]:Array Nat),free)=pure (ForInStep.yield ((#[]:Array Nat).push a,a+sub.length)):=by
    unfold occBody
    exact if_pos ⟨⟨⟨by simp,ha⟩,hc.1⟩,hc.2⟩
   rw [e2]
   show (forIn l (((#[]:Array Nat).push a),a+sub.length) (occBody s sub hi 1)).run.fst.toList=_
   rw [aHy s sub hi l _ (by simp)]
   rfl
  ·have e:¬ (decide (a+sub.length<=hi)&&Builtin.Str.subAt s sub a)=true:=fun z=>hc (by simpa using z)
   rw [List.find?_cons_of_neg (p:=fun i=>decide (i+sub.length<=hi)&&Builtin.Str.subAt s sub i) e]
   have e2:occBody s sub hi 1 a ((#[]:Array Nat),free)=pure (ForInStep.yield ((#[]:Array Nat),free)):=by
    unfold occBody
    exact if_neg fun h=>hc ⟨h.1.2,h.2⟩
   rw [e2]
   exact aHz s sub hi l free fun i hi'=>hf i (List.mem_cons_of_mem _ hi')
theorem vL(x y:List Nat)(lo:Nat):Builtin.Str.occurrences ⟨x.toArray⟩ ⟨y.toArray⟩ lo (⟨x.toArray⟩:Str).length 1=(gM x y lo).toList:=by
 rw [occ_eq,aHz _ _ _ _ _ (fun i hi=>by simp [List.mem_range'] at hi;omega)]
 unfold gM
 simp only [aJy,str_len]
theorem aTe(x y:List Nat):Txt.find ⟨x.toArray⟩ ⟨y.toArray⟩=pU (gM x y 0):=by
 unfold Txt.find
 rw [vL]
 cases gM x y 0<;>rfl
theorem aQh(x y:List Nat)(i:Int)(h:0<=i):Txt.find3 ⟨x.toArray⟩ ⟨y.toArray⟩ i=pU (gM x y i.toNat):=by
 have e:fromIndex (⟨x.toArray⟩:Str).length i=i.toNat:=by unfold fromIndex;rw [if_neg (by omega)];omega
 unfold Txt.find3
 rw [e,vL]
 cases gM x y i.toNat<;>rfl
theorem lJ{α:Type}(p:α->Bool):∀ x:List α,x.drop (x.takeWhile p).length=x.dropWhile p
 | []=>rfl
 | a :: x=>by
  cases h:p a with
  | true=>rw [List.takeWhile_cons_of_pos h,List.dropWhile_cons_of_pos h,List.length_cons,List.drop_succ_cons,lJ p x]
  | false=>rw [List.takeWhile_cons_of_neg (by simp [h]),List.dropWhile_cons_of_neg (by simp [h])];rfl
theorem wC{α:Type}(p:α->Bool)(x:List α):(x.takeWhile p).length+(x.dropWhile p).length=x.length:=by
 rw [<-List.length_append,List.takeWhile_append_dropWhile]
theorem aQi(x y:List Nat):Txt.stripChars ⟨x.toArray⟩ ⟨y.toArray⟩=⟨(pW x y).toArray⟩:=by
 have hp:(y.toArray.contains:Nat->Bool)=fun c=>y.contains c:=by funext c;simp
 have key:Builtin.Str.strSub ⟨x.toArray⟩ (stripLo y.toArray.contains true ⟨x.toArray⟩) (stripHi y.toArray.contains true ⟨x.toArray⟩ (stripLo y.toArray.contains true ⟨x.toArray⟩))=⟨(pW x y).toArray⟩:=by
  unfold stripLo stripHi
  rw [hp]
  simp only [if_true]
  rw [lJ]
  unfold pW
  generalize hq:(fun c=>y.contains c)=q
  have l1:=wC q x
  have l2:=wC q (x.dropWhile q).reverse
  rw [List.length_reverse] at l2
  unfold Builtin.Str.strSub
  simp only [str_len]
  congr 1
  apply Array.ext'
  rw [Array.toList_extract]
  simp only [List.toList_toArray,List.extract_eq_take_drop]
  rw [lJ]
  have e3:((x.dropWhile q).reverse.dropWhile q).reverse=(x.dropWhile q).take ((x.dropWhile q).length - ((x.dropWhile q).reverse.takeWhile q).length):=by
   have:(x.dropWhile q).reverse.dropWhile q=(x.dropWhile q).reverse.drop ((x.dropWhile q).reverse.takeWhile q).length:=(lJ q _).symm
   rw [this,List.drop_reverse,List.reverse_reverse]
  rw [e3]
  congr 1
  omega
 unfold Txt.stripChars Txt.stripBy
 by_cases h:stripSame y.toArray.contains true true ⟨x.toArray⟩=true
 ·rw [if_pos h]
  unfold stripSame at h
  rw [Bool.and_eq_true,beq_iff_eq,beq_iff_eq] at h
  rw [h.2,h.1] at key
  rw [<-key]
  unfold Builtin.Str.strSub
  simp [str_len]
 ·rw [if_neg h]
  exact key
section
variable{X:Cx}{B:List Addr}{a b e o:Expr}{f g:Ex}{pos:Pos}
theorem aTf{name:Str}{id:String}{m:Mop}{r:Exs}{es:List Expr}{apos cpos:Pos}{q:V->List V->Hp->VK->Prop}(slot:Slot "str" name id)(hty:typeOf (.builtin id)=pure (.type "method_descriptor"))(hm:MtR X id q)
  (hk:∀ x xs d,m x xs = .ok d->∃ s,x = .str s) (sem:∀ (A:List Addr) (H:Hp) (x d:D) (xs:List D) (v:V) (vs:List V) (Q:VK),Own A H->lG X.K A H x v->bL X.K (hide A H) xs vs->m x xs = .ok d->(∀ w H',bA H H'->Rep X.K (hide A H') d w->Q w H')->q v vs H Q)
  (ho:PE X o (tP X.K B f)) (ha:PA X (e :: es) (tA X.K B r))
  (hbase:attributeBase o name X.env (eval o X.env)=eval o X.env:=by rfl)
  (hfew:((backTo cpos (starEach (e :: es) X.env)).all (fun x => !x.1)&&(backToKw cpos (keywordEach [] X.env)).all (fun x=>x.1.isSome)
   && decide ((e :: es).length+([]:List Keyword).length+(if ([]:List Keyword).isEmpty then 0 else 1) < 30))=true:=by rfl)
  (hline:(apos.endLine==cpos.line)=true:=by rfl) (hs:starEach (e :: es) X.env=(false,eval e X.env) :: starEach es X.env:=by rfl) (hplain:(backTo cpos (starEach es X.env)).any (·.1)=false:=by rfl) :
  PE X (.Call (.Attribute o name apos) (e :: es) [] cpos) (tI X.K B (eMt m f r)):=by
 refine cI (aKn PySem.F.plainAttrs_str slot hty hm ho ha hbase hfew hline hs hplain) ?_
 rintro σ H Q ⟨A,st,d,rs,hd,k⟩
 obtain ⟨x,hx,h2⟩:=R.ok_of hd
 obtain ⟨xs,hxs,h3⟩:=R.ok_of h2
 obtain ⟨s,rfl⟩:=hk x xs d h3
 refine ⟨A,st,_,rs,hx,fun v H1 s1 r1=>⟨?_,A,st,xs,rs.mono s1,hxs,fun vs H2 s2 r2=>?_⟩⟩
 ·rw [r1.str];rfl
 ·exact sem (A++B) H2 _ d xs v vs Q (rs.own.mono (s1.trans s2)) (r1.mono s2) r2 h3 fun w H' s' r'=>k w H' (s1.trans (s2.trans s')) r'
theorem aEr{K:PySem.W.Frag}{H:Hp}{d:D}{vs:List V}(h:bL K H [d] vs):∃ v,vs=[v]/\Rep K H d v:=by
 obtain ⟨v,r,rfl,h1,h2⟩:=bY.mp h
 rw [cQ.mp h2]
 exact ⟨v,rfl,h1⟩
theorem bBb{K:PySem.W.Frag}{H:Hp}{d e:D}{vs:List V}(h:bL K H [d,e] vs):∃ v u,vs=[v,u]/\Rep K H d v/\Rep K H e u:=by
 obtain ⟨v,r,rfl,h1,h2⟩:=bY.mp h
 obtain ⟨u,rfl,h3⟩:=aEr h2
 exact ⟨v,u,rfl,h1,h3⟩
theorem aTg:MtR X "str.find" (fun x vs H Q=>∃ (s:List Nat),x = .str ⟨s.toArray⟩/\((∃ y:List Nat,vs=[.str ⟨y.toArray⟩]/\Q (.int (pU (gM s y 0))) H)\/∃ (y:List Nat) (i:Int),vs=[.str ⟨y.toArray⟩,.int i]/\0<=i/\Q (.int (pU (gM s y i.toNat))) H)):=by
 intro pins s σ H x vs v us Q I rx rv h
 obtain ⟨z,rfl,h⟩:=h
 obtain ⟨t,rfl⟩:=rx
 rcases h with ⟨y,rfl,q⟩ | ⟨y,i,rfl,hi,q⟩
 ·obtain ⟨u,rfl,t2,rfl⟩:=rv.one
  exact SC.find ⟨.int _,H,I.tok _,⟨_,rfl⟩,by rw [aTe];exact q⟩
 ·obtain ⟨u,u2,rfl,⟨t2,rfl⟩,⟨t3,rfl⟩⟩:=rv.two
  exact SC.find3 ⟨.int _,H,I.tok _,⟨_,rfl⟩,by rw [aQh _ _ _ hi];exact q⟩
theorem aQj:MtR X "str.index" (fun x vs H Q=>∃ (s y:List Nat) (i:Nat),x = .str ⟨s.toArray⟩/\vs=[.str ⟨y.toArray⟩]/\gM s y 0=some i/\Q (.int i) H):=by
 intro pins s σ H x vs v us Q I rx rv h
 obtain ⟨z,y,i,rfl,rfl,hi,q⟩:=h
 obtain ⟨t,rfl⟩:=rx
 obtain ⟨u,rfl,t2,rfl⟩:=rv.one
 exact SC.index (i:=i) (rest:=[]) (by rw [vL,hi];rfl) ⟨.int _,H,I.tok _,⟨_,rfl⟩,q⟩
theorem aQk:MtR X "str.strip" (fun x vs H Q=>∃ (s y:List Nat),x = .str ⟨s.toArray⟩/\vs=[.str ⟨y.toArray⟩]/\s.length<=sizeLine/\Q (.str ⟨(pW s y).toArray⟩) H):=by
 intro pins s σ H x vs v us Q I rx rv h
 obtain ⟨z,y,rfl,rfl,hz,q⟩:=h
 obtain ⟨t,rfl⟩:=rx
 obtain ⟨u,rfl,t2,rfl⟩:=rv.one
 exact SC.stripChars (fun t' k=>⟨.str ⟨(pW z y).toArray⟩,H,I.tok _,⟨_,by rw [aQi]⟩,q⟩) (by rw [str_len];exact hz)
end
end Pu
namespace Pu
open PySem PySem.Spec PyProof.Rows L2 PySem.SeqAt
section
variable{X:Cx}{B:List Addr}{a b e o:Expr}{f g:Ex}{pos:Pos}{r:Exs}{es:List Expr}{apos cpos:Pos}
theorem aXv(ho:PE X o (tP X.K B f))(ha:PA X (e :: es) (tA X.K B r))(hbase:attributeBase o "find" X.env (eval o X.env)=eval o X.env:=by rfl)
  (hfew:((backTo cpos (starEach (e :: es) X.env)).all (fun x => !x.1)&&(backToKw cpos (keywordEach [] X.env)).all (fun x=>x.1.isSome)
   && decide ((e :: es).length+([]:List Keyword).length+(if ([]:List Keyword).isEmpty then 0 else 1) < 30))=true:=by rfl)
  (hline:(apos.endLine==cpos.line)=true:=by rfl) (hs:starEach (e :: es) X.env=(false,eval e X.env) :: starEach es X.env:=by rfl) (hplain:(backTo cpos (starEach es X.env)).any (·.1)=false:=by rfl) :
  PE X (.Call (.Attribute o "find" apos) (e :: es) [] cpos) (tI X.K B (eMt aDx f r)):=by
 refine aTf (m:=aDx) PySem.F.slot_str_find PySem.F.type_str_find aTg (fun x xs d h=>?_) (fun A H x d xs v vs Q w rx rxs h k=>?_) ho ha hbase hfew hline hs hplain
 ·cases x<;>first | exact ⟨_,rfl⟩ | exact nomatch h
 ·unfold aDx at h
  split at h
  ·cases h
   obtain ⟨u,rfl,ru⟩:=aEr rxs
   exact ⟨_,rx.str,.inl ⟨_,by rw [bI.mp ru],k _ H (bA.refl _) (aV.mpr rfl)⟩⟩
  ·obtain ⟨c,h⟩:=aJ h
   cases h
   obtain ⟨u,u2,rfl,ru,ru2⟩:=bBb rxs
   exact ⟨_,rx.str,.inr ⟨_,_,by rw [bI.mp ru,aV.mp ru2],c,k _ H (bA.refl _) (aV.mpr rfl)⟩⟩
  ·cases h
theorem aG6(ho:PE X o (tP X.K B f))(ha:PA X (e :: es) (tA X.K B r))(hbase:attributeBase o "index" X.env (eval o X.env)=eval o X.env:=by rfl)
  (hfew:((backTo cpos (starEach (e :: es) X.env)).all (fun x => !x.1)&&(backToKw cpos (keywordEach [] X.env)).all (fun x=>x.1.isSome)
   && decide ((e :: es).length+([]:List Keyword).length+(if ([]:List Keyword).isEmpty then 0 else 1) < 30))=true:=by rfl)
  (hline:(apos.endLine==cpos.line)=true:=by rfl) (hs:starEach (e :: es) X.env=(false,eval e X.env) :: starEach es X.env:=by rfl) (hplain:(backTo cpos (starEach es X.env)).any (·.1)=false:=by rfl) :
  PE X (.Call (.Attribute o "index" apos) (e :: es) [] cpos) (tI X.K B (eMt uB f r)):=by
 refine aTf (m:=uB) PySem.F.slot_str_index PySem.F.type_str_index aQj (fun x xs d h=>?_) (fun A H x d xs v vs Q w rx rxs h k=>?_) ho ha hbase hfew hline hs hplain
 ·cases x<;>first | exact ⟨_,rfl⟩ | exact nomatch h
 ·unfold uB at h
  split at h
  ·obtain ⟨i,hi,h⟩:=R.ok_of h
   cases h
   obtain ⟨u,rfl,ru⟩:=aEr rxs
   exact ⟨_,_,i,rx.str,by rw [bI.mp ru],sJ hi,k _ H (bA.refl _) (aV.mpr rfl)⟩
  ·cases h
theorem aTh(ho:PE X o (tP X.K B f))(ha:PA X (e :: es) (tA X.K B r))(hbase:attributeBase o "strip" X.env (eval o X.env)=eval o X.env:=by rfl)
  (hfew:((backTo cpos (starEach (e :: es) X.env)).all (fun x => !x.1)&&(backToKw cpos (keywordEach [] X.env)).all (fun x=>x.1.isSome)
   && decide ((e :: es).length+([]:List Keyword).length+(if ([]:List Keyword).isEmpty then 0 else 1) < 30))=true:=by rfl)
  (hline:(apos.endLine==cpos.line)=true:=by rfl) (hs:starEach (e :: es) X.env=(false,eval e X.env) :: starEach es X.env:=by rfl) (hplain:(backTo cpos (starEach es X.env)).any (·.1)=false:=by rfl) :
  PE X (.Call (.Attribute o "strip" apos) (e :: es) [] cpos) (tI X.K B (eMt aBq f r)):=by
 refine aTf (m:=aBq) PySem.F.slot_str_strip PySem.F.type_str_strip aQk (fun x xs d h=>?_) (fun A H x d xs v vs Q w rx rxs h k=>?_) ho ha hbase hfew hline hs hplain
 ·cases x<;>first | exact ⟨_,rfl⟩ | exact nomatch h
 ·unfold aBq at h
  split at h
  ·obtain ⟨c,h⟩:=aJ h
   cases h
   obtain ⟨u,rfl,ru⟩:=aEr rxs
   exact ⟨_,_,rx.str,by rw [bI.mp ru],lim c,k _ H (bA.refl _) (bI.mpr rfl)⟩
  ·cases h
theorem aI0(ha:PE X a (tP X.K B f)):PE X (.UnaryOp .USub a pos) (tI X.K B (e1 aB1 f)):=by
 refine cI (aZ9 aVt ha) ?_
 rintro σ H Q ⟨A,st,d,rs,hd,q⟩
 obtain ⟨x,hx,h2⟩:=R.ok_of hd
 refine ⟨A,st,x,rs,hx,fun v H1 s1 r1=>?_⟩
 cases x<;>first | (cases h2;done) | skip
 cases h2
 exact ⟨_,r1.int,q _ H1 s1 (aV.mpr rfl)⟩
open Classical in
noncomputable def vN(K:PySem.W.Frag)(H:Hp)(x:D)(u:Value):Bool:=if ∃ d z,Rep K H d z/\RelV z u/\plain d=true/\eqD d x=true then true else false
theorem aLz{pins:List (Addr × Obj)}{σ:LSt}{H:Hp}{s:Shared}(I:Inv X pins σ H s){x d:D}{z:V}{u:Value}(r:Rep X.K H d z)(rz:RelV z u)(pd:plain d=true):vN X.K H x u=eqD d x:=by
 unfold vN
 split
 ·rename_i h
  obtain ⟨d',z',r',rz',pd',e⟩:=h
  have:=RelV.inj rz rz'
  subst this
  rw [Rep.inj I pd pd' r r',e]
 ·rename_i h
  cases hb:eqD d x with
  | false=>rfl
  | true=>exact (h ⟨d,z,r,rz,pd,hb⟩).elim
theorem aCz{pins:List (Addr × Obj)}{σ:LSt}{H:Hp}{s:Shared}(I:Inv X pins σ H s){x:D}:∀ {ds:List D} {zs:List V} {us:List Value},bL X.K H ds zs->Vals zs us->dC ds=true->us.any (vN X.K H x)=inD x ds
 | [],zs,us,r,v,_=>by
  have e:=cQ.mp r;subst e;cases v;rfl
 | d :: ds,zs,us,r,v,p=>by
  obtain ⟨z,r',e,h1,h2⟩:=bY.mp r;subst e
  simp only [mV,Bool.and_eq_true] at p
  cases v with
  | cons v vs =>
   rw [List.any_cons,aLz I h1 v p.1,aCz I h2 vs p.2]
   unfold inD
   rw [List.any_cons]
theorem aD0{pins:List (Addr × Obj)}{σ:LSt}{H:Hp}{s:Shared}(I:Inv X pins σ H s){A:Around}{x:D}{zx:V}{ux:Value}(rx:Rep X.K H x zx)(vx:RelV zx ux)(px:plain x=true):∀ {ds:List D} {zs:List V} {us:List Value},bL X.K H ds zs->Vals zs us->dC ds=true->A.units+dX ds < cLine->∀ u∈us,EqAt A s u ux (vN X.K H x u)
 | [],zs,us,r,v,_,_=>by
  have e:=cQ.mp r;subst e;cases v;exact fun u hu=>nomatch hu
 | d :: ds,zs,us,r,v,p,hd=>by
  obtain ⟨z,r',e,h1,h2⟩:=bY.mp r;subst e
  simp only [mV,Bool.and_eq_true] at p
  rw [aMy] at hd
  cases v with
  | cons v vs =>
   intro u hu
   rcases List.mem_cons.mp hu with rfl | hu
   ·rw [aLz I h1 v p.1]
    exact aHx I d x A z zx _ ux h1 rx v vx (by omega) p.1 px
   ·exact aD0 I rx vx px h2 vs p.2 (by omega) u hu
def aTi(K:PySem.W.Frag)(neg:Bool):R2:=fun v u H Q=>(∃ a o,u = .ref a/\vM H a v o/\Q (.bl (if neg then !o.isSome else o.isSome)) H)\/(∃ x ds zs p,u = .ref p/\(SqL K H p zs\/SqT K H p zs)/\Rep K H x v/\bL K H ds zs/\dX ds<=60/\plain x=true/\dC ds=true/\Q (.bl (if neg then !inD x ds else inD x ds)) H) \/
 ∃ i j:List Nat,v = .str ⟨i.toArray⟩/\u = .str ⟨j.toArray⟩/\Q (.bl (if neg then !(gM j i 0).isSome else (gM j i 0).isSome)) H
theorem some_of(x y:List Nat):(!(Builtin.Str.occurrences ⟨x.toArray⟩ ⟨y.toArray⟩ 0 (⟨x.toArray⟩:Str).length 1).isEmpty)=(gM x y 0).isSome:=by
 rw [vL]
 cases gM x y 0<;>rfl
theorem aJz(hu:X.A.units+64 < cLine):OpR X (compareOp .In) (aTi X.K false):=by
 intro pins s σ H v u a b Q I ra rb h
 rcases h with ⟨p,o,rfl,g,q⟩ | ⟨x,ds,zs,p,rfl,hq,rx,rds,hd,px,pd,q⟩ | ⟨i,j,rfl,rfl,q⟩
 ·cases rb
  exact bD9 (by omega) I g ra fun s' I'=>⟨.bl _,H,I',rfl,q⟩
 ·cases rb
  have hin:X.A.in1.units+dX ds < cLine:=by show X.A.units+1+dX ds < cLine;omega
  rcases hq with hq | hq
  ·obtain ⟨its,r,pl,hz⟩:=I.list hq
   refine SeqAt.in_listAt (vN X.K H x) pl.isList (fun w hw=>aD0 I rx ra px rds r pd hin w (by simpa using hw)) ⟨.bl _,H,I,rfl,?_⟩
   rw [show its.toArray.any (vN X.K H x)=its.any (vN X.K H x) by simp,aCz I rds r pd]
   exact q
  ·obtain ⟨its,r,pl,hz⟩:=I.tuple hq
   refine SeqAt.in_tupleAt (vN X.K H x) pl (fun w hw=>aD0 I rx ra px rds r pd hin w (by simpa using hw)) ⟨.bl _,H,I,rfl,?_⟩
   rw [show its.toArray.any (vN X.K H x)=its.any (vN X.K H x) by simp,aCz I rds r pd]
   exact q
 ·refine aMk pins s σ H _ _ a b Q I ra rb ⟨_,_,rfl,rfl,?_⟩
  rw [some_of]
  exact q
theorem rD(hu:X.A.units+64 < cLine):OpR X (compareOp .NotIn) (aTi X.K true):=by
 intro pins s σ H v u a b Q I ra rb h
 rcases h with ⟨p,o,rfl,g,q⟩ | ⟨x,ds,zs,p,rfl,hq,rx,rds,hd,px,pd,q⟩ | ⟨i,j,rfl,rfl,q⟩
 ·cases rb
  exact aRv (by omega) I g ra fun s' I'=>⟨.bl _,H,I',rfl,q⟩
 ·cases rb
  have hin:X.A.in1.units+dX ds < cLine:=by show X.A.units+1+dX ds < cLine;omega
  rcases hq with hq | hq
  ·obtain ⟨its,r,pl,hz⟩:=I.list hq
   refine SeqAt.notIn_listAt (vN X.K H x) pl.isList (fun w hw=>aD0 I rx ra px rds r pd hin w (by simpa using hw)) ⟨.bl _,H,I,rfl,?_⟩
   rw [show its.toArray.any (vN X.K H x)=its.any (vN X.K H x) by simp,aCz I rds r pd]
   exact q
  ·obtain ⟨its,r,pl,hz⟩:=I.tuple hq
   refine SeqAt.notIn_tupleAt (vN X.K H x) pl (fun w hw=>aD0 I rx ra px rds r pd hin w (by simpa using hw)) ⟨.bl _,H,I,rfl,?_⟩
   rw [show its.toArray.any (vN X.K H x)=its.any (vN X.K H x) by simp,aCz I rds r pd]
   exact q
 ·refine aF5 pins s σ H _ _ a b Q I ra rb ⟨_,_,rfl,rfl,?_⟩
  rw [some_of]
  exact q
theorem aK0{K:PySem.W.Frag}:sH K (aTi K false) dIn:=by
 intro A H x y d v u Q w rx ry e q
 unfold dIn at e
 split at e
 ·obtain ⟨c,e⟩:=aJ e
  cases e
  rename_i t ks ds
  have rxr:Rep K H x v:=rx.rep
  obtain ⟨a,o,e1,g,g1,_⟩:=aBd ry rxr c
  exact .inl ⟨a,o,e1,g,by rw [g1];exact q _ H (bA.refl _) (bO.mpr rfl)⟩
 ·obtain ⟨c,e⟩:=aJ e
  cases e
  obtain ⟨p,zs,h1,h2,h3⟩:=ry.lst
  exact .inr (.inl ⟨_,_,zs,p,h1,.inl h2,rx.rep,h3.mono (bN _ _),c.1,c.2.1,c.2.2,q _ H (bA.refl _) (bO.mpr rfl)⟩)
 ·obtain ⟨c,e⟩:=aJ e
  cases e
  obtain ⟨p,zs,h1,h2,h3⟩:=ry.tup
  exact .inr (.inl ⟨_,_,zs,p,h1,.inr h2,rx.rep,h3.mono (bN _ _),c.1,c.2.1,c.2.2,q _ H (bA.refl _) (bO.mpr rfl)⟩)
 ·cases e
  exact .inr (.inr ⟨_,_,rx.str,ry.str,q _ H (bA.refl _) (bO.mpr rfl)⟩)
 ·cases e
theorem rE{K:PySem.W.Frag}:sH K (aTi K true) jF:=by
 intro A H x y d v u Q w rx ry e q
 unfold jF at e
 split at e
 ·obtain ⟨c,e⟩:=aJ e
  cases e
  rename_i t ks ds
  have rxr:Rep K H x v:=rx.rep
  obtain ⟨a,o,e1,g,g1,_⟩:=aBd ry rxr c
  exact .inl ⟨a,o,e1,g,by rw [g1];exact q _ H (bA.refl _) (bO.mpr rfl)⟩
 ·obtain ⟨c,e⟩:=aJ e
  cases e
  obtain ⟨p,zs,h1,h2,h3⟩:=ry.lst
  exact .inr (.inl ⟨_,_,zs,p,h1,.inl h2,rx.rep,h3.mono (bN _ _),c.1,c.2.1,c.2.2,q _ H (bA.refl _) (bO.mpr rfl)⟩)
 ·obtain ⟨c,e⟩:=aJ e
  cases e
  obtain ⟨p,zs,h1,h2,h3⟩:=ry.tup
  exact .inr (.inl ⟨_,_,zs,p,h1,.inr h2,rx.rep,h3.mono (bN _ _),c.1,c.2.1,c.2.2,q _ H (bA.refl _) (bO.mpr rfl)⟩)
 ·cases e
  exact .inr (.inr ⟨_,_,rx.str,ry.str,q _ H (bA.refl _) (bO.mpr rfl)⟩)
 ·cases e
end
end Pu
namespace Pu
open PySem PySem.Spec PyProof.Rows L2
section
variable{X:Cx}{B:List Addr}{a b e:Expr}{f g:Ex}{pos:Pos}
theorem aEs(i:Nat){x:Str}{p1 apos cpos:Pos}(he:PE X e (tI X.K B f))(hN:X.N[i]?=some x:=by rfl)(hv:Vis X.env.scope x:=by first | exact Or.inl rfl | exact Or.inr (Or.inl rfl) | exact Or.inr (Or.inr rfl))(hd:(x==("__debug__" : Str))=false:=by decide)
  (hcd:(x==("__classdict__" : Str))=false:=by decide) (hbase:attributeBase (.Name x p1) "append" X.env (eval (.Name x p1) X.env)=eval (.Name x p1) X.env:=by rfl)
  (hfew:((backTo cpos (starEach [e] X.env)).all (fun x => !x.1)&&(backToKw cpos (keywordEach [] X.env)).all (fun x=>x.1.isSome)
   && decide (([e]:List Expr).length+([]:List Keyword).length+(if ([]:List Keyword).isEmpty then 0 else 1) < 30))=true:=by rfl)
  (hline:(apos.endLine==cpos.line)=true:=by rfl) (hs:starEach [e] X.env=(false,eval e X.env) :: starEach [] X.env:=by rfl)
  (hsw:swapsWith (.Call (.Attribute (.Name x p1) "append" apos) [e] [] cpos) none pos.line X.env=pure false:=by rfl) :
  PS X (.Expr (.Call (.Attribute (.Name x p1) "append" apos) [e] [] cpos) pos) (tS X.K B (zR i f)):=by
 refine fC (aF3 (aKn PySem.F.plainAttrs_list PySem.F.slot_list_append PySem.F.type_list_append aMp (tW hN hv hd hcd) (fG he kY hs) hbase hfew hline hs rfl) hsw) ?_
 rintro Dn σ H ⟨A,st,r,rs,hr,p⟩
 obtain ⟨d,hd,h3⟩:=R.ok_of hr
 split at h3
 ·rename_i xs e1
  obtain ⟨c,h4⟩:=aJ h3
  cases h4
  obtain ⟨l,o,vs,e2,m,h1,ko,q,u⟩:=rs.lst i _ xs e1
  have eo:o = .lst vs:=ko
  subst eo
  refine ⟨.ref l,e2,.inl ⟨rfl,vs,SqL.of h1⟩,A,st,d,rs,hd,fun v H' s rv=>?_⟩
  have ql:=q.length
  refine ⟨l,vs,v,rfl,rfl,s _ _ h1,by rw [ql];rw [nJ] at c;exact Nat.lt_of_lt_of_le c (by decide),?_⟩
  obtain ⟨w1,w2⟩:=(rs.mono s).write e1 e2 (k1 := .l) (ds:=xs++[d]) (vs':=vs++[v]) rfl ((q.mono (bA.hide s)).append (.cons rv .nil))
  exact p A _ _ ((Le.of s).trans w2) w1
 ·cases h3
theorem bBc(i:Nat){x:Str}{j:Expr}{p1 p2:Pos}(hj:PE X j (tP X.K B g))(he:PE X e (tI X.K B f))(hN:X.N[i]?=some x:=by rfl)(hv:Vis X.env.scope x:=by first | exact Or.inl rfl | exact Or.inr (Or.inl rfl) | exact Or.inr (Or.inr rfl))(hd:(x==("__debug__" : Str))=false:=by decide)
  (hcd:(x==("__classdict__" : Str))=false:=by decide)
  (ha:∀ v,assign (.Subscript (.Name x p1) j p2) X.env v=(do
   let ov <- holding [v] (eval (.Name x p1) X.env)
   let iv <- holding [v,ov] (eval j X.env)
   standAt p2
   holding [v,ov,iv] (setItem ov iv v)
   release [v,ov,iv] []):=by intro _;rfl)
  (hs:swapsWithSole [.Subscript (.Name x p1) j p2] e pos.line X.env=pure false:=by rfl) (hw:swappedStores [.Subscript (.Name x p1) j p2] e X.env=pure none:=by rfl)
  (h1:(assignEach [.Subscript (.Name x p1) j p2] X.env).map (·.2)=[assign (.Subscript (.Name x p1) j p2) X.env]:=by rfl) :
  PS X (.Assign [.Subscript (.Name x p1) j p2] e pos) (tS X.K B (aOs i g f)):=by
 refine fC (aIr he (aO5 (tW hN hv hd hcd) hj set_list ha) hs hw h1) ?_
 rintro Dn σ H ⟨A,st,r,rs,hr,p⟩
 obtain ⟨d,hd,h3⟩:=R.ok_of hr
 obtain ⟨y,hy,h4⟩:=R.ok_of h3
 obtain ⟨k,rfl,h5⟩:=aBr h4
 split at h5
 ·rename_i xs e1
  obtain ⟨n,hn,h6⟩:=R.ok_of h5
  cases h6
  obtain ⟨l,o,vs,e2,m,h1,ko,q,u⟩:=rs.lst i _ xs e1
  have eo:o = .lst vs:=ko
  subst eo
  refine ⟨A,st,d,rs,hd,fun v H' s rv=>⟨.ref l,e2,A,st,_,rs.mono s,hy,fun w H2 s2 rw2=>?_⟩⟩
  have ql:=q.length
  have hk:L2.ixN vs.length k=some n:=by rw [ql,aHp];exact sJ hn
  refine ⟨l,vs,k,n,rfl,rw2.int,(s.trans s2) _ _ h1,hk,?_⟩
  obtain ⟨w1,w2⟩:=(rs.mono (s.trans s2)).write e1 e2 (k1 := .l) (ds:=xs.set n d) (vs':=vs.set n v) rfl (bL.set (rv.mono (bA.hide s2)) n (q.mono (bA.hide (s.trans s2))))
  exact p A _ _ ((Le.of (s.trans s2)).trans w2) w1
 ·cases h5
theorem aG7(i:Nat){x:Str}{pos' dp:Pos}(hN:X.N.Nodup)(hi:X.N[i]?=some x:=by rfl)(hx:Loc X.env.scope x:=by first | exact Or.inl rfl | exact Or.inr rfl)(hs:swapsWith (.Dict [] [] dp) (some (.Name x pos')) pos.line X.env=pure false:=by rfl)
  (hf:X.fn x=true\/X.env.scope.names.lookup x=some .local:=by first | exact .inl rfl | exact .inr rfl | assumption):PS X (.Assign [.Name x pos'] (.Dict [] [] dp) pos) (tS X.K B (aGu i false)):=fC (aBk hN hi hx aOn hs hf) (by
 rintro Dn σ H ⟨A,st,r,rs,hr,p⟩
 cases hr
 exact fun a ha=>p (a :: A) _ _ (aG0 ha) (rs.setO (kk := .d false []) i ha (.inl ⟨rfl,[],rfl,rfl,rfl⟩) .nil))
def bBd:V->V->V->Hp->(Hp->Prop)->Prop:=fun o i v H Q=>∃ p H',o = .ref p/\aFc H p i v H'/\Q H'
theorem set_dict(hu:X.A.units+64 < cLine):aVh X bBd:=by
 intro pins s σ H o i v ov iv u Q I ro ri rv h
 obtain ⟨p,H',rfl,g,q⟩:=h
 cases ro
 exact aMu (by omega) I g ri rv fun s' I'=>⟨H',I',q⟩
theorem aD1(hu:X.A.units+64 < cLine)(i:Nat){x:Str}{j:Expr}{p1 p2:Pos}(hj:PE X j (tI X.K B g))(he:PE X e (tI X.K B f))(hN:X.N[i]?=some x:=by rfl)(hv:Vis X.env.scope x:=by first | exact Or.inl rfl | exact Or.inr (Or.inl rfl) | exact Or.inr (Or.inr rfl))(hd:(x==("__debug__" : Str))=false:=by decide)
  (hcd:(x==("__classdict__" : Str))=false:=by decide)
  (ha:∀ v,assign (.Subscript (.Name x p1) j p2) X.env v=(do
   let ov <- holding [v] (eval (.Name x p1) X.env)
   let iv <- holding [v,ov] (eval j X.env)
   standAt p2
   holding [v,ov,iv] (setItem ov iv v)
   release [v,ov,iv] []):=by intro _;rfl)
  (hs:swapsWithSole [.Subscript (.Name x p1) j p2] e pos.line X.env=pure false:=by rfl) (hw:swappedStores [.Subscript (.Name x p1) j p2] e X.env=pure none:=by rfl)
  (h1:(assignEach [.Subscript (.Name x p1) j p2] X.env).map (·.2)=[assign (.Subscript (.Name x p1) j p2) X.env]:=by rfl) :
  PS X (.Assign [.Subscript (.Name x p1) j p2] e pos) (tS X.K B (sDPut i g f)):=by
 refine fC (aIr he (aO5 (tW hN hv hd hcd) hj (set_dict hu) ha) hs hw h1) ?_
 rintro Dn σ H ⟨A,st,r,rs,hr,p⟩
 obtain ⟨d,hd,h3⟩:=R.ok_of hr
 obtain ⟨k,hk,h5⟩:=R.ok_of h3
 split at h5
 ·rename_i t ks ds e1
  obtain ⟨c,h6⟩:=aJ h5
  cases h6
  obtain ⟨l,o,vs,e2,m,h1,ko,q,u⟩:=rs.lst i _ _ e1
  refine ⟨A,st,d,rs,hd,fun v H' s rv=>⟨.ref l,e2,A,st,k,rs.mono s,hk,fun w H2 s2 rk=>?_⟩⟩
  have hl:H2 l=some o:=(s.trans s2) _ _ h1
  have q2:=q.mono (bA.hide (s.trans s2))
  have rv2:=rv.mono (bA.hide s2)
  have rk2:Rep X.K H2 k w:=rk.mono (bN _ _)
  have hlen:ds.length < sizeLine:=by have:=c.2;rw [nJ] at this;exact Nat.lt_of_lt_of_le this (by decide)
  have ql:=q.length
  rcases ko with ⟨rfl,kvs,rfl,rfl,rfl⟩ | ⟨rfl,kvs,rfl,rfl,rfl⟩
  ·obtain ⟨k',e3,e4⟩:=xG rk2 c.1
   subst e3 e4
   obtain ⟨z1,z2⟩:=aLs aFy k' v d rv2 kvs ds q2
   refine ⟨l,_,rfl,aFc.k hl (by rw [List.length_map] at ql;omega),?_⟩
   obtain ⟨w1,w2⟩:=(rs.mono (s.trans s2)).write e1 e2 (k1 := .d false (lA (kvs.map fun p=>kW p.1) (kW k'))) (.inl ⟨rfl,putK kvs k' v,rfl,z1,rfl⟩) z2
   exact p A _ _ ((Le.of (s.trans s2)).trans w2) w1
  ·obtain ⟨k',b,e3,e4,e5⟩:=aAr rk2 c.1
   subst e3 e4
   obtain ⟨z1,z2⟩:=aLs (E:=fun l=>D.tup (l.map kW)) aHr k' v d rv2 kvs ds q2
   refine ⟨l,_,rfl,aFc.t hl e5 (by rw [List.length_map] at ql;omega),?_⟩
   obtain ⟨w1,w2⟩:=(rs.mono (s.trans s2)).write e1 e2 (k1 := .d true (lA (kvs.map fun p=>D.tup (p.1.map kW)) (.tup (k'.map kW)))) (.inr ⟨rfl,putK kvs k' v,rfl,z1,rfl⟩) z2
   exact p A _ _ ((Le.of (s.trans s2)).trans w2) w1
 ·cases h5
theorem bDr{lo hi:Option Expr}{l u:ExO}{p2:Pos}(ha:PE X a (tP X.K B f))(hl:PO X lo (tO X.K B l))(hu:PO X hi (tO X.K B u)):PE X (.Subscript a (.Slice lo hi none p2) pos) (tF X.K B (eSl f l u)):=by
 refine cI (aGp aKm ha hl hu) ?_
 rintro σ H Q ⟨A,st,d,rs,hd,q⟩
 obtain ⟨x,hx,h2⟩:=R.ok_of hd
 obtain ⟨l',hl',h3⟩:=R.ok_of h2
 obtain ⟨u',hu',h4⟩:=R.ok_of h3
 refine ⟨A,st,x,rs,hx,fun v H1 s1 r1=>⟨A,st,l',rs.mono s1,hl',fun H2 s2=>⟨A,st,u',rs.mono (s1.trans s2),hu',fun H3 s3=>?_⟩⟩⟩
 have r3:=r1.mono (s2.trans s3)
 cases x<;>first | (cases h4;done) | skip
 ·obtain ⟨c,h5⟩:=aJ h4
  cases h5
 ·cases h4
  obtain ⟨p,vs,e,h6,r6⟩:=r3.lst
  exact ⟨p,vs,e,h6,fun n hn=>q n _ H3 (s1.trans (s2.trans s3)) hn (aHt _ _ r6)⟩
theorem bBe(i:Nat){x:Str}{p1 apos cpos:Pos}(he:PE X e (tF X.K B f))(hN:X.N[i]?=some x:=by rfl)(hv:Vis X.env.scope x:=by first | exact Or.inl rfl | exact Or.inr (Or.inl rfl) | exact Or.inr (Or.inr rfl))(hd:(x==("__debug__" : Str))=false:=by decide)
  (hcd:(x==("__classdict__" : Str))=false:=by decide) (hbase:attributeBase (.Name x p1) "extend" X.env (eval (.Name x p1) X.env)=eval (.Name x p1) X.env:=by rfl)
  (hfew:((backTo cpos (starEach [e] X.env)).all (fun x => !x.1)&&(backToKw cpos (keywordEach [] X.env)).all (fun x=>x.1.isSome)
   && decide (([e]:List Expr).length+([]:List Keyword).length+(if ([]:List Keyword).isEmpty then 0 else 1) < 30))=true:=by rfl)
  (hline:(apos.endLine==cpos.line)=true:=by rfl) (hs:starEach [e] X.env=(false,eval e X.env) :: starEach [] X.env:=by rfl)
  (hsw:swapsWith (.Call (.Attribute (.Name x p1) "extend" apos) [e] [] cpos) none pos.line X.env=pure false:=by rfl) :
  PS X (.Expr (.Call (.Attribute (.Name x p1) "extend" apos) [e] [] cpos) pos) (tS X.K B (aRz i f)):=by
 refine fC (aF3 (aKn PySem.F.plainAttrs_list PySem.F.slot_list_extend PySem.F.type_list_extend aMq (tW hN hv hd hcd) (fG he kY hs) hbase hfew hline hs rfl) hsw) ?_
 rintro Dn σ H ⟨A,st,r,rs,hr,p⟩
 obtain ⟨d,hd,h3⟩:=R.ok_of hr
 cases d<;>first | (cases h3;done) | skip
 rename_i ys
 have h3':(match st[i]? with | some (some (.o .l xs))=>aH (xs.length+ys.length<=big) (R.ok (Fl.nx (st.set i (some (.o .l (xs++ys)))))) | _ => .bad) = .ok r:=h3
 split at h3'
 ·rename_i xs e1
  obtain ⟨c,h4⟩:=aJ h3'
  cases h4
  obtain ⟨l,o,vs,e2,m,h1,ko,q,u⟩:=rs.lst i _ xs e1
  have eo:o = .lst vs:=ko
  subst eo
  refine ⟨.ref l,e2,.inl ⟨rfl,vs,SqL.of h1⟩,A,st,ys,rs,hd,fun n zs H' s hn rz=>?_⟩
  have ql:=q.length
  have zl:=rz.length
  have hl:H' l=some (.lst vs):=s _ _ h1
  have ne:l≠n:=bK hl hn
  refine ⟨l,n,vs,zs,rfl,rfl,by rw [bW ne];exact hl,cH,by rw [ql,zl];exact lim c,?_⟩
  have s2:=s.trans (cX (o:=HO.lst zs) hn)
  obtain ⟨w1,w2⟩:=(rs.mono s2).write e1 e2 (k1 := .l) (ds:=xs++ys) (vs':=vs++zs) rfl ((q.mono (bA.hide s2)).append (rz.mono (bA.hide (cX hn))))
  exact p A _ _ ((Le.of s2).trans w2) w1
 ·cases h3'
end
end Pu
namespace Pu
open PySem PySem.Spec PyProof.Rows L2
section
open PySem.SeqAt
open PySem.AutoSeq1 (wpAny_loadPart')
open PySem.MeetsSeq PySem.MeetsSeq2 PySem.MeetsSeq3
inductive LexV (A:Around) (s:Shared):List Value->List Value->Bool->Prop where
 | nn:LexV A s [] [] false
 | nc {w:Value} {ws:List Value}:LexV A s [] (w :: ws) true
 | cn {v:Value} {vs:List Value}:LexV A s (v :: vs) [] false
 | eq {v w:Value} {vs ws:List Value} {b:Bool}:EqAt A s v w true->LexV A s vs ws b->LexV A s (v :: vs) (w :: ws) b
 | lt {v w:Value} {vs ws:List Value} {b:Bool}:EqAt A s v w false->(∀ (prog:Program) (wd:World) (E Q:Value->Shared->Prop),Q (.bool b) s->wpAny (model prog wd) A (richCompare .Lt v w) Q E s)->LexV A s (v :: vs) (w :: ws) b
end
section
variable{X:Cx}
end
end Pu
namespace Pu
open PySem PySem.Spec PyProof.Rows L2
structure ClsAt(K:PySem.W.Frag)(c:String)(C:Addr):Prop where
 ns:PySem.W.nsIn K mainGlobals (Str.ofString c)=some (some (.ref C))
 cl:Cls K C
theorem sV{a b:String}(h:Str.ofString a=Str.ofString b):a=b:=by
 have h1:(Str.ofString a).cps=(Str.ofString b).cps:=by rw [h]
 rw [Str.ofString_eq_toList,Str.ofString_eq_toList] at h1
 have h2:a.toList.map Char.toNat=b.toList.map Char.toNat:=by
  have:=congrArg Array.toList h1
  simpa using this
 have inj:∀ (x y:List Char),x.map Char.toNat=y.map Char.toNat->x=y:=by
  intro x
  induction x with
  | nil=>intro y h;cases y with | nil=>rfl | cons _ _=>simp at h
  | cons a x ih =>
   intro y h
   cases y with
   | nil=>simp at h
   | cons b y =>
    rw [List.map_cons,List.map_cons] at h
    injection h with h3 h4
    rw [ih y h4]
    congr 1
    exact Char.ext (UInt32.toNat_inj.mp h3)
 exact String.toList_inj.mp (inj _ _ h2)
section
variable{K:PySem.W.Frag}{H:Hp}
theorem aD2{f:String}:∀ {ns:List String} {ds:List D} {fs:List (Str × V)} {d:D},fs.map (·.1)=ns.map Str.ofString->bL K H ds (fs.map (·.2))->(ns.zip ds).lookup f=some d->∃ v,fs.lookup (Str.ofString f)=some v/\Rep K H d v
 | [],ds,fs,d,_,_,h=>by simp at h
 | n :: ns,[],fs,d,_,_,h=>by simp at h
 | n :: ns,d0 :: ds,[],d,e,_,h=>by simp at e
 | n :: ns,d0 :: ds,(g,w) :: fs,d,e,r,h=>by
  rw [List.map_cons,List.map_cons] at e
  injection e with e1 e2
  obtain ⟨v,r',e3,h1,h2⟩:=bY.mp r
  rw [List.map_cons] at e3
  injection e3 with e4 e5
  subst e4 e5
  have e1':g=Str.ofString n:=e1
  subst e1'
  rw [List.zip_cons_cons,List.lookup_cons] at h
  rw [List.lookup_cons]
  by_cases hf:f=n
  ·subst hf
   simp only [beq_self_eq_true] at h ⊢
   cases h
   exact ⟨_,rfl,h1⟩
  ·have hb:(f==n)=false:=beq_eq_false_iff_ne.mpr hf
   have hb2:(Str.ofString f==Str.ofString n)=false:=beq_eq_false_iff_ne.mpr fun z=>hf (sV z)
   rw [hb] at h
   rw [hb2]
   exact aD2 e2 h2 h
theorem lookup_none{f:String}:∀ {ns:List String} {fs:List (Str × V)},fs.map (·.1)=ns.map Str.ofString->f ∉ ns->fs.lookup (Str.ofString f)=none
 | [],fs,e,_=>by cases fs with | nil=>rfl | cons _ _=>simp at e
 | n :: ns,[],e,_=>rfl
 | n :: ns,(g,w) :: fs,e,h=>by
  rw [List.map_cons,List.map_cons] at e
  injection e with e1 e2
  have e1':g=Str.ofString n:=e1
  subst e1'
  rw [List.lookup_cons]
  have hb2:(Str.ofString f==Str.ofString n)=false:=beq_eq_false_iff_ne.mpr fun z=>h (by rw [sV z];exact List.mem_cons_self)
  rw [hb2]
  exact lookup_none e2 fun z=>h (List.mem_cons_of_mem _ z)
theorem aI1{f:String}{v:V}:∀ {ns:List String} {fs:List (Str × V)},fs.map (·.1)=ns.map Str.ofString->f ∉ ns->tM (Str.ofString f) v fs=fs++[(Str.ofString f,v)]
 | [],fs,e,_=>by cases fs with | nil=>rfl | cons _ _=>simp at e
 | n :: ns,[],e,_=>by simp at e
 | n :: ns,(g,w) :: fs,e,h=>by
  rw [List.map_cons,List.map_cons] at e
  injection e with e1 e2
  have e1':g=Str.ofString n:=e1
  subst e1'
  unfold tM
  rw [if_neg (fun z=>h (by rw [sV z];exact List.mem_cons_self)),aI1 e2 fun z=>h (List.mem_cons_of_mem _ z)]
  rfl
end
section
variable{X:Cx}{B:List Addr}{a b e o:Expr}{f g:Ex}{pos:Pos}
theorem lG.ins{K:PySem.W.Frag}{A:List Addr}{H:Hp}{c:String}{ns:List String}{ds:List D}{v:V}(h:lG K A H (.ins c ns ds) v):∃ p C dx fs,v = .ref p/\H p=some (.ins C dx fs)/\PySem.W.nsIn K mainGlobals (Str.ofString c)=some (some (.ref C))/\fs.map (·.1)=ns.map Str.ofString/\bL K (hide A H) ds (fs.map (·.2)):=by
 rcases h with h | ⟨p,kk,o,ds',vs,e,e2,h,ko,r⟩
 ·obtain ⟨p,C,dx,fs,vs,e,q1,q2,q3,q4,r⟩:=aLp.mp h
  subst q4
  exact ⟨p,C,dx,fs,e,bN _ _ _ _ q1,q2,q3,r⟩
 ·cases kk<;>cases e
  obtain ⟨_,C,dx,fs,rfl,q2,q3,rfl⟩:=ko
  exact ⟨p,C,dx,fs,e2,h,q2,q3,r⟩
theorem wF{c f':String}{C:Addr}(hc:ClsAt X.K c C)(hn:dM X.K C (Str.ofString f'))(ho:PE X o (tP X.K B f))(hb:attributeBase o (Str.ofString f') X.env (eval o X.env)=eval o X.env:=by rfl) :
  PE X (.Attribute o (Str.ofString f') pos) (tI X.K B (e1 (jM c f') f)):=by
 refine cI (aVu ho hb) ?_
 rintro σ H Q ⟨A,st,d,rs,hd,q⟩
 obtain ⟨x,hx,h2⟩:=R.ok_of hd
 refine ⟨A,st,x,rs,hx,fun v H1 s1 r1=>?_⟩
 cases x<;>first | (cases h2;done) | skip
 obtain ⟨e1,h3⟩:=aJ h2
 subst e1
 obtain ⟨p,C',dx,fs,e2,h4,h5,h6,h7⟩:=r1.ins
 have:C'=C:=by have z:=h5.symm.trans hc.ns;injection z with z;injection z with z;injection z
 subst this
 obtain ⟨w,h8,h9⟩:=aD2 h6 h7 (sJ h3)
 exact ⟨p,C',dx,fs,w,e2,h4,hc.cl,hn,h8,q w H1 s1 h9⟩
structure MethOk(P:Program)(w:World)(K:PySem.W.Frag)(mg:Str->Option Value)(base:Heap)(c m:String)(k np:Nat)(dv:List D)(p:List D->R D):Prop where
 ex:∃ (C fa:Addr) (fd:FuncData) (ps:List Str) (dvs:List V) (ds:List Value),ClsAt K c C/\Meth K C (Str.ofString m) fa/\FnOk P w K mg base CX0 k fa fd ps (spI K np p)/\Binds K fd ps ds/\Vals dvs ds/\∀ H,bL K H dv dvs
 len:∀ ds d,p ds = .ok d->ds.length=np
theorem aK1{c m:String}{k j np:Nat}{dv:List D}{p:List D->R D}{es:List Expr}{r:Exs}{apos:Pos}{pl:Sem Bool}(h:MethOk X.prog X.w X.K X.mg X.base c m k np dv p)(hr:Room j X.A)(hk:k<=j)(ho:PE X o (tI X.K B f))(ha:PA X (e :: es) (tA X.K B r))
  (hst:starEach (e :: es) X.env=(false,eval e X.env) :: starEach es X.env:=by rfl) (hpl:(backTo pos (starEach es X.env)).any (·.1)=false:=by rfl)
  (ht:eval (.Call (.Attribute o (Str.ofString m) apos) (e :: es) [] pos) X.env=(do
   let ov <- eval o X.env
   standAt apos.atName
   let (f,first) <- holding [ov] (getMethod ov (Str.ofString m) pl)
   callWith pos f first (backTo pos (starEach (e :: es) X.env)) (backToKw pos (keywordEach [] X.env))):=by rfl) :
  PE X (.Call (.Attribute o (Str.ofString m) apos) (e :: es) [] pos) (tI X.K B (qO c m p dv f r)):=by
 obtain ⟨C,fa,fd,ps,dvs,ds,hc,hm,F,bd,vd,rd⟩:=h.ex
 refine cI (aKk (pl:=pl) ho hc.cl hm F (hr.mono hk) bd vd aKo ha hst hpl ht) ?_
 rintro σ H Q ⟨A,st,d,rs,hd,q⟩
 obtain ⟨x,hx,h2⟩:=R.ok_of hd
 obtain ⟨xs,hxs,h3⟩:=R.ok_of h2
 refine ⟨A,st,x,rs,hx,fun v H1 s1 r1=>?_⟩
 cases x<;>first | (cases h3;done) | skip
 obtain ⟨⟨e1,hn⟩,h4⟩:=aJ h3
 subst e1
 obtain ⟨p',C',dx,fs,e2,h5,h6,h7,h8⟩:=lG.ins (.inl r1)
 have:C'=C:=by have z:=h6.symm.trans hc.ns;injection z with z;injection z with z;injection z
 subst this
 refine ⟨p',dx,fs,e2,h5,lookup_none h7 hn,A,st,xs,rs.mono s1,hxs,fun vs H2 s2 r2=>?_⟩
 exact ⟨A++B,_,d,rs.own.mono (s1.trans s2),.cons (r1.mono (bA.hide s2)) (r2.append (rd _)),h.len _ _ h4,h4,fun w H' s' r'=>q w H' (s1.trans (s2.trans s')) r'⟩
def spM(K:PySem.W.Frag)(c:String)(np:Nat)(p:List D->R D):Sp:=fun vs H Q _=>∃ x ws A C dx ds d,vs = .ref x :: ws/\H x=some (.ins C dx [])/\PySem.W.nsIn K mainGlobals (Str.ofString c)=some (some (.ref C))/\Own A H/\x ∉ A/\bL K (hide (x :: A) H) ds ws/\ds.length=np/\p ds = .ok d /\
 ∀ H',bA (hide [x] H) H'->Rep K (hide A H') d (.ref x)->Q .non H'
structure MakeOk(P:Program)(w:World)(K:PySem.W.Frag)(mg:Str->Option Value)(base:Heap)(c:String)(k np:Nat)(p:List D->R D):Prop where
 ex:∃ (C fa:Addr) (fd:FuncData) (ps:List Str),ClsAt K c C/\Mk K C fa/\FnOk P w K mg base CX0 k fa fd ps (spM K c np p)/\Binds K fd ps []/\mg (Str.ofString c)=some (.ref C)
 len:∀ ds d,p ds = .ok d->ds.length=np
theorem aXw{c:String}{k j np:Nat}{p:List D->R D}{es:List Expr}{r:Exs}{p0:Pos}(h:MakeOk X.prog X.w X.K X.mg X.base c k np p)(hr:Room j X.A)(hk:k+1<=j)(ha:PA X (e :: es) (tA X.K B r))(hg:Gl X (Str.ofString c):=by rfl)(hdb:(Str.ofString c==("__debug__" : Str))=false:=by decide)
  (he:starEach (e :: es) X.env=(false,eval e X.env) :: starEach es X.env:=by rfl) (hpl:(backTo pos (starEach es X.env)).any (·.1)=false:=by rfl):PE X (.Call (.Name (Str.ofString c) p0) (e :: es) [] pos) (tI X.K B (aX p r)):=by
 obtain ⟨C,fa,fd,ps,hc,M,F,bd,hm⟩:=h.ex
 refine cI (aRo M F (hr.mono hk) hg hm bd .nil aKo ha hdb he hpl) ?_
 rintro σ H Q ⟨A,st,d,rs,hd,q⟩
 obtain ⟨xs,hx,h2⟩:=R.ok_of hd
 refine ⟨A,st,xs,rs,hx,fun vs H1 s1 r1 x dx hx0 hdx hne=>?_⟩
 have w1:=rs.own.mono s1
 have hxA:x ∉ A++B:=w1.free hx0
 have e0:∀ b u,H1 b=some u->upd (upd H1 dx (.own x)) x (.ins C dx []) b=some u:=fun b u z=>by
  rw [bW (bK z hx0),bW (bK z hdx)];exact z
 refine ⟨x,vs++[],A++B,C,dx,xs,d,rfl,cH,hc.ns,fun b hb=>?_,hxA,?_,h.len _ _ h2,h2,fun H' sm rd=>⟨rfl,q _ H' (fun b u z=>?_) rd⟩⟩
 ·obtain ⟨u,z⟩:=Option.isSome_iff_exists.mp (w1 b hb)
  rw [e0 b u z];rfl
 ·rw [List.append_nil]
  refine r1.mono fun b u z=>?_
  have z1:=bN _ _ _ _ z
  have hb:b ∉ A++B:=fun y=>by rw [fO y] at z;cases z
  rw [cD (fun y=>(List.mem_cons.mp y).elim (bK z1 hx0) hb)]
  exact e0 b u z1
 ·have z1:=s1 _ _ z
  exact sm b u (by rw [cD (by simpa using bK z1 hx0)];exact e0 b u z1)
theorem aNj{K:PySem.W.Frag}{A:List Addr}{H:Hp}{N:List Str}{ds:List D}{ws:List V}{x C dx:Addr}{c:String}(w:Own A H)(hxA:x ∉ A)(hx:H x=some (.ins C dx []))(hns:PySem.W.nsIn K mainGlobals (Str.ofString c)=some (some (.ref C)))(r:bL K (hide (x :: A) H) ds ws) :
  RS K A [x] H (some (Sl.o (.i x c []) []) :: (ds.map (fun d=>some (Sl.v d))++List.replicate (N.length - ds.length - 1) none)) (L2.start N (.ref x :: ws)):=by
 have hl:=r.length
 have sh:L2.start N (.ref x :: ws)=some (.ref x) :: (ws.map some++List.replicate (N.length - ds.length - 1) none):=by
  unfold L2.start
  rw [List.map_cons,List.cons_append,List.length_cons,hl]
  congr 2
 rw [sh]
 have nov:∀ (i:Nat) (s:Sl),(ds.map (fun d=>some (Sl.v d))++List.replicate (N.length - ds.length - 1) none)[i]?=some (some s)->∃ d,ds[i]?=some d/\s = .v d:=fun i s e=>by
  by_cases hi:i < ds.length
  ·rw [List.getElem?_append_left (by simpa using hi),List.getElem?_map,List.getElem?_eq_getElem hi] at e
   simp at e
   exact ⟨ds[i],List.getElem?_eq_getElem hi,e.symm⟩
  ·rw [List.getElem?_append_right (by simpa using hi),List.getElem?_replicate] at e
   split at e<;>simp at e
 refine ⟨by simp [hl],fun b hb=>?_,fun b hb=>by rw [List.mem_singleton.mp hb];exact hxA,fun i d e=>?_,fun i k xs e=>?_⟩
 ·rcases List.mem_append.mp hb with hb | hb
  ·rw [List.mem_singleton.mp hb,hx];rfl
  ·exact w b hb
 ·cases i with
  | zero=>simp at e
  | succ i =>
   rw [List.getElem?_cons_succ] at e
   obtain ⟨d',e1,e2⟩:=nov i _ e
   cases e2
   obtain ⟨v,hv,rv⟩:=r.get e1
   refine ⟨v,?_,rv⟩
   have hi:i < ws.length:=(List.getElem?_eq_some_iff.mp hv).1
   rw [List.getElem?_cons_succ,List.getElem?_append_left (by simpa using hi),List.getElem?_map,hv]
   rfl
 ·cases i with
  | zero =>
   simp at e
   obtain ⟨rfl,rfl⟩:=e
   refine ⟨x,_,[],rfl,List.mem_singleton.mpr rfl,hx,⟨rfl,C,dx,[],rfl,hns,rfl,rfl⟩,.nil,fun j k' ys ej _=>?_⟩
   cases j with
   | zero=>rfl
   | succ j =>
    rw [List.getElem?_cons_succ] at ej
    obtain ⟨_,_,e2⟩:=nov j _ ej
    cases e2
  | succ i =>
   rw [List.getElem?_cons_succ] at e
   obtain ⟨_,_,e2⟩:=nov i _ e
   cases e2
theorem aTj{P:Program}{w:World}{K:PySem.W.Frag}{mg:Str->Option Value}{base:Heap}{x qual:Str}{st:Stmt}{f:Addr}{fd:FuncData}{N ps:List Str}{k:Nat}(F:Fun K x qual st f fd)(S:FnScope N ps (aF st))(c:String)(np n:Nat)(bd:Bd)(hnp:ps.length=np+1)(hn:N.length=n)
  (hb:∀ (cdv:Value) (A:Around) (outer:List Env) (s:Shared) (H:Hp) (E:XK) (B:List Addr),Room k (A.deeper (envOfC qual (aF st) s.heap.objs.size f cdv)) ->
   PSs (zO CX0 P w K mg base N qual (aF st) f cdv A outer s H E).nox (bD st) (tS K B bd)):FnOk P w K mg base CX0 (k+1) f fd ps (spM K c np (aFe c np n bd)):=by
 refine F.ok S (fun vs H Q E h=>?_) (fun cdv A outer s H vs Q E hr h=>?_)
 ·obtain ⟨y,ws,A,C,dx,ds,d,rfl,_,_,_,_,r,hl,_⟩:=h
  rw [List.length_cons,r.length,hl,hnp]
 ·obtain ⟨y,ws,A',C,dx,ds,d,rfl,hy,hns,own,hyA,r,hl,hp,q⟩:=h
  refine ⟨tS K A' bd,hb cdv A outer s H E A' hr,?_⟩
  obtain ⟨_,h2⟩:=aJ (aKp hp y)
  obtain ⟨fl,hfl,h3⟩:=R.ok_of h2
  have rs:=aNj (N:=N) (c:=c) own hyA hy hns r
  rw [hl,hn] at rs
  refine ⟨[y],_,fl,rs,hfl,?_⟩
  cases fl with
  | nx s1 =>
   intro A1 σ1 H1 l rs1
   have h3':(match (s1[0]?:Option (Option Sl)) with | some (some (.o (.i y' c' ns) xs))=>aH (y'=y) (R.ok (D.ins c' ns xs)) | _ => .bad) = .ok d:=h3
   split at h3'
   ·rename_i y' c' ns xs e1
    obtain ⟨rfl,h4⟩:=aJ h3'
    cases h4
    obtain ⟨a,o,vs,e2,m,h5,ko,r5,_⟩:=rs1.lst 0 _ _ e1
    have ea:a=y':=ko.1
    subst ea
    refine q H1 (bA.trans (show bA (hide [a] H) (hide A1 H1) from l) (bN _ _)) ?_
    have:=ko.rep (H:=hide A' H1) (ds:=xs) (by rw [cD (rs1.dis a m)];exact h5) (r5.mono (iV fun b hb=>List.mem_append_right _ hb))
    exact this
   ·cases h3'
  | rt d'=>cases h3
  | bk s1=>cases h3
  | ct s1=>cases h3
theorem aQl{c:String}{np n:Nat}{bd:Bd}(ds:List D)(d:D)(h:aFe c np n bd ds = .ok d):ds.length=np:=(aJ (aKp h 0)).1
theorem aG8(i:Nat){x:Str}{c f':String}{C:Addr}{p1 p2:Pos}{value:Expr}(hc:ClsAt X.K c C)(hn:dM X.K C (Str.ofString f'))(he:PE X value (tI X.K B f))(hN:X.N[i]?=some x:=by rfl)(hv:Vis X.env.scope x:=by first | exact Or.inl rfl | exact Or.inr (Or.inl rfl) | exact Or.inr (Or.inr rfl))(hd:(x==("__debug__" : Str))=false:=by decide)
  (hcd:(x==("__classdict__" : Str))=false:=by decide) (hs:swapsWith value (some (.Attribute (.Name x p1) (Str.ofString f') p2)) pos.line X.env=pure false:=by rfl) :
  PS X (.Assign [.Attribute (.Name x p1) (Str.ofString f') p2] value pos) (tS X.K B (aDz i c f' f)):=by
 refine fC (aVv (tW hN hv hd hcd) he hs) ?_
 rintro Dn σ H ⟨A,st,r,rs,hr,p⟩
 obtain ⟨d,hd,h3⟩:=R.ok_of hr
 split at h3
 ·rename_i n c' ns xs e1
  obtain ⟨⟨ec,hf,hlen⟩,h4⟩:=aJ h3
  subst ec
  cases h4
  obtain ⟨l,o,vs,e2,m,h1,ko,q,u⟩:=rs.lst i _ _ e1
  obtain ⟨el,C',dx,fs,rfl,k1,k2,rfl⟩:=ko
  have:C'=C:=by have z:=k1.symm.trans hc.ns;injection z with z;injection z with z;injection z
  subst this
  refine ⟨A,st,d,rs,hd,fun y H1 s1 r1=>⟨.ref l,e2,l,C',dx,fs,rfl,s1 _ _ h1,hc.cl,hn,?_,?_⟩⟩
  ·have:=congrArg List.length k2
   rw [List.length_map,List.length_map] at this
   omega
  ·rw [aI1 k2 hf]
   obtain ⟨w1,w2⟩:=(rs.mono s1).write e1 e2 (k1 := .i n c' (ns++[f'])) (o' := .ins C' dx (fs++[(Str.ofString f',y)])) (ds:=xs++[d]) (vs':=fs.map (·.2)++[y]) ⟨el,C',dx,_,rfl,k1,by rw [List.map_append,List.map_append,k2];rfl,by rw [List.map_append];rfl⟩ ((q.mono (bA.hide s1)).append (.cons r1 .nil))
   exact p A _ _ ((Le.of s1).trans w2) w1
 ·cases h3
theorem aM0{sm:Stmt}:PS X sm (tS X.K B aJ4):=fun _ _ _ _ _ _ ⟨_,_,_,_,h,_⟩=>nomatch h
end
end Pu
namespace Pu
open PySem PySem.Spec PyProof.Rows L2
section
variable{X:Cx}{B:List Addr}{scope:Scope}{elt tg iter c:Expr}{pos:Pos}{t:Tg}{it:ItE}{f u:Ex}
theorem aEt{pins:List (Addr × Obj)}{σ τ:LSt}{H3 H5:Hp}{s3 s5:Shared}{fp:List Addr}{C p:Addr}{m5:Str->Option Value}{i:Nat}{x:Str}{px:Pos}{Qf:Value->Shared->Prop}(hN:X.N.Nodup)(hi:X.N[i]?=some x)(hx:Loc X.env.scope x)
  (hf:X.fn x=true\/X.env.scope.names.lookup x=some .local) (hC:s3.heap.objs.size<=C) (I3:Inv X pins σ H3 s3) (hfp:∀ b∈fp,xT X pins H3 b) (I5:Inv (cO X scope C s3 H3 fp) [] τ H5 s5) (hn5:s5.heap.Ns C m5)
  (hQ:∀ s',Inv X pins (σ.set i (some (.ref p))) H5 s'->Qf .none s'):compPost (model X.prog X.w) X.A X.xe (some (assign (.Name x px) X.env)) Qf (.ref p) C (.ok .next) s5:=by
 have I5':Inv X pins σ H5 { s5 with heap:=s5.heap }:=aG4 I3 hfp hC I5 (.refl ..)
 have lt:∀ b o,s3.heap.get? b=some o->C≠b:=fun b o e z=>Nat.lt_irrefl _ (Nat.lt_of_lt_of_le (Heap.lt_size (z ▸ e)) hC)
 have hL:C≠X.env.locals:=fun z=>Nat.lt_irrefl _ (Nat.lt_of_lt_of_le (z ▸ I3.lt) hC)
 have hc:∀ y c,X.env.cells.lookup y=some c->c≠C:=fun y c e=>by
  obtain ⟨v,o,ho,_⟩:=I3.cell y c e
  exact (lt c o ho).symm
 have hp:∀ q∈X.pn++pins,q.1≠C:=fun q hq=>(lt q.1 q.2 (I3.pin q hq).1).symm
 show wpAny _ X.A (assign (.Name x px) X.env (.ref p)) _ _ _
 refine wpAny_assign_Name (aDq (v := .ref p) I5' hN hi hx rfl (fun s6 I6 ⟨a,hs,ha⟩=>?_) hf)
 have hCa:C≠a:=by
  rcases ha with z | z
  ·rw [z];exact hL
  ·exact (hc x a z).symm
 refine ⟨m5,hn5.sameBut hs hCa,fun h' hs'=>hQ _ ?_⟩
 exact I6.turned (t':=s6.toks) (fun b o hb e=>(hs'.2 b hb).trans e) (show H5 C=none from I5.free) hL (.inr (Nat.le_trans I3.sz hC)) hc hp
theorem aI2(i:Nat){x:Str}{px spos:Pos}(is:List Nat)(hsub:aEq is t)(S:CScope X scope is)(hi:L2.PI X tg iter (tIt X.K B it))(hg:∀ (B:List Addr) (C:Addr) (s₀:Shared) (H₀:Hp) (fp:List Addr),PG (cO X scope C s₀ H₀ fp) tg (tG X.K B t))
  (ht:∀ (B:List Addr) (C:Addr) (s₀:Shared) (H₀:Hp) (fp:List Addr),PT (cO X scope C s₀ H₀ fp) c (tT X.K B u))
  (he:∀ (B:List Addr) (C:Addr) (s₀:Shared) (H₀:Hp) (fp:List Addr),PE (cO X scope C s₀ H₀ fp) elt (tI X.K B f)) (hc:X.calm=true) (hN:X.N.Nodup) (hi':X.N[i]?=some x:=by rfl) (hx:Loc X.env.scope x:=by first | exact Or.inl rfl | exact Or.inr rfl)
  (hsw:swapsWith (.ListComp elt [⟨tg,iter,[c],0⟩] scope pos) (some (.Name x px)) spos.line X.env=pure true:=by rfl)
  (hf:X.fn x=true\/X.env.scope.names.lookup x=some .local:=by first | exact .inl rfl | exact .inr rfl | assumption) (hs:∀ x,foldedSetIterable iter X.env x=pure x:=by intro _;rfl) :
  PS X (.Assign [.Name x px] (.ListComp elt [⟨tg,iter,[c],0⟩] scope pos) spos) (tS X.K B (eF i (dU is t it u f))):=by
 intro pins s σ H Dn I h
 obtain ⟨A,st,r,rs,hr,q⟩:=h
 obtain ⟨d,hd,h3⟩:=R.ok_of hr
 cases h3
 obtain ⟨xs,hx',h2⟩:=R.ok_of hd
 obtain ⟨hl,h3⟩:=aJ h2
 obtain ⟨ys,hy,h4⟩:=R.ok_of h3
 cases h4
 rw [exec_Assign_Name_used _ _ _ _ hsw]
 refine wpAny_bind (wpAny_standAt (wpAny_bind ?_))
 show wpAny _ X.A (do let _ <- comprehension (.ListComp elt [⟨tg,iter,[c],0⟩] scope pos) scope X.env _ (newList []) false (eval iter X.env) (some (assign (.Name x px) X.env))) _ _ s
 refine wpAny_bind (wpAny_mono (Q:=fun _ s'=>SP X pins Dn .next s') ?_ (fun _ s' hq=>wpAny_pure (wpAny_pure hq)) fun _ _ e=>e)
 exact vK (use:=some (assign (.Name x px) X.env)) (Qf:=fun _ s'=>SP X pins Dn .next s') (Q:=fun v H'=>Dn.nx (σ.set i (some v)) H') (tt:=tTx X.K u) (te:=tIx X.K f) (rest:=fun env it p=>isTrue c env (eval c env) >>= fun ok=>if ok=true then (eval elt env >>= fun x=>call (.builtin "list.append") [p,x] >>= fun _=>again (.compLoop (.ListComp elt [⟨tg,iter,[c],0⟩] scope pos) 0 it p env)) else again (.compLoop (.ListComp elt [⟨tg,iter,[c],0⟩] scope pos) 0 it p env)) S hc hi (fun C s₀ H₀ fp=>aTc fun B=>hg B C s₀ H₀ fp) (fun _ _ _=>sU)
  (fun C s₀ H₀ fp it p s Q h=>bB8 (Y:=cO X scope C s₀ H₀ fp) h) (fun C s₀ H₀ fp it p τ H s pins vs N Q I h q=>aV4 (Y:=cO X scope C s₀ H₀ fp) rfl (aTb fun B=>he B C s₀ H₀ fp) (bBa fun B=>ht B C s₀ H₀ fp) τ H s pins vs N Q I h (fun _ Q Q' m h=>yU Q Q' m h) q) hs I
  (aLx hsub (fun τ H Q h=>h) rs hx' hl hy fun p vs H1 H' s1 hp s2 hv r=>aJx (Q:=fun v H'=>Dn.nx (σ.set i (some v)) H') rs (fun v H' sm rv=>q A _ H' (Le.of sm) ((rs.mono sm).set i rv)) s1 hp s2 hv r) fun C p H5 s5 m5 s3 H3 fp τ hC I3 hfp I5 hn5 q5=>aEt hN hi' hx hf hC I3 hfp I5 hn5 fun s' I'=>⟨_,_,I',q5⟩
end
end Pu
namespace Pu
open PySem PySem.Spec PyProof.Rows L2
structure FunD(K:PySem.W.Frag)(x qual:Str)(st:Stmt)(dV:Value)(f:Addr)(fd:FuncData):Prop where
 ex:∃ (oc:Value) (od:Option Addr) (kV doc pm:Value) (an:Option Addr) (cdv ct:Value) (osl:Array (Option Value)),
  fd=PySem.W.fnOf x qual (bJ st) (bD st) (aF st) dV kV doc pm an cdv ct/\K.lookup f=some ⟨oc,od,.func fd,osl⟩/\PySem.W.codeIn K cdv qual=true
 kp:PySem.W.keepIn K (.ref f)=true
section
variable{P:Program}{w:World}{K:PySem.W.Frag}{mg:Str->Option Value}{base:Heap}{x qual:Str}{st:Stmt}{dV:Value}{f:Addr}{fd:FuncData}{N ps:List Str}{k:Nat}
theorem cA{oc:Value}{od an:Option Addr}{osl:Array (Option Value)}{kV doc pm cdv ct:Value}(l:K.lookup f=some ⟨oc,od,.func (PySem.W.fnOf x qual (bJ st) (bD st) (aF st) dV kV doc pm an cdv ct),osl⟩)
  (c:PySem.W.codeIn K cdv qual=true) (k:PySem.W.keepIn K (.ref f)=true):FunD K x qual st dV f (PySem.W.fnOf x qual (bJ st) (bD st) (aF st) dV kV doc pm an cdv ct):=⟨⟨oc,od,kV,doc,pm,an,cdv,ct,osl,rfl,l,c⟩,k⟩
theorem FunD.binds0(F:FunD K x qual st .none f fd)
  (h:∀ (kV doc pm:Value) (an:Option Addr) (cdv ct:Value) (us:List Value),us.length=ps.length->bindArgs (PySem.W.fnOf x qual (bJ st) (bD st) (aF st) .none kV doc pm an cdv ct) ⟨us,[]⟩=pure (ps.zip us)):Binds K fd ps []:=by
 obtain ⟨oc,od,kV,doc,pm,an,cdv,ct,osl,rfl,lk,hcd⟩:=F.ex
 exact .all (h kV doc pm an cdv ct)
theorem FunD.binds{T:Addr}{o:Obj}{items:Array Value}{n m:Nat}{ds:List Value}(F:FunD K x qual st (.ref T) f fd)(hT:K.lookup T=some o)(hd:o.data = .seq items n)(hm:m+ds.length=ps.length)
  (h:∀ (kV doc pm:Value) (an:Option Addr) (cdv ct:Value) (us:List Value),us.length=m->∃ k:Option (Array Value)->Sem (List (Str × Value)),bindArgs (PySem.W.fnOf x qual (bJ st) (bD st) (aF st) (.ref T) kV doc pm an cdv ct) ⟨us,[]⟩=seqItems? (.ref T) >>= k/\k (some items)=pure (ps.zip (us++ds))):Binds K fd ps ds:=by
 obtain ⟨oc,od,kV,doc,pm,an,cdv,ct,osl,rfl,lk,hcd⟩:=F.ex
 intro s us KX hl
 obtain ⟨k,h1,h2⟩:=h kV doc pm an cdv ct us (by rw [List.length_append] at hl;omega)
 exact .of_defaults rfl (KX _ _ hT) hd h1 h2
theorem FunD.okX{sp:Sp}(F:FunD K x qual st dV f fd)(S:FnScope N ps (aF st))(len:∀ vs H Q E,sp vs H Q E->vs.length=ps.length)
  (hbody:∀ (cdv:Value) (A:Around) (outer:List Env) (s:Shared) (H:Hp) (vs:List V) (Q:VK) (E:XK),Room k (A.deeper (envOfC qual (aF st) s.heap.objs.size f cdv))->sp vs H Q E ->
   ∃ t,PSs (zO CX0 P w K mg base N qual (aF st) f cdv A outer s H E).nox (bD st) t/\t { nx:=fun _ H'=>Q .non H',rt:=Q } (L2.start N vs) H):FnOk P w K mg base CX0 (k+1) f fd ps sp:=by
 obtain ⟨oc,od,kV,doc,pm,an,cdv,ct,osl,rfl,lk,hcd⟩:=F.ex
 refine aOg lk hcd S len fun A outer s H vs Q E hr hsp=>?_
 obtain ⟨t,h,q⟩:=hbody cdv A outer s H vs Q E hr hsp
 exact ⟨t,h.nox,q⟩
theorem fB(F:FunD K x qual st dV f fd)(S:FnScope N ps (aF st))(np n:Nat)(bd:Bd)(hnp:ps.length=np)(hn:N.length=n)
  (hb:∀ (cdv:Value) (A:Around) (outer:List Env) (s:Shared) (H:Hp) (E:XK) (B:List Addr),Room k (A.deeper (envOfC qual (aF st) s.heap.objs.size f cdv)) ->
   PSs (zO CX0 P w K mg base N qual (aF st) f cdv A outer s H E).nox (bD st) (tS K B bd)):FnOk P w K mg base CX0 (k+1) f fd ps (spI K np (dJ np n bd)):=by
 refine F.okX S (fun vs H Q E h=>?_) (fun cdv A outer s H vs Q E hr h=>?_)
 ·obtain ⟨A,ds,d,own,r,hl,_⟩:=h
  rw [r.length,hl,hnp]
 ·obtain ⟨B,ds,d,own,r,hl,hp,q⟩:=h
  refine ⟨tS K B bd,hb cdv A outer s H E B hr,?_⟩
  obtain ⟨_,h2⟩:=aJ hp
  obtain ⟨fl,hfl,h3⟩:=R.ok_of h2
  have rs:=aCt (N:=N) own r
  rw [hl,hn] at rs
  refine ⟨[],_,fl,rs,hfl,?_⟩
  have fin:∀ {A':List Addr} {H':Hp},Le [] H A' H'->bA H H':=fun {A' H'} l=>by
   unfold Le at l
   rw [uW] at l
   exact l.trans (bN _ _)
  cases fl with
  | nx s1 =>
   cases h3
   exact fun A' σ' H' l rs'=>q _ H' (fin l) (cC.mpr rfl)
  | rt d' =>
   cases h3
   exact fun A' v H' l rv=>q v H' (fin l) (rv.mono (iV fun a ha=>List.mem_append_right _ ha))
  | bk s1=>exact nomatch h3
  | ct s1=>exact nomatch h3
end
end Pu
namespace Pu
open PySem PySem.Spec PyProof.Rows L2 PySem.SeqAt
section
variable{X:Cx}{B:List Addr}{a b e o:Expr}{f g:Ex}{pos:Pos}{r:Exs}{es:List Expr}{apos cpos:Pos}
theorem aK2:oO X (.type "list") (fun vs H Q=>∃ l xs,vs=[.ref l]/\(SqL X.K H l xs\/SqT X.K H l xs)/\∀ n,H n=none->Q (.ref n) (upd H n (.lst xs))):=by
 intro pins s σ H vs us Q I r h
 obtain ⟨l,xs,rfl,hl,q⟩:=h
 obtain ⟨u,rfl,ru⟩:=r.one
 obtain rfl:u=Value.ref l:=ru
 rcases hl with hl | hl
 ·obtain ⟨its,rv,⟨ob,n,e,hc,_,hd⟩,hz⟩:=I.list hl
  refine call_list_seq l (T := "list") (.inl rfl) e hc hd (fun h' c' k hn=>?_) (by rw [rv.length] at hz;simpa using hz)
  exact ⟨.ref s.heap.objs.size,_,I.laid (o := .lst xs) (t':=s.toks) k (Nat.le_refl _) ⟨hz,its,c',rv,hn⟩,rfl,q _ (I.hok.fresh (Nat.le_refl _))⟩
 ·obtain ⟨its,rv,⟨ob,e,hc,n,hd⟩,hz⟩:=I.tuple hl
  refine call_list_seq l (T := "tuple") (.inr rfl) e hc hd (fun h' c' k hn=>?_) (by rw [rv.length] at hz;simpa using hz)
  exact ⟨.ref s.heap.objs.size,_,I.laid (o := .lst xs) (t':=s.toks) k (Nat.le_refl _) ⟨hz,its,c',rv,hn⟩,rfl,q _ (I.hok.fresh (Nat.le_refl _))⟩
theorem aG9{p0:Pos}(hm:X.mg "list" = none)(ha:PE X a (tP X.K B f))(hg:Gl X "list" := by rfl)(hs:starEach [a] X.env=(false,eval a X.env) :: starEach [] X.env:=by rfl):PE X (.Call (.Name "list" p0) [a] [] pos) (tI X.K B (e1 aBv f)):=by
 refine cI (aDv aK2 hg hm (by rfl) (fG ha kY hs) (he:=hs)) ?_
 rintro σ H Q ⟨A,st,d,rs,hd,q⟩
 obtain ⟨x,hx,h2⟩:=R.ok_of hd
 refine ⟨A,st,x,rs,hx,fun v H1 s1 r1=>?_⟩
 cases x<;>first | (cases h2;done) | skip
 ·cases h2
  obtain ⟨l,vs,e,h3,r3⟩:=r1.tup
  exact ⟨l,vs,by rw [e],.inr h3,fun n hn=>q _ _ (s1.trans (cX hn)) (iI (rs.own.mono s1) hn r3)⟩
 ·cases h2
  obtain ⟨l,vs,e,h3,r3⟩:=r1.lst
  exact ⟨l,vs,by rw [e],.inl h3,fun n hn=>q _ _ (s1.trans (cX hn)) (iI (rs.own.mono s1) hn r3)⟩
theorem aM1:∀ {l:List Bool} {us:List Value},Vals (l.map V.bl) us->us=l.map Value.bool
 | [],_,.nil=>rfl
 | b :: l,_,.cons r t=>by
  rw [aM1 t]
  cases r
  rfl
theorem aNk(hc:X.calm=true):oO X (.builtin "all") (fun vs H Q=>∃ (l:Addr) (bs:List Bool),vs=[.ref l]/\SqL X.K H l (bs.map V.bl)/\Q (.bl (bs.all id)) H):=by
 intro pins s σ H vs us Q I r h
 obtain ⟨l,bs,rfl,hl,q⟩:=h
 obtain ⟨u,rfl,ru⟩:=r.one
 obtain rfl:u=Value.ref l:=ru
 obtain ⟨its,rv,⟨ob,n,e,hcl,_,hd⟩,hz⟩:=I.list hl
 have ei:=aM1 rv
 have isl:s.heap.IsList l its.toArray:=⟨ob,e,hcl,n,hd⟩
 have hlt:l < s.heap.objs.size:=Heap.lt_size e
 refine call_all_walk (wpAny_pyIter_list isl ⟨s.heap.objs.size,_,_,_,_,_,fun i=>bs[i]?.getD false,rfl,Walks.list (A:=X.A.in1) (I.ok.hd hc) _ l (Nat.ne_of_lt hlt) its.toArray,⟨⟨_,Heap.get?_push_size _ rfl,rfl,rfl⟩,isl.push _⟩,?_,fun h' tk k=>?_⟩)
 ·intro i v s' Q' E' hv hq
  rw [ei] at hv
  simp only [List.getElem?_toArray,List.getElem?_map,Option.map_eq_some_iff] at hv
  obtain ⟨b,hb,rfl⟩:=hv
  have hq':Q' (bs[i]?.getD false) s':=hq
  rw [hb] at hq'
  exact wpAny_pure hq'
 ·refine ⟨.bl (bs.all id),H,I.kept (fun b u z=>k b u (fun hb=>?_) (Heap.get?_push_of_some _ z)),?_,q⟩
  ·have:=List.mem_singleton.mp hb
   exact Nat.lt_irrefl _ (this ▸ Heap.lt_size z)
  ·show Value.bool _=Value.bool _
   congr 1
   rw [Bool.eq_iff_iff,List.all_eq_true,List.all_eq_true]
   have hsz:its.toArray.size=bs.length:=by rw [ei];simp
   rw [hsz]
   constructor
   ·intro h x hx
    obtain ⟨i,hi,rfl⟩:=List.mem_iff_getElem.mp hx
    have:=h i (List.mem_range.mpr hi)
    rw [List.getElem?_eq_getElem hi] at this
    exact this
   ·intro h i hi
    have hi':=List.mem_range.mp hi
    rw [List.getElem?_eq_getElem hi']
    exact h _ (List.getElem_mem hi')
theorem aM2{K:PySem.W.Frag}{H:Hp}:∀ {l:List Bool} {vs:List V},bL K H (l.map D.bl) vs->vs=l.map V.bl
 | [],vs,h=>cQ.mp h
 | b :: l,vs,h=>by
  obtain ⟨v,r,rfl,h1,h2⟩:=bY.mp h
  rw [aM2 h2,bO.mp h1];rfl
theorem aM3{p0:Pos}(hm:X.mg "all" = none)(hc:X.calm=true)(ha:PE X a (tP X.K B f))(hg:Gl X "all" := by rfl)(hs:starEach [a] X.env=(false,eval a X.env) :: starEach [] X.env:=by rfl):PE X (.Call (.Name "all" p0) [a] [] pos) (tI X.K B (e1 aB2 f)):=by
 refine cI (tX (aNk hc) hg hm (by rfl) (fG ha kY hs) (he:=hs)) ?_
 rintro σ H Q ⟨A,st,d,rs,hd,q⟩
 obtain ⟨x,hx,h2⟩:=R.ok_of hd
 refine ⟨A,st,x,rs,hx,fun v H1 s1 r1=>?_⟩
 cases x<;>first | (cases h2;done) | skip
 obtain ⟨bs,h3,h4⟩:=R.ok_of h2
 cases h4
 obtain ⟨l,vs,e,h5,r5⟩:=r1.lst
 rw [aP1 h3] at r5
 rw [aM2 r5] at h5
 exact ⟨l,bs,by rw [e],h5,q _ H1 s1 (bO.mpr rfl)⟩
theorem aI3:∀ {l:List Int} {us:List Value},Vals (l.map V.int) us->∃ ps:List (Int × Tok),us=ps.map (fun p=>Value.int p.1 p.2)/\ps.map (·.1)=l
 | [],_,.nil=>⟨[],rfl,rfl⟩
 | b :: l,_,.cons r t=>by
  obtain ⟨ps,e,e2⟩:=aI3 t
  obtain ⟨t,rfl⟩:=r
  exact ⟨(b,t) :: ps,by rw [e];rfl,by rw [List.map_cons,e2]⟩
theorem aI4{ps:List (Int × Tok)}{i:Nat}(hi:i < ps.length):numAt ps.toArray i=(ps.map (·.1))[i]'(by simpa using hi):=by
 unfold numAt
 rw [List.getElem?_toArray,List.getElem?_eq_getElem hi]
 simp
theorem aNl(hc:X.calm=true):oO X (.builtin "max") (fun vs H Q=>∃ (l:Addr) (is:List Int),vs=[.ref l]/\SqL X.K H l (is.map V.int)/\0 < is.length/\Q (.int (aDh is)) H):=by
 intro pins s σ H vs us Q I r h
 obtain ⟨l,is,rfl,hl,hp,q⟩:=h
 obtain ⟨u,rfl,ru⟩:=r.one
 obtain rfl:u=Value.ref l:=ru
 obtain ⟨its,rv,⟨ob,n,e,hcl,_,hd⟩,hz⟩:=I.list hl
 obtain ⟨ps,ei,e2⟩:=aI3 rv
 have hlen:ps.length=is.length:=by rw [<-e2,List.length_map]
 have isl:s.heap.IsList l (intItems ps.toArray):=⟨ob,e,hcl,n,by rw [hd,ei];simp [intItems]⟩
 refine max_intList (I.ok.hd hc) isl (by simpa [hlen] using hp) fun v h' tk hv k=>?_
 obtain ⟨t,rfl⟩:=intItems_at hv
 refine ⟨.int (aDh is),H,I.kept k,⟨t,?_⟩,q⟩
 congr 1
 have hs:ps.toArray.size=ps.length:=rfl
 rw [hs]
 obtain ⟨h1,h2⟩:=argBest_gt (numAt ps.toArray) (ps.length - 1)
 have hb:argBest (fun i j=>decide (numAt ps.toArray i > numAt ps.toArray j)) (ps.length - 1) < ps.length:=by omega
 refine (aKy ?_ fun x hx=>?_).symm
 ·rw [aI4 hb,<-e2]
  exact List.getElem_mem _
 ·rw [<-e2] at hx
  obtain ⟨i,hi,rfl⟩:=List.mem_iff_getElem.mp hx
  have hi':i < ps.length:=by simpa using hi
  rw [<-aI4 hi']
  exact h2 i (by omega)
theorem aI5{K:PySem.W.Frag}{H:Hp}:∀ {l:List Int} {vs:List V},bL K H (l.map D.int) vs->vs=l.map V.int
 | [],vs,h=>cQ.mp h
 | b :: l,vs,h=>by
  obtain ⟨v,r,rfl,h1,h2⟩:=bY.mp h
  rw [aI5 h2,aV.mp h1];rfl
theorem aQm{p0:Pos}(hm:X.mg "max" = none)(hc:X.calm=true)(ha:PE X a (tP X.K B f))(hg:Gl X "max" := by rfl)(hs:starEach [a] X.env=(false,eval a X.env) :: starEach [] X.env:=by rfl):PE X (.Call (.Name "max" p0) [a] [] pos) (tI X.K B (e1 xY f)):=by
 refine cI (tX (aNl hc) hg hm (by rfl) (fG ha kY hs) (he:=hs)) ?_
 rintro σ H Q ⟨A,st,d,rs,hd,q⟩
 obtain ⟨x,hx,h2⟩:=R.ok_of hd
 refine ⟨A,st,x,rs,hx,fun v H1 s1 r1=>?_⟩
 cases x<;>first | (cases h2;done) | skip
 obtain ⟨is,h3,h4⟩:=R.ok_of h2
 obtain ⟨c,h4⟩:=aJ h4
 cases h4
 obtain ⟨l,vs,e,h5,r5⟩:=r1.lst
 rw [yC h3] at r5
 rw [aI5 r5] at h5
 exact ⟨l,is,by rw [e],h5,c,q _ H1 s1 (aV.mpr rfl)⟩
theorem aI6:∀ {l:List (List Nat)} {us:List Value},Vals (l.map fun t=>V.str ⟨t.toArray⟩) us->∃ ps:List (Str × Tok),us=strValues ps/\ps.map (·.1)=l.map fun t=>(⟨t.toArray⟩:Str)
 | [],_,.nil=>⟨[],rfl,rfl⟩
 | b :: l,_,.cons r t=>by
  obtain ⟨ps,e,e2⟩:=aI6 t
  obtain ⟨t,rfl⟩:=r
  exact ⟨(⟨b.toArray⟩,t) :: ps,by rw [e];rfl,by rw [List.map_cons,e2];rfl⟩
theorem aM4(x:List Nat):∀ (l:List (List Nat)),Str.join ⟨x.toArray⟩ (l.map fun t=>(⟨t.toArray⟩:Str))=⟨(xZ x l).toArray⟩
 | []=>rfl
 | [a]=>rfl
 | a :: b :: l=>by
  show (⟨a.toArray⟩:Str)++⟨x.toArray⟩++Str.join ⟨x.toArray⟩ ((b :: l).map fun t=>(⟨t.toArray⟩:Str))=_
  rw [aM4 x (b :: l)]
  show (⟨a.toArray++x.toArray++(xZ x (b :: l)).toArray⟩:Str)=⟨(a++x++xZ x (b :: l)).toArray⟩
  simp
theorem aTk:MtR X "str.join" (fun x vs H Q=>∃ (z:List Nat) (l:Addr) (ts:List (List Nat)),x = .str ⟨z.toArray⟩/\vs=[.ref l]/\SqL X.K H l (ts.map fun t=>V.str ⟨t.toArray⟩)/\(ts.map List.length).sum+ts.length * z.length<=sizeLine/\Q (.str ⟨(xZ z ts).toArray⟩) H):=by
 intro pins s σ H x vs v us Q I rx rv h
 obtain ⟨z,l,ts,rfl,rfl,hl,hz,q⟩:=h
 obtain ⟨t,rfl⟩:=rx
 obtain ⟨u,rfl,ru⟩:=rv.one
 obtain rfl:u=Value.ref l:=ru
 obtain ⟨its,rv,⟨ob,n,e,hcl,_,hd⟩,_⟩:=I.list hl
 obtain ⟨ps,ei,e2⟩:=aI6 rv
 refine SC.join (l:=ps) ⟨ob,e,hcl,n,by rw [hd,ei]⟩ e2 ?_ fun t' k=>⟨.str ⟨(xZ z ts).toArray⟩,H,I.tok _,⟨t',?_⟩,q⟩
 ·unfold JoinOk
  rw [Bool.not_eq_true']
  show Builtin.Str.tooLong _=false
  rw [StrLaws.joinTotal]
  unfold Builtin.Str.tooLong
  refine decide_eq_false (Nat.not_lt.mpr ?_)
  rw [List.map_map,List.length_map,str_len]
  have:(ts.map ((fun x:Str=>x.length) ∘ fun t=>(⟨t.toArray⟩:Str)))=ts.map List.length:=List.map_congr_left fun t _=>str_len t
  rw [this]
  exact hz
 ·rw [<-aM4,<-StrLaws.glued_eq_join];rfl
theorem aI7{K:PySem.W.Frag}{H:Hp}:∀ {l:List (List Nat)} {vs:List V},bL K H (l.map D.str) vs->vs=l.map fun t=>V.str ⟨t.toArray⟩
 | [],vs,h=>cQ.mp h
 | b :: l,vs,h=>by
  obtain ⟨v,r,rfl,h1,h2⟩:=bY.mp h
  rw [aI7 h2,bI.mp h1];rfl
theorem aXx(ho:PE X o (tP X.K B f))(ha:PA X (e :: es) (tA X.K B r))(hbase:attributeBase o "join" X.env (eval o X.env)=eval o X.env:=by rfl)
  (hfew:((backTo cpos (starEach (e :: es) X.env)).all (fun x => !x.1)&&(backToKw cpos (keywordEach [] X.env)).all (fun x=>x.1.isSome)
   && decide ((e :: es).length+([]:List Keyword).length+(if ([]:List Keyword).isEmpty then 0 else 1) < 30))=true:=by rfl)
  (hline:(apos.endLine==cpos.line)=true:=by rfl) (hs:starEach (e :: es) X.env=(false,eval e X.env) :: starEach es X.env:=by rfl) (hplain:(backTo cpos (starEach es X.env)).any (·.1)=false:=by rfl) :
  PE X (.Call (.Attribute o "join" apos) (e :: es) [] cpos) (tI X.K B (eMt aE2 f r)):=by
 refine aTf (m:=aE2) PySem.F.slot_str_join PySem.F.type_str_join aTk (fun x xs d h=>?_) (fun A H x d xs v vs Q w rx rxs h k=>?_) ho ha hbase hfew hline hs hplain
 ·cases x<;>first | exact ⟨_,rfl⟩ | exact nomatch h
 ·unfold aE2 at h
  split at h
  ·obtain ⟨ts,h1,h2⟩:=R.ok_of h
   obtain ⟨c,h2⟩:=aJ h2
   cases h2
   obtain ⟨u,rfl,ru⟩:=aEr rxs
   obtain ⟨l,ws,e,h5,r5⟩:=lG.lst (.inl ru)
   rw [aGv h1] at r5
   rw [aI7 r5] at h5
   exact ⟨_,l,ts,rx.str,by rw [e],h5,lim c,k _ H (bA.refl _) (bI.mpr rfl)⟩
  ·cases h
end
end Pu
namespace Pu
open PySem PySem.Spec PyProof.Rows L2
def aA6:List Addr->Heap->Heap
 | [],h=>h
 | a :: l,h=>(aA6 l h).update a fun _=>{ cls := .none,data := .freed }
theorem aNm(h:Heap)(a:Addr):(h.update a fun _=>{ cls := .none,data := .freed }).get? a=none:=by
 cases h with
 | mk objs =>
  simp only [Heap.update,Heap.get?,Array.getElem?_modify,if_true]
  cases objs[a]? <;> rfl
theorem xP{b:Addr}{h:Heap}:∀ {l:List Addr},b∈l->(aA6 l h).get? b=none
 | a :: l,hb=>by
  by_cases e:b=a
  ·rw [e];exact aNm _ _
  ·unfold aA6
   rw [Heap.get?_update_ne _ _ _ _ e]
   exact xP ((List.mem_cons.mp hb).resolve_left e)
theorem aBg{b:Addr}{h:Heap}:∀ {l:List Addr},b ∉ l->(aA6 l h).get? b=h.get? b
 | [],_=>rfl
 | a :: l,hb=>by
  unfold aA6
  rw [Heap.get?_update_ne _ _ _ _ fun e=>hb (by rw [e];exact List.mem_cons_self)]
  exact aBg fun z=>hb (List.mem_cons_of_mem _ z)
theorem aM5(l:List Addr)(h:Heap):(aA6 l h).StaysIn h:=fun b o e=>by
 by_cases hb:b∈l
 ·rw [xP hb] at e;cases e
 ·rwa [aBg hb] at e
theorem aD3{h b0 base:Heap}:∀ {l:List Env},h.FunFrames b0 l->(∀ L∈frs l,base.get? L=none)->h.FunFrames base l
 | [],_,_=>trivial
 | env :: l,⟨k,⟨L,o,e1,_,e3,e4⟩,r⟩,hb=>by
  have hL:L∈frs (env :: l):=by unfold frs;rw [List.filterMap_cons_some e1];exact List.mem_cons_self
  exact ⟨k,⟨L,o,e1,hb L hL,e3,e4⟩,aD3 r fun M hM=>hb M (by unfold frs;rw [List.filterMap_cons_some e1];exact List.mem_cons_of_mem _ hM)⟩
structure Fly(C:Addr)(h0:Heap)(H:Hp)(e:Addr)(h:Heap):Prop where
 n0:h0.get? e=none
 nH:H e=none
 ex:∃ oe vs a0,h.get? e=some oe/\oe.cls = .ref C/\oe.data = .fields vs/\vs[0]?=some a0 /\
  (vs[1]?=some .none\/∃ T oT ts,vs[1]?=some (.ref T)/\T≠e/\h.get? T=some oT/\oT.data = .fields ts/\ts[3]?=some .none/\h0.get? T=none/\H T=none)
structure FlyT(C:Addr)(h0:Heap)(H:Hp)(e:Addr)(h:Heap):Prop where
 n0:h0.get? e=none
 nH:H e=none
 ex:∃ oe vs a0 T oT ts,h.get? e=some oe/\oe.cls = .ref C/\oe.data = .fields vs/\vs[0]?=some a0/\vs[1]?=some (.ref T)/\T≠e/\h.get? T=some oT/\oT.data = .fields ts/\ts[3]?=some .none/\h0.get? T=none/\H T=none
theorem FlyT.fly{C e:Addr}{h0 h:Heap}{H:Hp}(F:FlyT C h0 H e h):Fly C h0 H e h:=by
 obtain ⟨n0,nH,oe,vs,a0,T,oT,ts,he,hc,hd,hz,r⟩:=F
 exact ⟨n0,nH,oe,vs,a0,he,hc,hd,hz,.inr ⟨T,oT,ts,r⟩⟩
def aQn(h0:Heap)(H:Hp)(fs:List Addr)(h h':Heap):Prop :=
 ∀ b o,h.get? b=some o->((∃ o0,h0.get? b=some o0)\/∃ u,H b=some u)->(b ∉ fs->h'.get? b=some o)/\∃ sl,h'.get? b=some { o with slots:=sl }
section
variable{M:Model}{A:Around}{E:Value->Shared->Prop}{s:Shared}{C e L:Addr}{h0 b0:Heap}{H:Hp}{env:Env}{outer:List Env}{Q:Unit->Shared->Prop}
theorem aD4{h h':Heap}{l:List Addr}{fl:List Env}{a0:Value}(hth:∀ b o,h0.get? b=some o->∃ o',h.get? b=some o')(hH:∀ b u,H b=some u->∃ o,h.get? b=some o)(n0:h0.get? e=none)(nH:H e=none)
  (hl:∀ b∈l,b=e\/(h0.get? b=none/\H b=none)\/b∈frs fl) (f:h'.FunFrames (aA6 l h) fl) (t:h'.TracedW (aA6 l h) e (.ref C) a0):FlyT C h0 H e h':=by
 obtain ⟨oe,vs,T,oT,ts,he,⟨hc,hz⟩,hd,h1,hT0,hTe,hT,hdT,h3⟩:=t
 have:h0.get? T=none/\H T=none:=by
  by_cases hb:T∈l
  ·rcases hl T hb with z | z | z
   ·exact (hTe z).elim
   ·exact z
   ·obtain ⟨_,o,ho,hnf⟩:=f.mem z
    rw [hT] at ho
    cases ho
    exact (hnf ts hdT).elim
  ·rw [aBg hb] at hT0
   refine ⟨?_,?_⟩
   ·cases q:h0.get? T with
    | none=>rfl
    | some o=>obtain ⟨o',z⟩:=hth T o q;rw [hT0] at z;cases z
   ·cases q:H T with
    | none=>rfl
    | some u=>obtain ⟨o',z⟩:=hH T u q;rw [hT0] at z;cases z
 exact ⟨n0,nH,oe,vs,a0,T,oT,ts,he,hc,hd,hz,h1,hTe,hT,hdT,h3,this⟩
theorem aI8{h h':Heap}{l:List Addr}{fl:List Env}{bb:Heap}(hl:∀ b∈l,(h0.get? b=none/\H b=none)\/b∈frs fl)(f:h.FunFrames bb fl)(k1:(aA6 l h).StaysIn h')
  (k4:∀ b o,h.get? b=some o->(∀ vs,o.data ≠ .fields vs)->∃ sl,h'.get? b=some { o with slots:=sl }):aQn h0 H (frs fl) h h':=fun b o e hb=>by
 have hk:b ∉ frs fl->h'.get? b=some o:=fun hn=>k1 b o (by
  rw [aBg fun z=>?_];exact e
  rcases hl b z with ⟨q1,q2⟩ | q
  ·rcases hb with ⟨o0,z⟩ | ⟨u,z⟩
   ·rw [q1] at z;cases z
   ·rw [q2] at z;cases z
  ·exact hn q)
 refine ⟨hk,?_⟩
 by_cases hn:b∈frs fl
 ·obtain ⟨_,o',ho,hnf⟩:=f.mem hn
  rw [e] at ho
  cases ho
  exact k4 b o e hnf
 ·exact ⟨o.slots,hk hn⟩
theorem aNn(hfr:A.frames=some (env :: outer))(hl:s.heap.FunFrames b0 (env :: outer))(hf:env.frame=some L)(hth:∀ b o,h0.get? b=some o->∃ o',s.heap.get? b=some o')(hH:∀ b u,H b=some u->∃ o,s.heap.get? b=some o)
  (F:Fly C h0 H e s.heap) (hQ:∀ h',Fly C h0 H e h'->aQn h0 H (frs (env :: outer)) s.heap h'->Q () { s with heap:=h' }):wpAny M A (leaving env (.ref e)) Q E s:=by
 obtain ⟨n0,nH,oe,vs,a0,he,hc,hd,hz,ht⟩:=F
 rcases ht with ht | ⟨T,oT,ts,h1,hTe,hT,hdT,h3,nT,nHT⟩
 ·have hcut:∀ L∈frs (env :: outer),(aA6 (e :: frs (env :: outer)) s.heap).get? L=none:=fun L hL=>xP (List.mem_cons_of_mem _ hL)
  refine wpAny_leaving_firstW (base:=aA6 (e :: frs (env :: outer)) s.heap) hfr (aD3 hl hcut) hf he (aM5 _ _) (xP List.mem_cons_self) hd ht hz fun h' ⟨k1,k2,k3,k4⟩=>?_
  rw [hc] at k3
  refine hQ h' (aD4 (h:=s.heap) hth hH n0 nH (fun b hb=>?_) k2 k3).fly (aI8 (fun b hb=>?_) hl k1 k4)
  ·exact (List.mem_cons.mp hb).elim .inl fun z => .inr (.inr z)
  ·exact (List.mem_cons.mp hb).elim (fun z => .inl (by rw [z];exact ⟨n0,nH⟩)) .inr
 ·have hcut:∀ L∈frs (env :: outer),(aA6 (e :: T :: frs (env :: outer)) s.heap).get? L=none:=fun L hL=>xP (List.mem_cons_of_mem _ (List.mem_cons_of_mem _ hL))
  refine wpAny_leaving_nextW (base:=aA6 (e :: T :: frs (env :: outer)) s.heap) (cls := .ref C) (a0:=a0) hfr (aD3 hl hcut) hf ⟨oe,vs,T,oT,ts,he,⟨hc,hz⟩,hd,h1,xP (List.mem_cons_of_mem _ List.mem_cons_self),hTe,hT,hdT,h3⟩ (aM5 _ _) (xP List.mem_cons_self) fun h' ⟨k1,k2,k3,k4⟩=>?_
  refine hQ h' (aD4 (h:=s.heap) hth hH n0 nH (fun b hb=>?_) k2 k3).fly (aI8 (fun b hb=>?_) hl k1 k4)
  ·rcases List.mem_cons.mp hb with z | hb
   ·exact .inl z
   ·exact (List.mem_cons.mp hb).elim (fun z => .inr (.inl (by rw [z];exact ⟨nT,nHT⟩))) fun z => .inr (.inr z)
  ·rcases List.mem_cons.mp hb with z | hb
   ·exact .inl (by rw [z];exact ⟨n0,nH⟩)
   ·exact (List.mem_cons.mp hb).elim (fun z => .inl (by rw [z];exact ⟨nT,nHT⟩)) .inr
end
end Pu
namespace Pu
open PySem PySem.Spec PyProof.Rows L2
theorem aI9{P:Program}{w:World}{H:Hp}{h:Heap}{a:Addr}{o:HO}(x:jD P w H h a o):∃ ob,h.get? a=some ob:=by
 cases o with
 | lst xs=>obtain ⟨_,_,_,_,e⟩:=x;exact ⟨_,e⟩
 | tup xs=>obtain ⟨_,_,_,ob,e,_⟩:=x;exact ⟨_,e⟩
 | dK kvs=>obtain ⟨_,_,_,_,o,_,_,e,_⟩:=x;exact ⟨_,e⟩
 | dT kvs=>obtain ⟨_,_,_,_,o,_,_,e,_⟩:=x;exact ⟨_,e⟩
 | set S n=>obtain ⟨o,_,_,_,e,_⟩:=x;exact ⟨_,e⟩
 | ins C dx fs=>obtain ⟨_,_,_,e,_⟩:=x;exact ⟨_,e⟩
 | own y=>obtain ⟨_,e⟩:=x;exact ⟨_,e⟩
 | xd fs=>obtain ⟨_,⟨_,_,_,e,_⟩,_⟩:=x;exact ⟨_,e⟩
 | rng lo hi=>obtain ⟨_,_,_,e⟩:=x;exact ⟨_,e⟩
 | frz ob u=>obtain ⟨e,_⟩:=x;exact ⟨_,e⟩
 | tbl ps=>exact ⟨_,(show h.get? a=some _ from x)⟩
 | met f y=>exact ⟨_,(show h.get? a=some _ from x)⟩
 | ext φ=>obtain ⟨_,⟨_,e⟩,_⟩:=x;exact ⟨_,e⟩
theorem aEu{P:Program}{w:World}{H:Hp}{h:Heap}(x:HOk P w H h):∀ b u,H b=some u->∃ o,h.get? b=some o:=fun b u e=>aI9 (x b u e)
theorem aNo{P:Program}{w:World}{H:Hp}{h0 h h':Heap}{fs:List Addr}(x:HOk P w H h)(m:aQn h0 H fs h h')(hf:∀ b∈fs,H b=none):HOk P w H h':=fun b u e=>by
 refine (x b u e).stay (fun c v hc q=>?_) (fun _ q=>q) fun _ _ q=>q
 have ht:∃ u,H c=some u:=by
  rcases hc with z | z
  ·exact ⟨u,by rw [z];exact e⟩
  ·exact ⟨_,z⟩
 obtain ⟨u',hu⟩:=ht
 exact (m c v q (.inr ⟨u',hu⟩)).1 fun hb=>by rw [hf c hb] at hu;cases hu
theorem Fly.back{C e:Addr}{h0 h1 h:Heap}{H:Hp}(F:Fly C h1 H e h)(k:∀ b o,h0.get? b=some o->∃ o',h1.get? b=some o'):Fly C h0 H e h:=by
 have z:∀ b,h1.get? b=none->h0.get? b=none:=fun b hb=>by
  cases q:h0.get? b with
  | none=>rfl
  | some o=>obtain ⟨o',q'⟩:=k b o q;rw [hb] at q';cases q'
 obtain ⟨n0,nH,oe,vs,a0,he,hc,hd,hz,ht⟩:=F
 refine ⟨z _ n0,nH,oe,vs,a0,he,hc,hd,hz,?_⟩
 rcases ht with ht | ⟨T,oT,ts,h1',hTe,hT,hdT,h3,nT,nHT⟩
 ·exact .inl ht
 ·exact .inr ⟨T,oT,ts,h1',hTe,hT,hdT,h3,z _ nT,nHT⟩
def CX1(P:Program)(w:World):CXT:=fun outer H s E e s'=>∃ ea C H',e = .ref ea/\s'.os=s.os/\AllBare s'.gens/\Un (frs outer) [] H H' s.heap s'.heap/\HOk P w H' s'.heap/\Fly C s.heap H' ea s'.heap/\E (.ref C) none H'
def aXy(X:Cx)(W:Addr->L2.St->Hp->Prop):Prop:=∀ (pins:List (Addr × Obj)) (σ:L2.St) (H:Hp) (s:Shared) (ea C:Addr) (H':Hp) (s':Shared),Inv X pins σ H s->s'.os=s.os->AllBare s'.gens->Un (frs X.stack) [] H H' s.heap s'.heap ->
 HOk X.prog X.w H' s'.heap->Fly C s.heap H' ea s'.heap->W C σ H'->X.xe (.ref ea) s'
theorem aQo{P:Program}{w:World}{K:PySem.W.Frag}{mg:Str->Option Value}{base:Heap}{N:List Str}{qual:Str}{scope:Scope}{f:Addr}{cd:Value}{A:Around}{outer:List Env}{s0:Shared}{H0:Hp}{E:XK} :
  aXy (zO (CX1 P w) P w K mg base N qual scope f cd A outer s0 H0 E) (fun C _ H'=>E (.ref C) none H'):=by
 intro pins σ H s ea C H' s' I hos hb un hok F hE
 have J:Inv _ pins σ H' s':=I.call' (ch:=[]) hos un hok hb fun _ z=>nomatch z
 have th0:∀ b o,s0.heap.get? b=some o->∃ o',s.heap.get? b=some o':=fun b o e=>I.base.there b o e (by intro z;cases z)
 have th1:∀ b o,s0.heap.get? b=some o->∃ o',s'.heap.get? b=some o':=fun b o e=>J.base.there b o e (by intro z;cases z)
 refine aNn (h0:=s0.heap) (L:=s0.heap.objs.size) J.ok.frames J.stack rfl th1 (aEu hok) (F.back th0) fun h' F' m=>?_
 refine ⟨ea,C,H',rfl,J.os,hb,?_,aNo hok m J.stkFree,F',hE⟩
 have nl:∀ b o,s0.heap.get? b=some o->b≠s0.heap.objs.size:=fun b o e=>Nat.ne_of_lt (Heap.lt_size e)
 have nf:∀ b o,s0.heap.get? b=some o->b ∉ frs outer->b ∉ frs (envOfC qual scope s0.heap.objs.size f cd :: outer):=fun b o e hn z=>by
  rcases List.mem_cons.mp (show b∈s0.heap.objs.size :: frs outer from z) with z | z
  ·exact nl b o e z
  ·exact hn z
 refine ⟨fun b o e n hb hx=>?_,fun b o e n hb hx=>?_,fun b o e n hx=>J.base.free b o e n (by intro z;cases z),fun b o e hx=>?_,J.base.tups,J.base.frzs,J.base.tbls⟩
 ·exact (m b o (J.base.keep b o e n hb (by intro z;cases z)) (.inl ⟨o,e⟩)).1 (nf b o e hb)
 ·obtain ⟨sl,e1⟩:=J.base.slot b o e n hb (by intro z;cases z)
  obtain ⟨sl2,e2⟩:=(m b _ e1 (.inl ⟨o,e⟩)).2
  exact ⟨sl2,e2⟩
 ·obtain ⟨o',e1⟩:=th1 b o e
  obtain ⟨sl2,e2⟩:=(m b _ e1 (.inl ⟨o,e⟩)).2
  exact ⟨_,e2⟩
theorem aQp{h h':Heap}{H:Hp}{e C:Addr}{vs:List Value}{P:Program}{w:World}(x:Heap.MadeExcOf h h' e (.ref C) vs)(hok:HOk P w H h):Fly C h H e h':=by
 obtain ⟨t,he,ht,_⟩:=x.there
 refine ⟨x.new,?_,_,_,_,he,rfl,rfl,rfl,.inl rfl⟩
 cases q:H e with
 | none=>rfl
 | some u=>obtain ⟨o,z⟩:=aEu hok e u q;rw [x.new] at z;cases z
section
variable{X:Cx}{e:Expr}{es:List Expr}{t:TA}{W:Addr->L2.St->Hp->Prop}
theorem aQq{c:String}{C:Addr}{tl:List Value}{np cpos pos:Pos}(hL:aXy X W)(hc:ExcAt X.K c C tl)(hm:X.mg (Str.ofString c)=some (.ref C))(hcalm:X.calm=true)(ha:PA X (e :: es) t)(hg:Gl X (Str.ofString c):=by rfl)(hdb:(Str.ofString c==("__debug__" : Str))=false:=by decide)
  (he:starEach (e :: es) X.env=(false,eval e X.env) :: starEach es X.env:=by rfl) (hpl:(backTo cpos (starEach es X.env)).any (·.1)=false:=by rfl) (hlen:(e :: es).length<=100:=by decide) :
  PS X (.Raise (some (.Call (.Name (Str.ofString c) np) (e :: es) [] cpos)) none pos) (fun _ σ H=>t σ H fun vs H'=>vs.length<=100/\W C σ H'):=by
 intro pins s σ H Dn I h
 obtain ⟨B,newId,initId,bmB,FB,hob⟩:=hc.ob
 obtain ⟨N,nm,q,bs,hdct,sn,sub,ab,col,dd,k0,k1,k2,k3,k5,mN,hC,hN,hni,T⟩:=hob X.base I.ok.mod.kin
 refine wpAny_Raise_call_subT (C:=C) (nm:=nm) (q:=q) (N:=N) (bs:=bs) (bm:=tl) (hdct:=hdct) (sn:=sn) (sub:=sub) (ab:=ab) (col:=col) (dd:=dd) (k0:=k0) (k1:=k1) (k2:=k2) (k3:=k3) (k5:=k5)
  FB (mN:=mN) (T.hasType FB.hasBase) (I.ok.hd hcalm) (by rw [he];show (false||(backTo cpos (starEach es X.env)).any (·.1))=false;rw [hpl];rfl) hni (xR I hg hm ⟨rfl,?_⟩ hdb)
 have hh:=ha cpos pins s σ H _ I h
 rw [he] at hh ⊢
 refine Calls.evalArgs_plain (thn hh fun us s2 ⟨vs,H2,I2,r2,hv,hw⟩=>⟨rfl,?_,I2.bk _ _ hC,hN.keeps I2.bk,T.keeps I2.bk,fun h' ea hx=>?_⟩)
 ·show us.length<=sizeLine
  rw [<-r2.length]
  exact Nat.le_trans hv (by decide)
 ·exact hL pins σ H2 s2 ea C H2 { s2 with heap:=h' } I2 rfl I2.bare (Un.kept hx.keeps) (I2.hok.kept hx.keeps) (aQp hx I2.hok) hw
end
end Pu
namespace Pu
open PySem PySem.Spec PyProof.Rows L2
section
variable{X:Cx}{pins:List (Addr × Obj)}{σ:L2.St}{H:Hp}{ea C:Addr}{s:Shared}
end
section
variable{M:Model}{A:Around}{E:Value->Shared->Prop}{nm q:Str}{C N:Addr}{bs bm:List Value}{hdct:Bool}{sn:List Str}{sub:List Value}{ab:Bool}{col:Option Bool}{dd:Option Addr}{k0 k1 k2 k3 k5:Option Value}{newId:String}
variable{nm' q':Str}{D' N':Addr}{bs' bm':List Value}{hdct':Bool}{sn':List Str}{sub':List Value}{ab':Bool}{col':Option Bool}{dd':Option Addr}{j0 j1 j2 j3 j5:Option Value}{newId':String}
end
section
variable{X:Cx}
end
end Pu
namespace Pu
open PySem PySem.Spec PyProof.Rows L2
abbrev XW:=D->L2.St->Hp->Prop
def Exc(K:PySem.W.Frag)(B A:List Addr)(H:Hp)(sm:Bool)(st:PSt)(x:D)(W:XW):Prop:=∀ A' st' σ' H',Le A H A' H'->RS K B A' H' st' σ'->(sm=true->st'=st)->W x σ' H'
theorem Exc.mono{K:PySem.W.Frag}{B A A1:List Addr}{H H1:Hp}{sm:Bool}{st:PSt}{x:D}{W:XW}(l:Le A H A1 H1)(h:Exc K B A H sm st x W):Exc K B A1 H1 sm st x W:=fun A' st' σ' H' l'=>h A' st' σ' H' (l.trans l')
theorem Exc.any{K:PySem.W.Frag}{B A:List Addr}{H:Hp}{sm:Bool}{st st2:PSt}{x:D}{W:XW}(h:Exc K B A H false st2 x W):Exc K B A H sm st x W:=fun A' st' σ' H' l r _=>h A' st' σ' H' l r fun z=>nomatch z
def Out(K:PySem.W.Frag)(B A:List Addr)(H:Hp)(sm:Bool)(st:PSt)(W:XW)(Dn:Ends)(r:R Fl):Prop:=match r with
 | .ok r=>aNd K B A H r Dn
 | .exc x=>Exc K B A H sm st x W
 | .bad=>False
theorem Out.mono{K:PySem.W.Frag}{B A A1:List Addr}{H H1:Hp}{sm:Bool}{st:PSt}{W:XW}{Dn:Ends}{r:R Fl}(l:Le A H A1 H1)(h:Out K B A H sm st W Dn r):Out K B A1 H1 sm st W Dn r:=by
 cases r with
 | ok r=>exact aNd.mono l h
 | exc x=>exact Exc.mono l h
 | bad=>exact h
theorem Out.any{K:PySem.W.Frag}{B A:List Addr}{H:Hp}{sm:Bool}{st st2:PSt}{W:XW}{Dn:Ends}{r:R Fl}(h:Out K B A H false st2 W Dn r):Out K B A H sm st W Dn r:=by
 cases r with
 | ok r=>exact h
 | exc x=>exact Exc.any h
 | bad=>exact h
def tSX(K:PySem.W.Frag)(B:List Addr)(sm:Bool)(W:XW)(b:Bd):TS:=fun Dn σ H=>∃ A st,RS K B A H st σ/\Out K B A H sm st W Dn (b st)
def tIX(K:PySem.W.Frag)(B:List Addr)(W:XW)(f:Ex):TE:=fun σ H Q=>∃ A st,RS K B A H st σ/\(match f st with
 | .ok d=>∀ v H',bA H H'->Rep K (hide (A++B) H') d v->Q v H'
 | .exc x=>∀ H',bA H H'->W x σ H'
 | .bad=>False)
def aIa(X:Cx)(W:XW):Prop:=aXy X fun C σ H'=>∃ c bm,ExcAt X.K c C bm/\W (.exn c [] []) σ H'
section
variable{X:Cx}{B:List Addr}{a b e o:Expr}{f g:Ex}{pos:Pos}{sm:Stmt}{rest:List Stmt}{bd bd':Bd}{W:XW}{s1 s2:Bool}
theorem oY(h:PS X sm (tSX X.K B s1 W bd)):PS X sm (tSX X.K B false W bd):=fC h fun Dn σ H ⟨A,st,rs,q⟩=>⟨A,st,rs,q.any⟩
theorem lK(h:PS X sm (tS X.K B bd)):PS X sm (tSX X.K B s1 W (sNX bd)):=fC h (by
 rintro Dn σ H ⟨A,st,rs,q⟩
 unfold sNX at q
 cases hb:bd st with
 | ok r=>rw [hb] at q;exact ⟨A,st,r,rs,hb,q⟩
 | exc x=>rw [hb] at q;exact q.elim
 | bad=>rw [hb] at q;exact q.elim)
theorem aIb:PSs X [] (tSX X.K B s1 W dN):=vI aKg (by
 rintro Dn σ H ⟨A,st,rs,q⟩
 exact q A σ H Le.refl rs)
theorem tD(h1:PS X sm (tSX X.K B s1 W bd)):PSs X [sm] (tSX X.K B s1 W bd):=aF2 h1
theorem iJ(h1:PS X sm (tSX X.K B s1 W bd))(h2:PSs X rest (tSX X.K B s2 W bd')):PSs X (sm :: rest) (tSX X.K B false W (bU bd bd')):=by
 refine vI (aBj h1 h2) ?_
 rintro Dn σ H ⟨A,st,rs,q⟩
 refine ⟨A,st,rs,?_⟩
 unfold bU aDg at q
 cases hb:bd st with
 | ok r =>
  rw [hb] at q
  cases r with
  | nx s1=>exact fun A' σ' H' l rs'=>⟨A',s1,rs',(q.mono l).any⟩
  | rt d=>exact q
  | bk s1=>exact q
  | ct s1=>exact q
 | exc x=>rw [hb] at q;exact Exc.any q
 | bad=>rw [hb] at q;exact q
theorem aQr{c:Expr}{t:Ex}{x y:List Stmt}(hc:PT X c (tT X.K B t))(ha:PSs X x (tSX X.K B s1 W bd))(hb:PSs X y (tSX X.K B s1 W bd')):PS X (.If c x y pos) (tSX X.K B s1 W (sIf (eNX t) bd bd')):=fC (aTw hc ha hb) (by
 rintro Dn σ H ⟨A,st,rs,q⟩
 unfold sIf eNX at q
 cases ht:t st with
 | exc x=>rw [ht] at q;exact q.elim
 | bad=>rw [ht] at q;exact q.elim
 | ok d =>
  rw [ht] at q
  cases d<;>first | exact q.elim | skip
  rename_i k
  refine ⟨A,st,k,rs,ht,fun H1 s1=>?_⟩
  cases k with
  | true=>exact ⟨A,st,rs.mono s1,Out.mono (Le.of s1) q⟩
  | false=>exact ⟨A,st,rs.mono s1,Out.mono (Le.of s1) q⟩)
theorem bBf(h:PE X e (tIX X.K B W f))(hs:swapsWith e none pos.line X.env=pure false:=by rfl):PS X (.Expr e pos) (tSX X.K B true W (aMx f)):=fC (aF3 h hs) (by
 rintro Dn σ H ⟨A,st,rs,q⟩
 refine ⟨A,st,rs,?_⟩
 unfold aMx at q
 cases hf:f st with
 | ok d=>rw [hf] at q;exact fun v H' s _=>q A σ H' (Le.of s) (rs.mono s)
 | exc x=>rw [hf] at q;exact fun H' s=>q A st σ H' (Le.of s) (rs.mono s) fun _=>rfl
 | bad=>rw [hf] at q;exact q)
theorem aV5(h:PE X e (tIX X.K B W f)):PS X (.Return (some e) pos) (tSX X.K B true W (cY f)):=fC (aIq h) (by
 rintro Dn σ H ⟨A,st,rs,q⟩
 refine ⟨A,st,rs,?_⟩
 unfold cY at q
 cases hf:f st with
 | ok d=>rw [hf] at q;exact fun v H' s r=>q A v H' (Le.of s) r
 | exc x=>rw [hf] at q;exact fun H' s=>q A st σ H' (Le.of s) (rs.mono s) fun _=>rfl
 | bad=>rw [hf] at q;exact q)
theorem aV6(i:Nat){x:Str}{pos':Pos}(he:PE X e (tIX X.K B W f))(hN:X.N.Nodup)(hi:X.N[i]?=some x:=by rfl)(hx:Loc X.env.scope x:=by first | exact Or.inl rfl | exact Or.inr rfl)(hs:swapsWith e (some (.Name x pos')) pos.line X.env=pure false:=by rfl)
  (hf:X.fn x=true\/X.env.scope.names.lookup x=some .local:=by first | exact .inl rfl | exact .inr rfl | assumption):PS X (.Assign [.Name x pos'] e pos) (tSX X.K B true W (eF i f)):=fC (aBk hN hi hx he hs hf) (by
 rintro Dn σ H ⟨A,st,rs,q⟩
 refine ⟨A,st,rs,?_⟩
 unfold eF at q
 cases hf:f st with
 | ok d=>rw [hf] at q;exact fun v H' s r=>q A _ H' (Le.of s) ((rs.mono s).set i r)
 | exc x=>rw [hf] at q;exact fun H' s=>q A st σ H' (Le.of s) (rs.mono s) fun _=>rfl
 | bad=>rw [hf] at q;exact q)
theorem x_raise{c:String}{C:Addr}{tl:List Value}{es:List Expr}{r:Exs}{np cpos:Pos}(hL:aIa X W)(hc:ExcAt X.K c C tl)(hm:X.mg (Str.ofString c)=some (.ref C))(hcalm:X.calm=true)(ha:PA X (e :: es) (tA X.K B r))(hg:Gl X (Str.ofString c):=by rfl)(hdb:(Str.ofString c==("__debug__" : Str))=false:=by decide)
  (he:starEach (e :: es) X.env=(false,eval e X.env) :: starEach es X.env:=by rfl) (hpl:(backTo cpos (starEach es X.env)).any (·.1)=false:=by rfl) (hlen:(e :: es).length<=100:=by decide) :
  PS X (.Raise (some (.Call (.Name (Str.ofString c) np) (e :: es) [] cpos)) none pos) (tSX X.K B true W (qF c r)):=by
 refine fC (aQq hL hc hm hcalm ha hg hdb he hpl hlen) ?_
 rintro Dn σ H ⟨A,st,rs,q⟩
 unfold qF at q
 cases hr:r st with
 | exc x=>rw [hr] at q;exact q.elim
 | bad=>rw [hr] at q;exact q.elim
 | ok ds =>
  rw [hr] at q
  by_cases hl:ds.length<=100
  ·refine ⟨A,st,ds,rs,hr,fun vs H1 s1 r1=>⟨by rw [r1.length];exact hl,c,tl,hc,?_⟩⟩
   have q':Out X.K B A H true st W Dn (aH (ds.length<=100) (.exc (.exn c [] []))):=q
   rw [aG hl] at q'
   exact q' A st σ H1 (Le.of s1) (rs.mono s1) fun _=>rfl
  ·have q':Out X.K B A H true st W Dn (aH (ds.length<=100) (.exc (.exn c [] []))):=q
   rw [show aH (ds.length<=100) (R.exc (α:=Fl) (.exn c [] [])) = .bad from if_neg hl] at q'
   exact q'.elim
end
end Pu
namespace Pu
open PySem PySem.Spec PyProof.Rows L2
def spE(K:PySem.W.Frag)(np:Nat)(p:List D->R D):Sp:=fun vs H Q E=>∃ A ds,Own A H/\bL K (hide A H) ds vs/\ds.length=np/\(match p ds with
 | .ok d=>∀ v H',bA H H'->Rep K (hide A H') d v->Q v H'
 | .exc x=>∀ C c bm H',x = .exn c [] []->ExcAt K c C bm->bA H H'->E (.ref C) none H'
 | .bad=>False)
theorem aK3{P:Program}{w:World}{K:PySem.W.Frag}{mg:Str->Option Value}{base:Heap}{x qual:Str}{st:Stmt}{f:Addr}{fd:FuncData}{N ps:List Str}{k:Nat}{sm:Bool}{dV:Value}(F:FunD K x qual st dV f fd)(S:FnScope N ps (aF st))(np n:Nat)(bd:Bd)(hnp:ps.length=np)(hn:N.length=n)
  (hb:∀ (cdv:Value) (A:Around) (outer:List Env) (s:Shared) (H:Hp) (E:XK) (B:List Addr) (W:XW),Room k (A.deeper (envOfC qual (aF st) s.heap.objs.size f cdv)) ->
   aIa (zO (CX1 P w) P w K mg base N qual (aF st) f cdv A outer s H E) W->PSs (zO (CX1 P w) P w K mg base N qual (aF st) f cdv A outer s H E) (bD st) (tSX K B sm W bd)):FnOk P w K mg base (CX1 P w) (k+1) f fd ps (spE K np (dJ np n bd)):=by
 obtain ⟨oc,od,kV,doc,pm,an,cdv,ct,osl,rfl,lk,hcd⟩:=F.ex
 refine aOg lk hcd S (fun vs H Q E h=>?_) fun A outer s H vs Q E hr h=>?_
 ·obtain ⟨A,ds,own,r,hl,_⟩:=h
  rw [r.length,hl,hnp]
 ·obtain ⟨B,ds,own,r,hl,q⟩:=h
  let W:XW:=fun x _ H'=>∀ C c bm,x = .exn c [] []->ExcAt K c C bm->E (.ref C) none H'
  refine ⟨tSX K B sm W bd,hb cdv A outer s H E B W hr ?_,?_⟩
  ·intro pins σ H1 s1 ea C H' s' I h1 h2 h3 h4 h5 ⟨c,bm,hc,hw⟩
   exact aQo pins σ H1 s1 ea C H' s' I h1 h2 h3 h4 h5 (hw C c bm rfl hc)
  ·have rs:=aCt (N:=N) own r
   rw [hl,hn] at rs
   refine ⟨[],_,rs,?_⟩
   have fin:∀ {A':List Addr} {H':Hp},Le [] H A' H'->bA H H':=fun {A' H'} l=>by
    unfold Le at l
    rw [uW] at l
    exact l.trans (bN _ _)
   unfold dJ at q
   rw [aG hl] at q
   cases hfl:bd (ds.map (fun d=>some (Sl.v d))++List.replicate (n - np) none) with
   | ok fl =>
    rw [hfl] at q
    cases fl with
    | nx s1=>exact fun A' σ' H' l rs'=>q _ H' (fin l) (cC.mpr rfl)
    | rt d'=>exact fun A' v H' l rv=>q v H' (fin l) (rv.mono (iV fun a ha=>List.mem_append_right _ ha))
    | bk s1=>exact q.elim
    | ct s1=>exact q.elim
   | exc x =>
    rw [hfl] at q
    exact fun A' st' σ' H' l rs' _ C c bm e hc=>q C c bm H' e hc (fin l)
   | bad=>rw [hfl] at q;exact q
theorem aM6{P:Program}{w:World}{K:PySem.W.Frag}{mg:Str->Option Value}{base:Heap}{k np:Nat}{f:Addr}{fd:FuncData}{ps:List Str}{p:List D->R D}(F:FnOk P w K mg base (CX1 P w) k f fd ps (spE K np p)):FnOk P w K mg base CX0 k f fd ps (spI K np (pNX p)):=by
 have up:∀ vs H Q E,spI K np (pNX p) vs H Q E->spE K np p vs H Q E0:=by
  rintro vs H Q E ⟨A,ds,d,own,r,hl,hp,q⟩
  refine ⟨A,ds,own,r,hl,?_⟩
  rw [R.nox_ok hp]
  exact q
 refine ⟨fun vs H Q E h=>F.len vs H Q E0 (up vs H Q E h),fun A outer s H args us vs Q E hr e0 hb hv h=>?_⟩
 refine codeAny_mono (F.run A outer s H args us vs Q E0 hr e0 hb hv (up vs H Q E h)) fun r s' z=>?_
 cases r with
 | error e=>obtain ⟨_,_,_,_,_,_,_,_,_,hE⟩:=z;exact hE.elim
 | ok fl=>cases fl<;>exact z
structure DefOkX(P:Program)(w:World)(K:PySem.W.Frag)(mg:Str->Option Value)(base:Heap)(x:Str)(k np:Nat)(p:List D->R D):Prop where
 ex:∃ (fa:Addr) (fd:FuncData) (ps:List Str),FnOk P w K mg base (CX1 P w) k fa fd ps (spE K np p)/\mg x=some (.ref fa)/\PySem.W.keepIn K (.ref fa)=true/\Binds K fd ps []
 len:∀ ds,p ds ≠ .bad->ds.length=np
theorem aEv{np n:Nat}{bd:Bd}(ds:List D)(h:dJ np n bd ds ≠ .bad):ds.length=np:=by
 by_cases hl:ds.length=np
 ·exact hl
 ·exact (h (if_neg hl)).elim
theorem DefOkX.of{P:Program}{w:World}{K:PySem.W.Frag}{mg:Str->Option Value}{base:Heap}{x:Str}{k np n:Nat}{bd:Bd}{fa:Addr}{fd:FuncData}{ps:List Str}(h:FnOk P w K mg base (CX1 P w) k fa fd ps (spE K np (dJ np n bd)))(m:mg x=some (.ref fa))
  (kp:PySem.W.keepIn K (.ref fa)=true) (b:Binds K fd ps []):DefOkX P w K mg base x k np (dJ np n bd):=⟨⟨fa,fd,ps,h,m,kp,b⟩,aEv⟩
theorem DefOkX.calm{P:Program}{w:World}{K:PySem.W.Frag}{mg:Str->Option Value}{base:Heap}{x:Str}{k np:Nat}{p:List D->R D}(h:DefOkX P w K mg base x k np p):DefOk P w K mg base x k np (pNX p):=by
 obtain ⟨fa,fd,ps,F,m,kp,b⟩:=h.ex
 refine ⟨⟨fa,fd,ps,aM6 F,m,kp,b⟩,fun ds d e=>h.len ds fun z=>?_⟩
 rw [R.nox_ok e] at z
 cases z
section
variable{X:Cx}{B:List Addr}{a b e o:Expr}{f g:Ex}{pos:Pos}{W:XW}
theorem aM7{CX:CXT}{k:Nat}{fa:Addr}{fd:FuncData}{ps:List Str}{sp:Sp}{dvs:List V}{ds:List Value}{E:XK}{pins:List (Addr × Obj)}{σ:L2.St}{H:Hp}{s:Shared}{Q:VK}{us:List Value}{vs:List V}(F:FnOk X.prog X.w X.K X.mg X.base CX k fa fd ps sp)(hr:Room k X.A)(hb:Binds X.K fd ps ds)(hd:Vals dvs ds)
  (I:Inv X pins σ H s) (r:Vals vs us) (hx:∀ e s',CX X.stack H s E e s'->X.xe e s') (h:sp (vs++dvs) H Q E):wpAny (model X.prog X.w) X.A (call (.ref fa) us) (EP X pins σ Q) X.xe s:=by
 have r2:Vals (vs++dvs) (us++ds):=r.append hd
 have hl:(us++ds).length=ps.length:=by rw [<-r2.length];exact F.len _ _ _ _ h
 refine wpAny_call (codeAny_mono (F.run X.A X.stack s H ⟨us,[]⟩ (us++ds) (vs++dvs) Q E hr I.env0 (hb s us I.kIn hl) r2 h) fun r s' hq=>?_)
 cases r with
 | error e=>exact hx e s' hq
 | ok fl =>
  cases fl with
  | ret u=>exact I.after hq
  | next=>exact False.elim hq
  | brk=>exact False.elim hq
  | cont=>exact False.elim hq
def EW(X:Cx)(W:XW)(σ:L2.St):XK:=fun cv _ H'=>∃ C c bm,cv = .ref C/\ExcAt X.K c C bm/\W (.exn c [] []) σ H'
theorem bBg{pins:List (Addr × Obj)}{σ:L2.St}{H:Hp}{s:Shared}(hL:aIa X W)(I:Inv X pins σ H s)(e:Value)(s':Shared)(h:CX1 X.prog X.w X.stack H s (EW X W σ) e s'):X.xe e s':=by
 obtain ⟨ea,C,H',rfl,os,bare,un,hok,F,C',c,bm,e1,hc,hw⟩:=h
 cases e1
 exact hL pins σ H s ea C H' s' I os bare un hok F ⟨c,bm,hc,hw⟩
theorem aM8{x:Str}{k j np:Nat}{p:List D->R D}{es:List Expr}{r:Exs}{p0:Pos}(h:DefOkX X.prog X.w X.K X.mg X.base x k np p)(hL:aIa X W)(hr:Room j X.A)(hk:k<=j)(ha:PA X (e :: es) (tA X.K B r))(hg:Gl X x:=by rfl)(hdb:(x==("__debug__" : Str))=false:=by decide)
  (he:starEach (e :: es) X.env=(false,eval e X.env) :: starEach es X.env:=by rfl) (hpl:(backTo pos (starEach es X.env)).any (·.1)=false:=by rfl):PE X (.Call (.Name x p0) (e :: es) [] pos) (tIX X.K B W (zU p r)):=by
 obtain ⟨fa,fd,ps,F,m,kp,bd⟩:=h.ex
 intro pins s σ H Q I ⟨A,st,rs,q⟩
 unfold zU at q
 cases hr':r st with
 | exc x=>rw [hr'] at q;exact q.elim
 | bad=>rw [hr'] at q;exact q.elim
 | ok xs =>
  rw [hr'] at q
  refine wpAny_Call_Name_kw (xR I hg m ?_ hdb)
  refine PySem.W.callWith_K (h₀:=X.base) I.ok.mod.kin kp (thn (ha pos pins s σ H (fun vs H1=>bA H H1/\bL X.K (hide (A++B) H1) xs vs) I ⟨A,st,xs,rs,hr',fun vs H1 s1 r1=>⟨s1,r1⟩⟩) fun us s1 ⟨vs,H1,I1,rv,sm,rp⟩=>⟨I1.kIn,?_⟩) he hpl
  refine aM7 (dvs:=[]) (E:=EW X W σ) F (hr.mono hk) bd .nil I1 rv (bBg hL I1) ?_
  rw [List.append_nil]
  have q':(match p xs with
   | .ok d=>∀ v H',bA H H'->Rep X.K (hide (A++B) H') d v->Q v H'
   | .exc x=>∀ H',bA H H'->W x σ H'
   | .bad=>False):=q
  refine ⟨A++B,xs,rs.own.mono sm,rp,h.len xs fun z=>?_,?_⟩
  ·rw [z] at q';exact q'
  ·cases hp:p xs with
   | ok d=>rw [hp] at q';exact fun v H' s' r'=>q' v H' (sm.trans s') r'
   | exc x=>rw [hp] at q';exact fun C c bm H' e1 hc s'=>⟨C,c,bm,rfl,hc,by rw [<-e1];exact q' H' (sm.trans s')⟩
   | bad=>rw [hp] at q';exact q'
structure MethOkX(P:Program)(w:World)(K:PySem.W.Frag)(mg:Str->Option Value)(base:Heap)(c m:String)(k np:Nat)(dv:List D)(p:List D->R D):Prop where
 ex:∃ (C fa:Addr) (fd:FuncData) (ps:List Str) (dvs:List V) (ds:List Value),ClsAt K c C/\Meth K C (Str.ofString m) fa/\FnOk P w K mg base (CX1 P w) k fa fd ps (spE K np p)/\Binds K fd ps ds/\Vals dvs ds/\∀ H,bL K H dv dvs
 len:∀ ds,p ds ≠ .bad->ds.length=np
theorem MethOkX.calm{P:Program}{w:World}{K:PySem.W.Frag}{mg:Str->Option Value}{base:Heap}{c m:String}{k np:Nat}{dv:List D}{p:List D->R D}(h:MethOkX P w K mg base c m k np dv p):MethOk P w K mg base c m k np dv (pNX p):=by
 obtain ⟨C,fa,fd,ps,dvs,ds,hc,hm,F,bd,vd,rd⟩:=h.ex
 refine ⟨⟨C,fa,fd,ps,dvs,ds,hc,hm,aM6 F,bd,vd,rd⟩,fun ds d e=>h.len ds fun z=>?_⟩
 rw [R.nox_ok e] at z
 cases z
theorem aGa{c m:String}{k j np:Nat}{dv:List D}{p:List D->R D}{es:List Expr}{r:Exs}{apos:Pos}{pl:Sem Bool}(h:MethOkX X.prog X.w X.K X.mg X.base c m k np dv p)(hL:aIa X W)(hr:Room j X.A)(hk:k<=j)(ho:PE X o (tI X.K B f))(ha:PA X (e :: es) (tA X.K B r))
  (hst:starEach (e :: es) X.env=(false,eval e X.env) :: starEach es X.env:=by rfl) (hpl:(backTo pos (starEach es X.env)).any (·.1)=false:=by rfl)
  (ht:eval (.Call (.Attribute o (Str.ofString m) apos) (e :: es) [] pos) X.env=(do
   let ov <- eval o X.env
   standAt apos.atName
   let (f,first) <- holding [ov] (getMethod ov (Str.ofString m) pl)
   callWith pos f first (backTo pos (starEach (e :: es) X.env)) (backToKw pos (keywordEach [] X.env))):=by rfl) :
  PE X (.Call (.Attribute o (Str.ofString m) apos) (e :: es) [] pos) (tIX X.K B W (rN c m p dv f r)):=by
 obtain ⟨C,fa,fd,ps,dvs,ds,hc,hm,F,bd,vd,rd⟩:=h.ex
 intro pins s σ H Q I ⟨A,st,rs,q⟩
 unfold rN at q
 cases hf:f st with
 | exc x=>rw [hf] at q;exact q.elim
 | bad=>rw [hf] at q;exact q.elim
 | ok x =>
  rw [hf] at q
  cases hr':r st with
  | exc y=>rw [hr'] at q;exact q.elim
  | bad=>rw [hr'] at q;exact q.elim
  | ok xs =>
   rw [hr'] at q
   cases x<;>first | exact q.elim | skip
   rename_i c' ns fs0
   by_cases hg:c'=c/\m ∉ ns
   ·have q':(match aH (c'=c/\m ∉ ns) (p (.ins c' ns fs0 :: (xs++dv))) with
     | .ok d=>∀ v H',bA H H'->Rep X.K (hide (A++B) H') d v->Q v H'
     | .exc x=>∀ H',bA H H'->W x σ H'
     | .bad=>False):=q
    rw [aG hg] at q'
    obtain ⟨rfl,hn⟩:=hg
    refine PySem.W.methodCall_KW (pl:=pl) (thn (ho pins s σ H (fun v H1=>bA H H1/\Rep X.K (hide (A++B) H1) (.ins c' ns fs0) v) I ⟨A,st,_,rs,hf,fun v H1 s1 r1=>⟨s1,r1⟩⟩) fun u s1 ⟨y,H1,I1,rx,sm1,ry⟩=>?_) ht
    obtain ⟨p',C',dx,fs,e2,h5,h6,h7,h8⟩:=lG.ins (.inl ry)
    have:C'=C:=by have z:=h6.symm.trans hc.ns;injection z with z;injection z with z;injection z
    subst this
    subst e2
    obtain rfl:u=Value.ref p':=rx
    refine aBl I1 h5 hc.cl hm (lookup_none h7 hn) ?_
    refine PySem.W.callWith_K (first:=[.ref p']) (h₀:=X.base) I.ok.mod.kin hm.kp (thn (ha pos pins s1 σ H1 (fun vs H2=>bA H1 H2/\bL X.K (hide (A++B) H2) xs vs) I1 ⟨A,st,xs,rs.mono sm1,hr',fun vs H2 s2 r2=>⟨s2,r2⟩⟩) fun us s2 ⟨vs,H2,I2,rv,sm2,rp⟩=>⟨I2.kIn,?_⟩) hst hpl
    refine aM7 (us := .ref p' :: us) (vs := .ref p' :: vs) (E:=EW X W σ) F (hr.mono hk) bd vd I2 (.cons rfl rv) (bBg hL I2) ?_
    have sm:=sm1.trans sm2
    refine ⟨A++B,_,rs.own.mono sm,.cons (ry.mono (bA.hide sm2)) (rp.append (rd _)),h.len _ fun z=>?_,?_⟩
    ·rw [z] at q';exact q'
    ·cases hp:p (.ins c' ns fs0 :: (xs++dv)) with
     | ok d=>rw [hp] at q';exact fun v H' s' r'=>q' v H' (sm.trans s') r'
     | exc x=>rw [hp] at q';exact fun C c bm H' e1 hc s'=>⟨C,c,bm,rfl,hc,by rw [<-e1];exact q' H' (sm.trans s')⟩
     | bad=>rw [hp] at q';exact q'
   ·have q':(match aH (c'=c/\m ∉ ns) (p (.ins c' ns fs0 :: (xs++dv))) with
     | .ok d=>∀ v H',bA H H'->Rep X.K (hide (A++B) H') d v->Q v H'
     | .exc x=>∀ H',bA H H'->W x σ H'
     | .bad=>False):=q
    rw [show aH (c'=c/\m ∉ ns) (p (.ins c' ns fs0 :: (xs++dv))) = .bad from if_neg hg] at q'
    exact q'.elim
theorem MethOkX.of{P:Program}{w:World}{K:PySem.W.Frag}{mg:Str->Option Value}{base:Heap}{f:Addr}{fd:FuncData}{ps:List Str}{k:Nat}{c m:String}{C:Addr}{np n:Nat}{dv:List D}{bd:Bd}{ds:List Value}{dvs:List V}(hc:ClsAt K c C)(hm:Meth K C (Str.ofString m) f)(F:FnOk P w K mg base (CX1 P w) k f fd ps (spE K np (dJ np n bd)))(b:Binds K fd ps ds)(v:Vals dvs ds)(r:∀ H,bL K H dv dvs):MethOkX P w K mg base c m k np dv (dJ np n bd) :=
 ⟨⟨C,f,fd,ps,dvs,ds,hc,hm,F,b,v,r⟩,aEv⟩
end
end Pu
namespace Pu
open PySem PySem.Spec PyProof.Rows L2
section
variable{X:Cx}{B:List Addr}{a b:Expr}{f g:Ex}{pos:Pos}{W:XW}
theorem bBh(hu:X.A.units+64 < cLine)(ha:PE X a (tIX X.K B W f))(hb:PE X b (tP X.K B g))(hs:aF8 b:=by intro _ _;rfl):PE X (.Subscript a b pos) (tIX X.K B W (e2X dIx f g)):=by
 refine cI (aTz (aOh.or (aLt hu)) ha hb hs) ?_
 rintro σ H Q ⟨A,st,rs,q⟩
 unfold e2X at q
 refine ⟨A,st,rs,?_⟩
 cases hf:f st with
 | bad=>rw [hf] at q;exact q
 | exc x=>rw [hf] at q;exact q
 | ok x =>
  rw [hf] at q
  intro v H1 s1 r1
  cases hg:g st with
  | bad=>rw [hg] at q;exact q.elim
  | exc y=>rw [hg] at q;exact q.elim
  | ok y =>
   rw [hg] at q
   refine ⟨A,st,y,rs.mono s1,hg,fun u H2 s2 r2=>?_⟩
   cases ho:dIx x y with
   | bad =>
    have q':(match (dIx x y).nox with
     | .ok d=>∀ v H',bA H H'->Rep X.K (hide (A++B) H') d v->Q v H'
     | .exc x=>∀ H',bA H H'->W x σ H'
     | .bad=>False):=q
    rw [ho] at q';exact q'.elim
   | exc z =>
    have q':(match (dIx x y).nox with
     | .ok d=>∀ v H',bA H H'->Rep X.K (hide (A++B) H') d v->Q v H'
     | .exc x=>∀ H',bA H H'->W x σ H'
     | .bad=>False):=q
    rw [ho] at q';exact q'.elim
   | ok d =>
    have q':(match (dIx x y).nox with
     | .ok d=>∀ v H',bA H H'->Rep X.K (hide (A++B) H') d v->Q v H'
     | .exc x=>∀ H',bA H H'->W x σ H'
     | .bad=>False):=q
    rw [ho] at q'
    exact aLu (A++B) H2 x y d v u Q (rs.own.mono (s1.trans s2)) (.inl (r1.mono (bA.hide s2))) r2 ho fun w H' s' r'=>q' w H' (s1.trans (s2.trans s')) r'
end
end Pu
namespace Pu
open PySem PySem.Spec PyProof.Rows L2 PySem.Calls Builtin Builtin.ObjectAttr Builtin.Getset_descriptor
section
variable{prog:Program}{w:World}{A:Around}{E:Value->Shared->Prop}{s:Shared}{K:PySem.W.Frag}{x C:Addr}
end
section
variable{X:Cx}{B:List Addr}{a:Expr}{es:List Expr}{f:Ex}{pos:Pos}
end
section
variable{X:Cx}{B:List Addr}{pins:List (Addr × Obj)}{σ:L2.St}{H:Hp}{s:Shared}{ea C:Addr}
end
end Pu
namespace Pu
open PySem PySem.Spec PyProof.Rows L2
section
variable{K:PySem.W.Frag}{h:Heap}{c:String}{C D':Addr}{bmB:List Value}{B newId initId:String}
theorem yV(F:ExcBaseFacts B newId initId bmB)(a:PySem.W.nsIn K mainGlobals (Str.ofString c)=some (some (.ref C)))(q:PySem.W.excIn K C bmB newId=true)(g1:PySem.W.findIn K (.ref C) "__getattribute__" = some (some (.builtin "BaseException.__getattribute__")))(g6:PySem.W.findIn K (.ref C) "__getattr__" = some none)(g7:PySem.W.mroIn K C (.type "BaseException")=some true)(g2:PySem.W.findIn K (.ref C) "__class__" = some (some (.builtin "object.__class__")))
  (g3:PySem.W.specialIn K (.builtin "object.__class__") "__get__" = some (some (.builtin "getset_descriptor.__get__"))) (g4:PySem.W.takesIn K (.builtin "object.__class__")=some true) (g5:PySem.W.mroIn K C (.type "object")=some true):∃ bm,ExcAt K c C bm:=by
 have cl:(PySem.W.clsIn K C).isSome=true:=by
  unfold PySem.W.mroIn at g5
  cases e:PySem.W.clsIn K C with
  | none=>rw [e] at g5;cases g5
  | some cd=>rfl
 have ic:ExcCl K C:=⟨g1,g6,g7,cl,g2,g3,g4,g5⟩
 unfold PySem.W.excIn at q
 split at q
 ·rename_i dd cd sl ho
  split at q
  ·rename_i C' bm k0 k1 k2 k3 n k5 hm hsl
   simp only [Bool.not_eq_true',beq_iff_eq,Bool.and_eq_true] at q
   obtain ⟨⟨⟨⟨⟨e1,e2⟩,e3⟩,e4⟩,e5⟩,e6⟩:=q
   refine ⟨bm,a,⟨B,newId,initId,bmB,F,fun h kin=>?_⟩,ic⟩
   obtain ⟨nm,bs,mro,ns,qn,hd,sn,sub,ab,col,del⟩:=cd
   dsimp only at hm e3 e5 e6
   have hsl':sl = #[k0,k1,k2,k3,some (.builtin n),k5]:=by rw [<-Array.toArray_toList (xs:=sl),hsl]
   subst hsl'
   subst e1 e2 e3 hm
   exact ⟨ns,nm,qn,bs,hd,sn,sub,ab,col,dd,k0,k1,k2,k3,k5,h.nsMap ns,kin _ _ ho,.of_isNs (PySem.W.isNs_of_in kin e5),PySem.W.nsMap_none_of_in kin e5 e6,PySem.W.tail_of_in kin e4⟩
  ·cases q
 ·cases q
end
section
variable{P:Program}{w:World}{K:PySem.W.Frag}{mg:Str->Option Value}{base:Heap}{f:Addr}{fd:FuncData}{ps:List Str}{k:Nat}
theorem MakeOk.of{c:String}{C:Addr}{np n:Nat}{bd:Bd}(hc:ClsAt K c C)(hm:Mk K C f)(F:FnOk P w K mg base CX0 k f fd ps (spM K c np (aFe c np n bd)))(b:Binds K fd ps [])(m:mg (Str.ofString c)=some (.ref C)):MakeOk P w K mg base c k np (aFe c np n bd) :=
 ⟨⟨C,f,fd,ps,hc,hm,F,b,m⟩,aQl⟩
end
section
variable{α:Type}{P:List α->Prop}
theorem aTl(h:P [])(us:List α)(hl:us.length=0):P us:=by rw [List.length_eq_zero_iff.mp hl];exact h
theorem yW{n:Nat}(h:∀ a us,us.length=n->P (a :: us))(us:List α)(hl:us.length=n+1):P us:=by
 cases us with
 | nil=>cases hl
 | cons a us=>exact h a us (Nat.succ.inj hl)
theorem pP(h:∀ a,P [a])(us:List α)(hl:us.length=1):P us:=yW (fun a=>aTl (h a)) us hl
theorem eZ(h:∀ a b,P [a,b])(us:List α)(hl:us.length=2):P us:=yW (fun a=>pP (P:=fun us=>P (a :: us)) (h a)) us hl
theorem jL(h:∀ a b c,P [a,b,c])(us:List α)(hl:us.length=3):P us:=yW (fun a=>eZ (P:=fun us=>P (a :: us)) (h a)) us hl
theorem aBh(h:∀ a b c d,P [a,b,c,d])(us:List α)(hl:us.length=4):P us:=yW (fun a=>jL (P:=fun us=>P (a :: us)) (h a)) us hl
theorem aTm(h:∀ a b c d e,P [a,b,c,d,e])(us:List α)(hl:us.length=5):P us:=yW (fun a=>aBh (P:=fun us=>P (a :: us)) (h a)) us hl
end
end Pu
namespace Pu
open PySem PySem.Spec PyProof.Rows L2
section
variable{X:Cx}{B:List Addr}{a b e o:Expr}{es:List Expr}{f g:Ex}{r:Exs}{pos cpos apos:Pos}
end
end Pu
namespace Pu
open PySem PySem.Spec PyProof.Rows L2
def Inn(K:PySem.W.Frag)(G H:Hp):List (List D)->List Addr->Prop
 | [],ps=>ps=[]
 | xs :: xss,ps=>∃ p r vs,ps=p :: r/\H p=some (.lst vs)/\bL K G xs vs/\Inn K G H xss r
section
variable{X:Cx}{B:List Addr}{a b e o:Expr}{f g:Ex}{pos:Pos}{sm:Stmt}{rest:List Stmt}{i:Nat}{na nb:NB}{bd:Bd}
end
end Pu
namespace Pu
open PySem PySem.Spec PyProof.Rows L2
def tSF(K:PySem.W.Frag)(B:List Addr)(i:Nat)(b:Bd):TS:=fun Dn σ H=>∃ A st st' xs,RS K B A H st σ/\b st = .ok (.nx st')/\st'[i]?=some (some (.o .l xs))/\∀ A' a vs H',Le A H A' H'->a∈A'->H' a=some (.lst vs)->bL K (hide (A'++B) H') xs vs->Dn.rt (.ref a) H'
def spF(K:PySem.W.Frag)(np:Nat)(p:List D->R D):Sp:=fun vs H Q _=>∃ A ds xs,Own A H/\bL K (hide A H) ds vs/\ds.length=np/\p ds = .ok (.lst xs)/\∀ a ws H',bA H H'->H a=none->H' a=some (.lst ws)->bL K (hide (a :: A) H') xs ws->Q (.ref a) H'
section
variable{X:Cx}{B:List Addr}{e o:Expr}{f g:Ex}{pos:Pos}{sm:Stmt}{rest:List Stmt}{bd bd':Bd}{i:Nat}
theorem aM9(h1:PS X sm (tS X.K B bd))(h2:PSs X rest (tSF X.K B i bd')):PSs X (sm :: rest) (tSF X.K B i (bU bd bd')):=vI (aBj h1 h2) (by
 rintro Dn σ H ⟨A,st,st',xs,rs,hb,hi,q⟩
 unfold bU aDg at hb
 obtain ⟨fl,hfl,h3⟩:=R.ok_of hb
 refine ⟨A,st,fl,rs,hfl,?_⟩
 cases fl with
 | nx s1=>exact fun A' σ' H' l rs'=>⟨A',s1,st',xs,rs',h3,hi,fun A2 a vs H2 l2=>q A2 a vs H2 (l.trans l2)⟩
 | rt d=>cases h3
 | bk s1=>cases h3
 | ct s1=>cases h3)
theorem aXz{x:Str}{p1:Pos}(hN:X.N[i]?=some x:=by rfl)(hv:Vis X.env.scope x:=by first | exact Or.inl rfl | exact Or.inr (Or.inl rfl) | exact Or.inr (Or.inr rfl))(hd:(x==("__debug__" : Str))=false:=by decide)(hcd:(x==("__classdict__" : Str))=false:=by decide) :
  PSs X [.Return (some (.Name x p1)) pos] (tSF X.K B i dN):=vI (aF2 (aIq (tW hN hv hd hcd))) (by
 rintro Dn σ H ⟨A,st,st',xs,rs,hb,hi,q⟩
 cases hb
 obtain ⟨a,o,vs,e1,m,h1,ko,r,_⟩:=rs.lst i .l xs hi
 have eo:o = .lst vs:=ko
 subst eo
 exact ⟨.ref a,e1,q A a vs H Le.refl m h1 r⟩)
end
section
variable{P:Program}{w:World}{K:PySem.W.Frag}{mg:Str->Option Value}{base:Heap}{x qual:Str}{st:Stmt}{dV:Value}{f:Addr}{fd:FuncData}{N ps:List Str}{k:Nat}
theorem bDs(F:FunD K x qual st dV f fd)(S:FnScope N ps (aF st))(np n i:Nat)(bd:Bd)(hnp:ps.length=np)(hn:N.length=n)
  (hb:∀ (cdv:Value) (A:Around) (outer:List Env) (s:Shared) (H:Hp) (E:XK) (B:List Addr),Room k (A.deeper (envOfC qual (aF st) s.heap.objs.size f cdv)) ->
   PSs (zO CX0 P w K mg base N qual (aF st) f cdv A outer s H E).nox (bD st) (tSF K B i bd)):FnOk P w K mg base CX0 (k+1) f fd ps (spF K np (dJ np n (yD bd i))):=by
 refine F.okX S (fun vs H Q E h=>?_) (fun cdv A outer s H vs Q E hr h=>?_)
 ·obtain ⟨A,ds,d,own,r,hl,_⟩:=h
  rw [r.length,hl,hnp]
 ·obtain ⟨B,ds,xs,own,r,hl,hp,q⟩:=h
  refine ⟨tSF K B i bd,hb cdv A outer s H E B hr,?_⟩
  obtain ⟨_,h2⟩:=aJ hp
  obtain ⟨fl,hfl,h3⟩:=R.ok_of h2
  have rs:=aCt (N:=N) own r
  rw [hl,hn] at rs
  unfold yD at hfl
  split at hfl
  ·rename_i s1 hf1
   unfold aP3 at hfl
   split at hfl
   ·rename_i e1
    cases hfl
    cases h3
    refine ⟨[],_,s1,_,rs,hf1,e1,fun A' a vs' H' l ha hv rv=>?_⟩
    have sm:bA H H':=by
     unfold Le at l
     rw [uW] at l
     exact l.trans (bN _ _)
    refine q a vs' H' sm ?_ hv (rv.mono (iV fun b hb=>?_))
    ·cases hH:H a with
     | none=>rfl
     | some o =>
      have z:=l a o (by rw [uW];exact hH)
      rw [fO ha] at z;cases z
    ·rcases List.mem_cons.mp hb with rfl | hb
     ·exact List.mem_append_left _ ha
     ·exact List.mem_append_right _ hb
   ·cases hfl
  ·cases hfl
theorem aNp{np n i:Nat}{bd:Bd}{ds:List D}{d:D}(h:dJ np n (yD bd i) ds = .ok d):∃ xs,d = .lst xs:=by
 obtain ⟨_,h2⟩:=aJ h
 obtain ⟨fl,hfl,h3⟩:=R.ok_of h2
 unfold yD at hfl
 split at hfl
 ·unfold aP3 at hfl
  split at hfl
  ·cases hfl;cases h3;exact ⟨_,rfl⟩
  ·cases hfl
 ·cases hfl
theorem aNq{p:List D->R D}(hp:∀ ds d,p ds = .ok d->∃ xs,d = .lst xs){np:Nat}(F:FnOk P w K mg base CX0 k f fd ps (spF K np p)):FnOk P w K mg base CX0 k f fd ps (spI K np p):=by
 have up:∀ vs H Q E,spI K np p vs H Q E->spF K np p vs H Q E:=by
  rintro vs H Q E ⟨A,ds,d,own,r,hl,he,q⟩
  obtain ⟨xs,rfl⟩:=hp ds d he
  refine ⟨A,ds,xs,own,r,hl,he,fun a ws H' sm ha hv rv=>q _ H' sm (bZ.mpr ⟨a,ws,rfl,SqL.of (by rw [cD (own.free ha)];exact hv),rv.mono (iV fun b hb=>List.mem_cons_of_mem _ hb)⟩)⟩
 exact ⟨fun vs H Q E h=>F.len vs H Q E (up vs H Q E h),fun A outer s H args us vs Q E hr e0 hb hv h=>F.run A outer s H args us vs Q E hr e0 hb hv (up vs H Q E h)⟩
end
structure MethOkF(P:Program)(w:World)(K:PySem.W.Frag)(mg:Str->Option Value)(base:Heap)(c m:String)(k np:Nat)(dv:List D)(p:List D->R D):Prop where
 ex:∃ (C fa:Addr) (fd:FuncData) (ps:List Str) (dvs:List V) (ds:List Value),ClsAt K c C/\Meth K C (Str.ofString m) fa/\FnOk P w K mg base CX0 k fa fd ps (spF K np p)/\Binds K fd ps ds/\Vals dvs ds/\∀ H,bL K H dv dvs
 len:∀ ds d,p ds = .ok d->ds.length=np
 lst:∀ ds d,p ds = .ok d->∃ xs,d = .lst xs
theorem MethOkF.of{P:Program}{w:World}{K:PySem.W.Frag}{mg:Str->Option Value}{base:Heap}{k:Nat}{f:Addr}{fd:FuncData}{ps:List Str}{c m:String}{C:Addr}{np n i:Nat}{dv:List D}{bd:Bd}{ds:List Value}{dvs:List V}(hc:ClsAt K c C)(hm:Meth K C (Str.ofString m) f)(F:FnOk P w K mg base CX0 k f fd ps (spF K np (dJ np n (yD bd i))))(b:Binds K fd ps ds)(v:Vals dvs ds)(r:∀ H,bL K H dv dvs):MethOkF P w K mg base c m k np dv (dJ np n (yD bd i)) :=
 ⟨⟨C,f,fd,ps,dvs,ds,hc,hm,F,b,v,r⟩,cB,fun _ _ h=>aNp h⟩
theorem MethOkF.plain{P:Program}{w:World}{K:PySem.W.Frag}{mg:Str->Option Value}{base:Heap}{c m:String}{k np:Nat}{dv:List D}{p:List D->R D}(h:MethOkF P w K mg base c m k np dv p):MethOk P w K mg base c m k np dv p:=by
 obtain ⟨C,fa,fd,ps,dvs,ds,hc,hm,F,b,v,r⟩:=h.ex
 exact ⟨⟨C,fa,fd,ps,dvs,ds,hc,hm,aNq h.lst F,b,v,r⟩,h.len⟩
section
variable{X:Cx}{B:List Addr}{e o:Expr}{f g:Ex}{pos:Pos}
theorem aY0{c m:String}{k j np:Nat}{dv:List D}{p:List D->R D}{es:List Expr}{r:Exs}{apos:Pos}{pl:Sem Bool}(h:MethOkF X.prog X.w X.K X.mg X.base c m k np dv p)(hr:Room j X.A)(hk:k<=j)(ho:PE X o (tI X.K B f))(ha:PA X (e :: es) (tA X.K B r))
  (hst:starEach (e :: es) X.env=(false,eval e X.env) :: starEach es X.env:=by rfl) (hpl:(backTo pos (starEach es X.env)).any (·.1)=false:=by rfl)
  (ht:eval (.Call (.Attribute o (Str.ofString m) apos) (e :: es) [] pos) X.env=(do
   let ov <- eval o X.env
   standAt apos.atName
   let (f,first) <- holding [ov] (getMethod ov (Str.ofString m) pl)
   callWith pos f first (backTo pos (starEach (e :: es) X.env)) (backToKw pos (keywordEach [] X.env))):=by rfl) :
  PE X (.Call (.Attribute o (Str.ofString m) apos) (e :: es) [] pos) (tF X.K B (qO c m p dv f r)):=by
 obtain ⟨C,fa,fd,ps,dvs,ds,hc,hm,F,bd,vd,rd⟩:=h.ex
 refine cI (aKk (pl:=pl) ho hc.cl hm F (hr.mono hk) bd vd aKo ha hst hpl ht) ?_
 rintro σ H Q ⟨A,st,xs,rs,hd,q⟩
 obtain ⟨x,hx,h2⟩:=R.ok_of hd
 obtain ⟨ys,hxs,h3⟩:=R.ok_of h2
 refine ⟨A,st,x,rs,hx,fun v H1 s1 r1=>?_⟩
 cases x<;>first | (cases h3;done) | skip
 obtain ⟨⟨e1,hn⟩,h4⟩:=aJ h3
 subst e1
 obtain ⟨p',C',dx,fs,e2,h5,h6,h7,h8⟩:=lG.ins (.inl r1)
 have:C'=C:=by have z:=h6.symm.trans hc.ns;injection z with z;injection z with z;injection z
 subst this
 refine ⟨p',dx,fs,e2,h5,lookup_none h7 hn,A,st,ys,rs.mono s1,hxs,fun vs H2 s2 r2=>?_⟩
 refine ⟨A++B,_,xs,rs.own.mono (s1.trans s2),.cons (r1.mono (bA.hide s2)) (r2.append (rd _)),h.len _ _ h4,h4,fun a ws H' s' ha' hv rv=>?_⟩
 have e0:upd (hide [a] H') a (.lst ws)=H':=by
  funext b
  by_cases hb:b=a
  ·subst hb;rw [cH];exact hv.symm
  ·rw [bW hb,cD (by simpa using hb)]
 have z:=q a ws (hide [a] H') (fun b u hz=>?_) (fO (by simp)) ?_
 ·rw [e0] at z;exact z
 ·have hz2:=s2 _ _ (s1 _ _ hz)
  rw [cD (by simpa using bK hz2 ha')]
  exact s' _ _ hz2
 ·refine rv.mono fun b u hz=>?_
  have hb:b ∉ a :: (A++B):=fun y=>by rw [fO y] at hz;cases hz
  rw [cD fun y=>hb (List.mem_cons_of_mem _ y),cD (by simpa using fun y=>hb (by rw [y];exact List.mem_cons_self))]
  exact bN _ _ _ _ hz
end
end Pu
namespace Pu
open PySem PySem.Spec PyProof.Rows L2
section
variable{X:Cx}{B:List Addr}{a:Expr}{f:Ex}{pos:Pos}
end
end Pu
namespace Pu
open PySem PySem.Spec PyProof.Rows L2
section
variable{X:Cx}{B:List Addr}{e e1 e2 o:Expr}{f g:Ex}{pos:Pos}{sm:Stmt}{rest:List Stmt}{bd bd':Bd}{W:XW}{s1:Bool}
end
section
variable{P:Program}{w:World}{K:PySem.W.Frag}{mg:Str->Option Value}{base:Heap}{x qual:Str}{st:Stmt}{dV:Value}{fa:Addr}{fd:FuncData}{N ps:List Str}{k np n:Nat}{bd:Bd}{f:Ex}{p:List D->R D}
end
section
variable{X:Cx}{B:List Addr}{e e1 e2 o:Expr}{f g:Ex}{pos:Pos}
end
section
variable{X:Cx}{B:List Addr}{e o:Expr}{f g:Ex}{pos:Pos}
end
end Pu
namespace Pu
open PySem PySem.Spec PyProof.Rows L2
section
variable{X:Cx}{B:List Addr}{a b e:Expr}{f g:Ex}{pos:Pos}
theorem aIc:∀ {ns:List Int} {us:List Value},Vals (ns.map V.int) us->IntsAre us ns
 | [],us,h=>by rw [h.zero];exact .nil
 | n :: ns,us,h=>by
  cases h with
  | cons r t =>
   obtain ⟨k,rfl⟩:=r
   exact .cons n k (aIc t)
end
end Pu
namespace Pu
open PySem PySem.Spec PyProof.Rows L2
def noH:Hp:=fun _=>none
theorem aTn{H:Hp}:bA noH H:=fun _ _ h=>nomatch h
theorem aQs{K:PySem.W.Frag}{H:Hp}{d:D}{v:V}(h:atom d=true)(r:Rep K H d v):Rep K noH d v:=by
 cases d<;>first | (cases h;done) | skip
 ·exact cC.mpr (cC.mp r)
 ·exact bO.mpr (bO.mp r)
 ·exact aV.mpr (aV.mp r)
 ·exact bI.mpr (bI.mp r)
def tC(K:PySem.W.Frag)(B:List Addr)(f:Ex):TE:=fun σ H Q=>∃ A st d xs,RS K B A H st σ/\f st = .ok d/\aWs d = .ok (.lst xs)/\∀ P ps H',bA H H'->(∀ p∈P :: ps,H p=none)->(P :: ps).Nodup->H' P=some (.lst (ps.map V.ref))->Inn K noH H' (xs.map unL) ps->Q (.ref P) H'
section
variable{X:Cx}{B:List Addr}{scope:Scope}{iter:Expr}{pos pl p0 p1 p2:Pos}{f:Ex}{r:Str}{j:Nat}
end
end Pu
namespace Pu
open PySem PySem.Spec PyProof.Rows L2
section
variable{X:Cx}{pos p0 p1:Pos}{r:Str}
end
end Pu
namespace Pu
open PySem PySem.Spec PyProof.Rows L2
section
variable{X:Cx}{a b e o:Expr}{f g:Ex}{pos:Pos}{sm:Stmt}{rest:List Stmt}{bd bd':Bd}{W:XW}{H0:Hp}{x:Addr}
end
section
variable{X:Cx}{B:List Addr}{a b e o:Expr}{f g:Ex}{pos:Pos}{W:XW}
end
end Pu
namespace Pu
open PySem PySem.Spec PyProof.Rows L2
section
variable{K:PySem.W.Frag}{B A Z:List Addr}{H H':Hp}{st:PSt}{σ:LSt}
end
section
variable{X:Cx}{B:List Addr}{a b e o:Expr}{f g:Ex}{pos:Pos}{sm:Stmt}{rest:List Stmt}{i:Nat}{na nb:NB}{bd:Bd}
end
section
variable{X:Cx}{B:List Addr}{scope:Scope}{iter:Expr}{pos pl p0 p1 p2:Pos}{f:Ex}{r:Str}{rest:List Stmt}{i:Nat}{nb:NB}
end
end Pu
namespace Pu
open PySem PySem.Spec PyProof.Rows L2
open Builtin
section
variable{prog:Program}{w:World}{A:Around}{E:Value->Shared->Prop}{s:Shared}
variable{z TI TO i1 i2 l:Addr}{fp:List Addr}{n k1 k2:Nat}{P:Nat->Value->Prop}{St:Nat->Heap->Prop}{ys:Array Value}{y a b:Value}
structure ZApart(z TI TO i1 i2 l:Addr)(fp:List Addr):Prop where
 TIz:TI≠z
 TOz:TO≠z
 i1z:i1≠z
 i2z:i2≠z
 TITO:TI≠TO
 TIi1:TI≠i1
 TIi2:TI≠i2
 TOi1:TO≠i1
 TOi2:TO≠i2
 i12:i1≠i2
 lz:l≠z
 lTO:l≠TO
 li1:l≠i1
 li2:l≠i2
 zf:z ∉ fp
 Tf:TO ∉ fp
 i2f:i2 ∉ fp
theorem aK4{n l:Nat}(h:l < n):ZApart (n+4) (n+2) (n+3) n (n+1) l [n]:=by
 constructor
 ·show n+2≠n+4;omega
 ·show n+3≠n+4;omega
 ·show n≠n+4;omega
 ·show n+1≠n+4;omega
 ·show n+2≠n+3;omega
 ·show n+2≠n;omega
 ·show n+2≠n+1;omega
 ·show n+3≠n;omega
 ·show n+3≠n+1;omega
 ·show n≠n+1;omega
 ·show l≠n+4;omega
 ·show l≠n+3;omega
 ·show l≠n;omega
 ·show l≠n+1;omega
 ·intro z
  have:n+4=n:=List.mem_singleton.mp z
  omega
 ·intro z
  have:n+3=n:=List.mem_singleton.mp z
  omega
 ·intro z
  have:n+1=n:=List.mem_singleton.mp z
  omega
theorem aQt(D1:Draws prog w A i1 fp n P St)(D:ZApart z TI TO i1 i2 l fp)
  (hz:IsZip s.heap z TI TO .none) (hTI:IsPair s.heap TI (.ref i1) (.ref i2)) (hTO:IsPair s.heap TO a b)
  (h1:St k1 s.heap) (hk1:k1 < n) (h2:s.heap.IsListIter i2 l k2) (hl:s.heap.IsList l ys) (hy:ys[k2]?=some y) {Q:Value->Shared->Prop}
  (hQ:∀ h' tk x,P k1 x->IsZip h' z TI TO (rawInt s.heap.objs.size)->IsPair h' TO x y->St (k1+1) h'->h'.IsListIter i2 l (k2+1)->IsPair h' s.heap.objs.size x y->h'.objs.size=s.heap.objs.size+1 ->
   (∀ c o,c≠z->c≠TO->c≠i1->c≠i2->s.heap.get? c=some o->h'.get? c=some o)->Q (.ref s.heap.objs.size) { s with heap:=h',toks:=tk }) :
  wpAny (model prog w) A (Builtin.«zip.__next__» ⟨[.ref z],[]⟩) (fun fin s'=>∃ v,fin = .done (.ret v)/\Q v s') E s:=by
 show wpAny _ _ (field (.ref z) 2 >>= _) _ _ _
 refine wpAny_bind (wpAny_field hz rfl (x := .bool false) rfl ?_)
 show wpAny _ _ (field (.ref z) 3 >>= _) _ _ _
 refine wpAny_bind (wpAny_field hz rfl (x := .ref TI) rfl ?_)
 refine wpAny_bind (wpAny_seqItems hTI rfl ?_)
 show wpAny _ _ (Builtin.SmallTypes.ownedTupleIsFree (.ref z) >>= _) _ _ _
 refine wpAny_bind ?_
 unfold Builtin.SmallTypes.ownedTupleIsFree
 refine wpAny_bind (wpAny_field hz rfl (x := .none) rfl (wpAny_pure ?_))
 simp only [if_true]
 refine wpAny_bind (wpAny_rule ?_)
 refine wpAny_bind (wpAny_field hz rfl (x := .ref TO) rfl ?_)
 refine wpAny_bind (wpAny_setField_rec hz (by simp) fun h₁ hz₁ hs₁=>?_)
 replace hz₁:IsZip h₁ z TI TO .ellipsis:=hz₁
 refine wpAny_bind ?_
 simp only [List.zipIdx_cons,List.zipIdx_nil,List.forIn_cons,List.forIn_nil]
 refine wpAny_bind (wpAny_bind (wpAny_onRaise ?_))
 show wpAny _ _ (Builtin.SmallTypes.nextOf (.ref i1) >>= _) _ _ _
 refine wpAny_bind (D1.item k1 { s with heap:=h₁ } _ _ hk1 (D1.frame k1 s.heap h₁ h1 fun b hb o e=>hs₁.extBut _ _ (fun x=>D.zf (x ▸ hb)) e) fun x h₂ tk hP h1₂ hs₂=>wpAny_pure ?_)
 have hs₂:Heap.SameBut i1 h₁ h₂:=hs₂
 have hTO₂:IsPair h₂ TO a b:=hs₂.extBut _ _ D.TOi1 (hs₁.extBut _ _ D.TOz hTO)
 refine wpAny_bind (wpAny_seqItems hTO₂ rfl ?_)
 refine wpAny_bind (wpAny_updateSeq_pair hTO₂ fun h₃ hTO₃ hs₃=>?_)
 replace hTO₃:IsPair h₃ TO x b:=hTO₃
 refine wpAny_bind (wpAny_letGo (wpAny_pure ?_))
 refine wpAny_bind (wpAny_bind (wpAny_onRaise ?_))
 show wpAny _ _ (Builtin.SmallTypes.nextOf (.ref i2) >>= _) _ _ _
 refine wpAny_bind (wpAny_nextOf_list_item (((h2.extBut hs₁.extBut D.i2z).extBut hs₂.extBut D.i12.symm).extBut hs₃.extBut D.TOi2.symm)
  (((hl.extBut hs₁.extBut D.lz).extBut hs₂.extBut D.li1).extBut hs₃.extBut D.lTO) hy fun h₄ h2₄ hs₄=>wpAny_pure ?_)
 have hTO₄:IsPair h₄ TO x b:=hs₄.extBut _ _ D.TOi2 hTO₃
 refine wpAny_bind (wpAny_seqItems hTO₄ rfl ?_)
 refine wpAny_bind (wpAny_updateSeq_pair hTO₄ fun h₅ hTO₅ hs₅=>?_)
 replace hTO₅:IsPair h₅ TO x y:=hTO₅
 refine wpAny_bind (wpAny_letGo (wpAny_pure (wpAny_pure ?_)))
 refine wpAny_bind (wpAny_seqItems hTO₅ rfl ?_)
 refine wpAny_bind (wpAny_newTuple ?_)
 have hs₃':Heap.SameBut TO h₂ h₃:=hs₃
 have hs₄':Heap.SameBut i2 h₃ h₄:=hs₄
 have hs₅':Heap.SameBut TO h₄ h₅:=hs₅
 have hsz:h₅.objs.size=s.heap.objs.size:=by rw [hs₅'.1,hs₄'.1,hs₃'.1,hs₂.1,hs₁.1]
 have hz₅:IsZip h₅ z TI TO .ellipsis:=hs₅'.extBut _ _ D.TOz.symm (hs₄'.extBut _ _ D.i2z.symm (hs₃'.extBut _ _ D.TOz.symm (hs₂.extBut _ _ D.i1z.symm hz₁)))
 have hk₅:∀ c o,c≠z->c≠TO->c≠i1->c≠i2->s.heap.get? c=some o->h₅.get? c=some o:=fun c o c1 c2 c3 c4 e =>
  hs₅'.extBut _ _ c2 (hs₄'.extBut _ _ c4 (hs₃'.extBut _ _ c2 (hs₂.extBut _ _ c3 (hs₁.extBut _ _ c1 e))))
 have h1₅:St (k1+1) h₅:=D1.frame _ h₂ h₅ h1₂ fun b hb o e=>hs₅'.extBut _ _ (fun x=>D.Tf (x ▸ hb)) (hs₄'.extBut _ _ (fun x=>D.i2f (x ▸ hb)) (hs₃'.extBut _ _ (fun x=>D.Tf (x ▸ hb)) e))
 have h2₅:h₅.IsListIter i2 l (k2+1):=h2₄.extBut hs₅'.extBut D.TOi2.symm
 have hzlt:z < h₅.objs.size:=Heap.lt_size hz₅
 show wpAny _ _ (Builtin.SmallTypes.ownedTupleHandOut (.ref z) (.ref h₅.objs.size) >>= _) _ _ _
 refine wpAny_bind ?_
 unfold Builtin.SmallTypes.ownedTupleHandOut
 have hz₆:IsZip (h₅.push { cls := .type "tuple", data := .seq #[x,y] }) z TI TO .ellipsis:=Heap.get?_push_of_some _ hz₅
 refine wpAny_bind (wpAny_setField_rec hz₆ (by simp) fun h₇ hz₇ hs₇=>?_)
 replace hz₇:IsZip h₇ z TI TO (rawInt h₅.objs.size):=hz₇
 refine wpAny_setField_rec hz₇ (by simp) fun h₈ hz₈ hs₈=>?_
 replace hz₈:IsZip h₈ z TI TO (rawInt h₅.objs.size):=hz₈
 have up:∀ c o,c≠z->h₅.get? c=some o->h₈.get? c=some o:=fun c o c1 e=>hs₈.extBut _ _ c1 (hs₇.extBut _ _ c1 (Heap.get?_push_of_some _ e))
 have hT₈:IsPair h₈ h₅.objs.size x y:=hs₈.extBut _ _ (Nat.ne_of_gt hzlt) (hs₇.extBut _ _ (Nat.ne_of_gt hzlt) (Heap.get?_push_size _ rfl))
 have hz8:h₈.objs.size=h₅.objs.size+1:=by rw [hs₈.1,hs₇.1,Heap.size_push]
 rw [hsz] at hz₈ hT₈ hz8
 refine wpAny_pure ⟨_,rfl,?_⟩
 show Q (.ref h₅.objs.size) _
 rw [hsz]
 exact hQ h₈ _ x hP hz₈ (up _ _ D.TOz hTO₅) (D1.frame _ h₅ h₈ h1₅ fun b hb o e=>up b o (fun x=>D.zf (x ▸ hb)) e) (h2₅.at fun o e=>up _ o D.i2z e) hT₈ hz8 fun c o c1 c2 c3 c4 e=>up c o c1 (hk₅ c o c1 c2 c3 c4 e)
theorem aTo(D1:Draws prog w A i1 fp n P St)(hh:A.handled=none)(D:ZApart z TI TO i1 i2 l fp)
  (hz:IsZip s.heap z TI TO .none) (hTI:IsPair s.heap TI (.ref i1) (.ref i2)) (hTO:IsPair s.heap TO a b)
  (h1:St k1 s.heap) (h2:s.heap.IsListIter i2 l k2) (hl:s.heap.IsList l ys)
  (hend:(∀ (s:Shared) (Q:Value->Shared->Prop) (E:Value->Shared->Prop),St k1 s.heap->(∀ h' e,Heap.ExtBut i1 s.heap h'->(∃ o,h'.get? e=some o/\o.cls = .type "StopIteration")->E (.ref e) { s with heap:=h' })->wpAny (model prog w) A (Builtin.SmallTypes.nextOf (.ref i1)) Q E s)\/(k1 < n/\ys[k2]?=none)) {Q:Fin->Shared->Prop}
  (hE:∀ h' e tk,(∀ c o,c≠z->c≠TO->c≠i1->c≠i2->s.heap.get? c=some o->h'.get? c=some o)->(∃ o,h'.get? e=some o/\o.cls = .type "StopIteration")->E (.ref e) { s with heap:=h',toks:=tk }) :
  wpAny (model prog w) A (Builtin.«zip.__next__» ⟨[.ref z],[]⟩) Q E s:=by
 show wpAny _ _ (field (.ref z) 2 >>= _) _ _ _
 refine wpAny_bind (wpAny_field hz rfl (x := .bool false) rfl ?_)
 show wpAny _ _ (field (.ref z) 3 >>= _) _ _ _
 refine wpAny_bind (wpAny_field hz rfl (x := .ref TI) rfl ?_)
 refine wpAny_bind (wpAny_seqItems hTI rfl ?_)
 show wpAny _ _ (Builtin.SmallTypes.ownedTupleIsFree (.ref z) >>= _) _ _ _
 refine wpAny_bind ?_
 unfold Builtin.SmallTypes.ownedTupleIsFree
 refine wpAny_bind (wpAny_field hz rfl (x := .none) rfl (wpAny_pure ?_))
 simp only [if_true]
 refine wpAny_bind (wpAny_rule ?_)
 refine wpAny_bind (wpAny_field hz rfl (x := .ref TO) rfl ?_)
 refine wpAny_bind (wpAny_setField_rec hz (by simp) fun h₁ hz₁ hs₁=>?_)
 replace hz₁:IsZip h₁ z TI TO .ellipsis:=hz₁
 refine wpAny_bind ?_
 simp only [List.zipIdx_cons,List.zipIdx_nil,List.forIn_cons,List.forIn_nil]
 refine wpAny_bind (wpAny_bind (wpAny_onRaise ?_))
 show wpAny _ _ (Builtin.SmallTypes.nextOf (.ref i1) >>= _) _ _ _
 have fr1:St k1 h₁:=D1.frame k1 s.heap h₁ h1 fun b hb o e=>hs₁.extBut _ _ (fun x=>D.zf (x ▸ hb)) e
 rcases hend with hend | ⟨hkn,hy⟩
 ·refine wpAny_bind (hend { s with heap:=h₁ } _ _ fr1 fun h₂ e hs₂ he=>?_)
  have hs₂:Heap.ExtBut i1 h₁ h₂:=hs₂
  obtain ⟨oe,hoe,hce⟩:=he
  have hz₂:IsZip h₂ z TI TO .ellipsis:=hs₂ _ _ D.i1z.symm hz₁
  have hez:e≠z:=fun x=>by subst x;rw [hz₂] at hoe;cases hoe;simp at hce
  refine wpAny_setField_rec hz₂ (by simp) fun h₃ _ hs₃=>hE h₃ e _ (fun c o c1 _ c3 _ x=>hs₃.extBut _ _ c1 (hs₂ _ _ c3 (hs₁.extBut _ _ c1 x))) ⟨oe,hs₃.extBut _ _ hez hoe,hce⟩
 ·refine wpAny_bind (D1.item k1 { s with heap:=h₁ } _ _ hkn fr1 fun x h₂ tk hP h1₂ hs₂=>wpAny_pure ?_)
  have hs₂:Heap.SameBut i1 h₁ h₂:=hs₂
  have hTO₂:IsPair h₂ TO a b:=hs₂.extBut _ _ D.TOi1 (hs₁.extBut _ _ D.TOz hTO)
  refine wpAny_bind (wpAny_seqItems hTO₂ rfl ?_)
  refine wpAny_bind (wpAny_updateSeq_pair hTO₂ fun h₃ hTO₃ hs₃=>?_)
  have hs₃':Heap.SameBut TO h₂ h₃:=hs₃
  refine wpAny_bind (wpAny_letGo (wpAny_pure ?_))
  refine wpAny_bind (wpAny_bind (wpAny_onRaise ?_))
  show wpAny _ _ (Builtin.SmallTypes.nextOf (.ref i2) >>= _) _ _ _
  refine wpAny_bind (wpAny_nextOf_list_end hh (((h2.extBut hs₁.extBut D.i2z).extBut hs₂.extBut D.i12.symm).extBut hs₃'.extBut D.TOi2.symm)
   (((hl.extBut hs₁.extBut D.lz).extBut hs₂.extBut D.li1).extBut hs₃'.extBut D.lTO) hy fun h₄ e hs₄ he=>?_)
  have hs₄:Heap.ExtBut i2 h₃ h₄:=hs₄
  obtain ⟨oe,hoe,hce⟩:=he
  have hz₄:IsZip h₄ z TI TO .ellipsis:=hs₄ _ _ D.i2z.symm (hs₃'.extBut _ _ D.TOz.symm (hs₂.extBut _ _ D.i1z.symm hz₁))
  have hez:e≠z:=fun x=>by subst x;rw [hz₄] at hoe;cases hoe;simp at hce
  refine wpAny_setField_rec hz₄ (by simp) fun h₅ _ hs₅=>hE h₅ e _ (fun c o c1 c2 c3 c4 x=>hs₅.extBut _ _ c1 (hs₄ _ _ c4 (hs₃'.extBut _ _ c2 (hs₂.extBut _ _ c3 (hs₁.extBut _ _ c1 x))))) ⟨oe,hs₅.extBut _ _ hez hoe,hce⟩
end
section
variable{prog:Program}{w:World}{A:Around}{E:Value->Shared->Prop}{s:Shared}
abbrev zH1(h:Heap)(x:Str)(t:Tok):Heap:=h.push { cls := .type (strIterType x),data := .fields #[.str x t,.int 0 0] }
abbrev zH2(h:Heap)(x:Str)(t:Tok)(l:Addr):Heap:=(zH1 h x t).push { cls := .type "list_iterator", data := .fields #[.ref l,.int 0 0] }
abbrev zH3(h:Heap)(x:Str)(t:Tok)(l:Addr):Heap:=(zH2 h x t l).push { cls := .type "tuple", data := .seq #[.ref h.objs.size,.ref (zH1 h x t).objs.size] }
abbrev zH4(h:Heap)(x:Str)(t:Tok)(l:Addr):Heap:=(zH3 h x t l).push { cls := .type "tuple", data := .seq #[.none,.none] }
abbrev zH5(h:Heap)(x:Str)(t:Tok)(l:Addr):Heap:=(zH4 h x t l).push { cls := .type "zip", data := .fields #[.none,.bool false,.bool false,.ref (zH2 h x t l).objs.size,.ref (zH3 h x t l).objs.size] }
theorem aK5(x:Str)(t:Tok)(l:Addr)(ys:Array Value) :
  Meets (Builtin.«zip.__new__» ⟨[.type "zip", .str x t,.ref l],[]⟩) (fun _ R s=>s.heap.IsList l ys /\
   R (.ok (.ret (.ref (zH4 s.heap x t l).objs.size))) { s with heap:=zH5 s.heap x t l }) :=
 .of_wp fun prog w A R s h=>by
  obtain ⟨hp,g,d,tk,os⟩:=s;obtain ⟨hl,h⟩:=h
  have hsub:=sub_zip
  have hL:Heap.IsList (Shared.heap ⟨hp.push { cls := .type (strIterType x),data := .fields #[.str x t,.int 0 0] },g,d,tk,os⟩) l ys:=Heap.IsList.push hl _
  wp_walk using wpAny_pyIter_strU,wpAny_pyIter_list hL
  exact ⟨_,rfl,h⟩
theorem aNr{x:Str}{t:Tok}{l:Addr}{ys:Array Value}{Q:Value->Shared->Prop}(hl:s.heap.IsList l ys)
  (h:∀ h',IsZip h' (s.heap.objs.size+4) (s.heap.objs.size+2) (s.heap.objs.size+3) .none->IsPair h' (s.heap.objs.size+2) (.ref s.heap.objs.size) (.ref (s.heap.objs.size+1)) ->
   IsPair h' (s.heap.objs.size+3) .none .none->h'.IsStrIter s.heap.objs.size (strIterType x) x t 0->h'.IsListIter (s.heap.objs.size+1) l 0->h'.objs.size=s.heap.objs.size+5 ->
   (∀ c o,s.heap.get? c=some o->h'.get? c=some o)->Q (.ref (s.heap.objs.size+4)) { s with heap:=h' }) :
  wpAny (model prog w) A (call (.type "zip") [.str x t,.ref l]) Q E s:=by
 refine callType_new PySem.F.called_zip (by decide) (PySem.F.typeCall_zip_2 _ _) (PySem.F.newCall_zip_2 _ _) (fun obj=>PySem.F.args_object_init_3 obj _ _) PySem.F.entry_zip_new
  (aK5 x t l ys) ⟨hl,?_⟩
 have z1:(zH1 s.heap x t).objs.size=s.heap.objs.size+1:=Heap.size_push ..
 have z2:(zH2 s.heap x t l).objs.size=s.heap.objs.size+2:=by rw [Heap.size_push,z1]
 have z3:(zH3 s.heap x t l).objs.size=s.heap.objs.size+3:=by rw [Heap.size_push,z2]
 have z4:(zH4 s.heap x t l).objs.size=s.heap.objs.size+4:=by rw [Heap.size_push,z3]
 have z5:(zH5 s.heap x t l).objs.size=s.heap.objs.size+5:=by rw [Heap.size_push,z4]
 have g5:(zH5 s.heap x t l).get? (zH4 s.heap x t l).objs.size=some _:=Heap.get?_push_size _ rfl
 have g4:(zH5 s.heap x t l).get? (zH3 s.heap x t l).objs.size=some _:=Heap.get?_push_of_some _ (Heap.get?_push_size _ rfl)
 have g3:(zH5 s.heap x t l).get? (zH2 s.heap x t l).objs.size=some _:=Heap.get?_push_of_some _ (Heap.get?_push_of_some _ (Heap.get?_push_size _ rfl))
 have g2:(zH5 s.heap x t l).get? (zH1 s.heap x t).objs.size=some _:=Heap.get?_push_of_some _ (Heap.get?_push_of_some _ (Heap.get?_push_of_some _ (Heap.get?_push_size _ rfl)))
 have g1:(zH5 s.heap x t l).get? s.heap.objs.size=some _:=Heap.get?_push_of_some _ (Heap.get?_push_of_some _ (Heap.get?_push_of_some _ (Heap.get?_push_of_some _ (Heap.get?_push_size _ rfl))))
 show _/\_
 rw [z2,z3,z4] at g5
 rw [z1,z2] at g3
 rw [z3] at g4
 rw [z1] at g2
 rw [z4]
 exact ⟨⟨_,g5,rfl⟩,h _ g5 g3 g4 ⟨_,g1,rfl,rfl⟩ ⟨_,g2,rfl,rfl⟩ z5 fun c o x =>
  Heap.get?_push_of_some _ (Heap.get?_push_of_some _ (Heap.get?_push_of_some _ (Heap.get?_push_of_some _ (Heap.get?_push_of_some _ x))))⟩
theorem aEw(hh:A.handled=none)(it:Addr)(x:Str)(t:Tok){n:String}(hn:n = "str_ascii_iterator" \/ n = "str_iterator") :
  Draws prog w A it [it] x.cps.size (fun i v=>∃ c u,x.cps[i]?=some c/\v = .str ⟨#[c]⟩ u) (fun i h=>h.IsStrIter it n x t i):=by
 rcases hn with rfl | rfl
 ·exact Draws.strAscii hh it x t
 ·exact Draws.strWide hh it x t
theorem aTp(hh:A.handled=none){it:Addr}{x:Str}{t:Tok}{n:String}{i:Nat}(hn:n = "str_ascii_iterator" \/ n = "str_iterator"){Q:Value->Shared->Prop}(st:s.heap.IsStrIter it n x t i)(hx:x.cps[i]?=none)
  (hE:∀ h' e,Heap.ExtBut it s.heap h'->(∃ o,h'.get? e=some o/\o.cls = .type "StopIteration")->E (.ref e) { s with heap:=h' }):wpAny (model prog w) A (Builtin.SmallTypes.nextOf (.ref it)) Q E s:=by
 rcases hn with rfl | rfl
 ·exact wpAny_nextOf_ascii_end hh st hx hE
 ·exact wpAny_nextOf_wide_end hh st hx hE
theorem aDo(x:Str):strIterType x = "str_ascii_iterator" \/ strIterType x = "str_iterator" := by
 unfold strIterType
 split<;>simp
end
def Itz(K:PySem.W.Frag)(z:List Nat)(a:Addr):It :=
 ⟨fun i H=>i < z.length/\∃ xs x,SqL K H a xs/\xs[i]?=some x,fun i H x H'=>∃ T c v,x=V.ref T/\H T=none/\z[i]?=some c/\H'=upd H T (.tup [.str ⟨#[c]⟩,v])/\∀ xs,SqL K H a xs->xs[i]?=some v,fun i H=>∃ xs,SqL K H a xs/\(z.length<=i\/xs.length<=i)⟩
theorem aQu{P:Program}{w:World}{K:PySem.W.Frag}{elts:List Expr}{x1}{tp:Pos}{zs:List Nat}{t:Tok}{n:String}(hn:n = "str_ascii_iterator" \/ n = "str_iterator")(a z TI TO i1 i2:Addr)(D:∀ l,l=a->ZApart z TI TO i1 i2 l [i1]) :
  Turn P w K (.Tuple elts x1 tp) (Itz K zs a) [z,TI,TO,i1,i2] z (fun i h=>IsZip h z TI TO .none/\IsPair h TI (.ref i1) (.ref i2)/\(∃ u v,IsPair h TO u v)/\h.IsStrIter i1 n ⟨zs.toArray⟩ t i/\h.IsListIter i2 a i) where
 mem:=by simp
 obj:=fun i h st b hb=>by
  obtain ⟨hz,hTI,⟨u,v,hTO⟩,⟨o1,q1,c1,d1⟩,⟨o2,q2,c2,d2⟩⟩:=st
  simp only [List.mem_cons,List.not_mem_nil,or_false] at hb
  rcases hb with rfl | rfl | rfl | rfl | rfl
  ·exact ⟨_,hz,fun v z=>by cases z⟩
  ·exact ⟨_,hTI,fun v z=>by cases z⟩
  ·exact ⟨_,hTO,fun v z=>by cases z⟩
  ·exact ⟨o1,q1,fun v z=>by rw [d1] at z;cases z⟩
  ·exact ⟨o2,q2,fun v z=>by rw [d2] at z;cases z⟩
 keep:=fun i h h' st k=>by
  obtain ⟨hz,hTI,⟨u,v,hTO⟩,⟨o1,q1,r1⟩,h2⟩:=st
  exact ⟨k z (by simp) _ hz,k TI (by simp) _ hTI,⟨u,v,k TO (by simp) _ hTO⟩,⟨o1,k i1 (by simp) _ q1,r1⟩,h2.at fun o x=>k i2 (by simp) o x⟩
 item:=by
  intro X hP hw hK hc i pins s σ H E I hf st hg
  subst hP hw hK
  obtain ⟨hz,hTI,⟨u0,v0,hTO⟩,h1,h2⟩:=st
  obtain ⟨hi,xs,x,hq,hx⟩:=hg
  obtain ⟨its,rv,p,_⟩:=I.list hq
  obtain ⟨u,hu,ru⟩:=rv.get hx
  have D:=D a rfl
  have fo:∀ b∈[z,TI,TO,i1,i2],H b=none:=fun b hb=>(hf b hb).1
  have hT:H s.heap.objs.size=none:=I.hok.fresh (Nat.le_refl _)
  have hzt:s.TypeIs (.ref z) "zip" := ⟨_,hz,rfl⟩
  have hh:=I.ok.hd hc
  unfold pyNext
  refine wpAny_bind (wpAny_attempt (wpAny_callSpecial?_slot (name:=Str.ofString "__next__") hzt PySem.F.slot_zip_next
   (wpAny_call_entry PySem.F.slot_zip_next hzt PySem.F.entry_zip_next
    (aQt (aEw (A:=X.A.in1) hh i1 ⟨zs.toArray⟩ t hn) D hz hTI hTO h1 (by simpa using hi) h2 p.isList (y:=u) (by simpa using hu) fun h' tk v hP a1 a2 a3 a4 a5 a6 hk=>wpAny_pure ?_) (PySem.F.args_zip_next_1 _))))
  obtain ⟨c,uu,hcc,rfl⟩:=hP
  refine ⟨_,rfl,wpAny_letOwnedTupleGo_zip (s:={ s with heap:=h',toks:=tk }) a1 fun h9 hz9 sb=>?_⟩
  have hkeep:∀ b o,b≠z->b≠TO->b≠i1->b≠i2->s.heap.get? b=some o->h9.get? b=some o:=fun b o e1 e2 e3 e4 q=>(sb.2 b e1).trans (hk b o e1 e2 e3 e4 q)
  have zlt:z≠s.heap.objs.size:=Nat.ne_of_lt (Heap.lt_size hz)
  have htup:h9.get? s.heap.objs.size=some { cls := .type "tuple", data := .seq #[.str ⟨#[c]⟩ uu,u] }:=(sb.2 _ zlt.symm).trans a5
  have nT:∀ b u',H b=some u'->b≠s.heap.objs.size:=fun b u' q=>bK q hT
  have nx:∀ b u',H b=some u'->b≠z/\b≠TO/\b≠i1/\b≠i2:=fun b u' q=>⟨bK q (fo z (by simp)),bK q (fo TO (by simp)),bK q (fo i1 (by simp)),bK q (fo i2 (by simp))⟩
  have mx:∀ b:Addr,b ∉ [z,TI,TO,i1,i2]->b≠z/\b≠TO/\b≠i1/\b≠i2:=fun b hb=>⟨fun q=>hb (by simp [q]),fun q=>hb (by simp [q]),fun q=>hb (by simp [q]),fun q=>hb (by simp [q])⟩
  have inL:∀ b o,s.heap.get? b=some o->b≠s.heap.objs.size:=fun b o q=>Nat.ne_of_lt (Heap.lt_size q)
  have kp:∀ b o,b ∉ [z,TI,TO,i1,i2]->s.heap.get? b=some o->h9.get? b=some o:=fun b o hb q=>hkeep b o (mx b hb).1 (mx b hb).2.1 (mx b hb).2.2.1 (mx b hb).2.2.2 q
  have un:Un (frs X.stack) [z,TI,TO,i1,i2] H (upd H s.heap.objs.size (.tup [.str ⟨#[c]⟩,x])) s.heap h9:=by
   refine ⟨fun b o q n hb hx=>kp b o hx q,fun b o q n hb hx=>⟨o.slots,kp b o hx q⟩,fun b o q n hx=>by rw [bW (inL b o q)];exact n,fun b o q hx=>⟨o,kp b o hx q⟩,fun b ys q=>by rw [bW (nT b _ q)];exact q,fun b o u' q=>by rw [bW (nT b _ q)];exact q,fun b ps q=>⟨#[],by rw [bW (nT b _ q),Array.append_empty];exact q⟩⟩
  have hok:HOk X.prog X.w (upd H s.heap.objs.size (.tup [.str ⟨#[c]⟩,x])) h9:=fun b u' q=>by
   by_cases hb:b=s.heap.objs.size
   ·subst hb
    rw [cH] at q
    cases q
    exact ⟨show 2<=sizeLine by decide,[.str ⟨#[c]⟩ uu,u],.cons ⟨_,rfl⟩ (.cons ru .nil),_,htup,rfl,_,rfl⟩
   ·rw [bW hb] at q
    refine (I.hok b u' q).stay (fun c v hc' q' => ?_) (fun c q'=>by rw [bW (nT c _ q')];exact q') fun c ys q'=>by rw [bW (nT c _ q')];exact q'
    have:∃ u'',H c=some u'':=by
     rcases hc' with z | z
     ·exact ⟨u',by rw [z];exact q⟩
     ·exact ⟨_,z⟩
    obtain ⟨u'',hu''⟩:=this
    obtain ⟨e1,e2,e3,e4⟩:=nx c _ hu''
    exact hkeep c v e1 e2 e3 e4 q'
  have I2:Inv X pins σ (upd H s.heap.objs.size (.tup [.str ⟨#[c]⟩,x])) { s with heap:=h9,toks:=tk }:=I.call (g':=s.gens) (t':=tk) (d':=s.drawn) (ch:=[z,TI,TO,i1,i2]) un hok I.bare fun b hb=>by
   have fb:=hf b hb
   exact ⟨fb.2.2.2.1,fb.2.1,fb.2.2.2.2.1,fb.2.2.2.2.2⟩
  have up:∀ b o,b≠z->h'.get? b=some o->h9.get? b=some o:=fun b o e q=>(sb.2 b e).trans q
  refine ⟨.ref s.heap.objs.size,_,I2,rfl,⟨_,c,x,rfl,hT,by simpa using hcc,rfl,fun ys hy=>by rw [I.list_inj hy hq];exact hx⟩,⟨hz9,up _ _ D.TIz (hk _ _ D.TIz D.TITO D.TIi1 D.TIi2 hTI),⟨_,_,up _ _ D.TOz a2⟩,?_,a4.at fun o y=>up _ o D.i2z y⟩,fun b hb=>?_⟩
  ·obtain ⟨o1,q1,r1⟩:=a3
   exact ⟨o1,up _ _ D.i1z q1,r1⟩
  ·have hbs:∃ o,s.heap.get? b=some o:=by
    simp only [List.mem_cons,List.not_mem_nil,or_false] at hb
    obtain ⟨o1,q1,_⟩:=h1
    obtain ⟨o2,q2,_⟩:=h2
    rcases hb with rfl | rfl | rfl | rfl | rfl
    ·exact ⟨_,hz⟩
    ·exact ⟨_,hTI⟩
    ·exact ⟨_,hTO⟩
    ·exact ⟨_,q1⟩
    ·exact ⟨_,q2⟩
   obtain ⟨o,q⟩:=hbs
   rw [bW (inL b o q)]
   exact fo b hb
 done:=by
  intro X hP hw hK hc i pins s σ H E I hf st hg
  subst hP hw hK
  obtain ⟨hz,hTI,⟨u0,v0,hTO⟩,h1,h2⟩:=st
  obtain ⟨xs,hq,hx⟩:=hg
  obtain ⟨its,rv,p,_⟩:=I.list hq
  have D:=D a rfl
  have hzt:s.TypeIs (.ref z) "zip" := ⟨_,hz,rfl⟩
  have hh:=I.ok.hd hc
  have hl:=rv.length
  unfold pyNext
  refine wpAny_bind (wpAny_attempt (wpAny_callSpecial?_slot (name:=Str.ofString "__next__") hzt PySem.F.slot_zip_next
   (wpAny_call_entry PySem.F.slot_zip_next hzt PySem.F.entry_zip_next
    (aTo (aEw (A:=X.A.in1) hh i1 ⟨zs.toArray⟩ t hn) hh D hz hTI hTO h1 h2 p.isList (by
     by_cases hi:zs.length<=i
     ·refine .inl fun s' Q E st hE=>aTp (A:=X.A.in1) hh hn st (by simpa using hi) hE
     ·exact .inr ⟨by simpa using hi,by simp;omega⟩) fun h' e tk hk he=>?_) (PySem.F.args_zip_next_1 _))))
  obtain ⟨o,ho,hce⟩:=he
  refine wpAny_bind (wpAny_isInstance (T := "StopIteration") (b:=true) ⟨o,ho,hce⟩ isSubtype_stop ?_)
  refine wpAny_pure ⟨rfl,?_⟩
  have fo:∀ b∈[z,TI,TO,i1,i2],H b=none:=fun b hb=>(hf b hb).1
  have mx:∀ b:Addr,b ∉ [z,TI,TO,i1,i2]->b≠z/\b≠TO/\b≠i1/\b≠i2:=fun b hb=>⟨fun q=>hb (by simp [q]),fun q=>hb (by simp [q]),fun q=>hb (by simp [q]),fun q=>hb (by simp [q])⟩
  have kp:∀ b o,b ∉ [z,TI,TO,i1,i2]->s.heap.get? b=some o->h'.get? b=some o:=fun b o hb q=>hk b o (mx b hb).1 (mx b hb).2.1 (mx b hb).2.2.1 (mx b hb).2.2.2 q
  have un:Un (frs X.stack) [z,TI,TO,i1,i2] H H s.heap h' :=
   ⟨fun b o q n hb hx=>kp b o hx q,fun b o q n hb hx=>⟨o.slots,kp b o hx q⟩,fun b o q n hx=>n,fun b o q hx=>⟨o,kp b o hx q⟩,fun b ys q=>q,fun b o u' q=>q,fun b ps q=>⟨#[],by rw [Array.append_empty];exact q⟩⟩
  have hok:HOk X.prog X.w H h':=fun b u' q=>by
   refine (I.hok b u' q).stay (fun c v hc' q' => ?_) (fun c q'=>q') fun c ys q'=>q'
   have:∃ u'',H c=some u'':=by
    rcases hc' with z | z
    ·exact ⟨u',by rw [z];exact q⟩
    ·exact ⟨_,z⟩
   obtain ⟨u'',hu''⟩:=this
   exact hk c v (bK hu'' (fo z (by simp))) (bK hu'' (fo TO (by simp))) (bK hu'' (fo i1 (by simp))) (bK hu'' (fo i2 (by simp))) q'
  exact I.call (g':=s.gens) (t':=tk) (d':=s.drawn) (ch:=[z,TI,TO,i1,i2]) un hok I.bare fun b hb=>by
   have fb:=hf b hb
   exact ⟨fb.2.2.2.1,fb.2.1,fb.2.2.2.2.1,fb.2.2.2.2.2⟩
 self:=fun _ _ _ _ _ st h=>wpAny_pyIter_zip st.1 h
theorem aIe:∀ (z:List Nat) (ds:List D),(yE z ds).length=min z.length ds.length
 | [],ds=>by simp [yE]
 | c :: z,[]=>by simp [yE]
 | c :: z,d :: ds=>by rw [yE,List.length_cons,List.length_cons,List.length_cons,aIe];omega
theorem aIf:∀ (z:List Nat) (ds:List D) (i:Nat) (d:D),(yE z ds)[i]?=some d->∃ c e,z[i]?=some c/\ds[i]?=some e/\d = .tup [.str [c],e]
 | [],ds,i,d,h=>by simp [yE] at h
 | c :: z,[],i,d,h=>by simp [yE] at h
 | c :: z,e :: ds,0,d,h=>by
  rw [yE] at h
  simp at h
  exact ⟨c,e,rfl,rfl,h.symm⟩
 | c :: z,e :: ds,i+1,d,h=>by
  rw [yE,List.getElem?_cons_succ] at h
  obtain ⟨c',e',h1,h2,h3⟩:=aIf z ds i d h
  exact ⟨c',e',by simpa using h1,by simpa using h2,h3⟩
section
variable{X:Cx}{B:List Addr}{a b:Expr}{f g:Ex}{pos:Pos}
theorem aY1{K:PySem.W.Frag}{A:List Addr}{H:Hp}{z:List Nat}{ds:List D}{vs:List V}{l:Addr}(hq:SqL K (hide (A++B) H) l vs)(r:bL K (hide (A++B) H) ds vs):aNe K B A H (Itz K z l) (yE z ds):=by
 intro A' H' le own i
 have hq':SqL K H' l vs:=(bN _ _).seq ((Le.app le).seq hq)
 refine ⟨fun d hd=>?_,fun hl=>⟨vs,hq',?_⟩⟩
 ·obtain ⟨c,e,h1,h2,rfl⟩:=aIf z ds i d hd
  obtain ⟨v,hv,rv⟩:=r.get h2
  refine ⟨⟨(List.getElem?_eq_some_iff.mp h1).1,vs,v,hq',hv⟩,fun x H3 y=>?_⟩
  obtain ⟨T,c',v',rfl,hT,hc',rfl,h5⟩:=y
  have hx:=h5 vs hq'
  rw [hv] at hx
  cases hx
  rw [h1] at hc'
  cases hc'
  exact ⟨cX hT,aAq own hT (.cons (bI.mpr rfl) (.cons (rv.mono (Le.app le)) .nil))⟩
 ·rw [aIe] at hl
  rw [r.length]
  omega
theorem aY2{elts:List Expr}{x1}{tp p:Pos}(hm:X.mg "zip" = none)(ha:PE X a (tI X.K B f))(hb:PE X b (tI X.K B g))(hg:Gl X "zip" := by rfl)(hs:starEach [a,b] X.env=(false,eval a X.env) :: starEach [b] X.env:=by rfl)(hs2:starEach [b] X.env=[(false,eval b X.env)]:=by rfl):L2.PI X (.Tuple elts x1 tp) (.Call (.Name "zip" p) [a,b] [] pos) (tIt X.K B (aUt f g)):=by
 intro pins s σ H Rq I ⟨A,st,ds,rs,hd,q⟩
 obtain ⟨x,hx,h2⟩:=R.ok_of hd
 obtain ⟨y,hy,h3⟩:=R.ok_of h2
 split at h3
 rotate_left
 ·cases h3
 rename_i zs ws
 cases h3
 refine Call_ (wM I hg hm boot_zip (PyProof.Rows.callWith_type1 (thn ((fG ha (fG hb kY hs2) hs) pos pins s σ H (fun vs H1=>∃ v w,vs=[v,w]/\bA H H1/\Rep X.K (hide (A++B) H1) (.str zs) v/\Rep X.K (hide (A++B) H1) (.lst ws) w) I ⟨A,st,_,rs,hx,fun v H1 s1 r1=>⟨A,st,_,rs.mono s1,hy,fun w H2 s2 r2=>⟨v,w,rfl,s1.trans s2,r1.mono (bA.hide s2),r2⟩⟩⟩) fun us s1 ⟨vs,H1,I1,r1,v,w,hv,sm,rv,rw'⟩=>?_) hs (by rw [hs2];rfl)))
 subst hv
 obtain ⟨u1,u2,rfl,ra,rb⟩:∃ u1 u2,us=[u1,u2]/\L2.RelV v u1/\L2.RelV w u2:=by
  cases r1 with
  | cons ra rb =>
   cases rb with
   | cons rb rc =>
    cases rc
    exact ⟨_,_,rfl,ra,rb⟩
 obtain ⟨l,ts,rfl,hq,rr⟩:=bZ.mp rw'
 have ev:=bI.mp rv
 subst ev
 obtain ⟨t,rfl⟩:=(show ∃ t,u1=Value.str ⟨zs.toArray⟩ t from ra)
 have eu:u2=Value.ref l:=rb
 subst eu
 obtain ⟨its,rvv,pl,hz⟩:=I1.list ((bN _ _).seq hq)
 have hlt:l < s1.heap.objs.size:=by
  obtain ⟨o,e,_⟩:=pl.isList
  exact Heap.lt_size e
 refine aNr pl.isList fun h' hz' hTI hTO hit1 hit2 hsz hk=>?_
 refine wpAny_pyIter_zip hz' ⟨s1.heap.objs.size+4,[s1.heap.objs.size+4,s1.heap.objs.size+2,s1.heap.objs.size+3,s1.heap.objs.size,s1.heap.objs.size+1],_,Itz X.K zs l,H1,rfl,I1.kept (t':=s1.toks) hk,aQu (t:=t) (aDo ⟨zs.toArray⟩) l (s1.heap.objs.size+4) (s1.heap.objs.size+2) (s1.heap.objs.size+3) s1.heap.objs.size (s1.heap.objs.size+1) (fun l' e=>?_),⟨hz',hTI,⟨_,_,hTO⟩,hit1,hit2⟩,fun b hb=>?_,q _ H1 sm (aY1 hq rr)⟩
 ·subst e
  exact aK4 hlt
 ·simp only [List.mem_cons,List.not_mem_nil,or_false] at hb
  rcases hb with rfl | rfl | rfl | rfl | rfl<;>exact I1.fpOk (by simp) (I1.hok.fresh (by simp))
end
end Pu
namespace Pu
open PySem PySem.Spec PyProof.Rows L2
section
variable{X:Cx}{B:List Addr}{a b e:Expr}{f g:Ex}{pos p0 p1 q:Pos}
theorem aY3{ta:TA}(hm:X.mg "range" = none)(ha:PA X [a] ta)(hg:Gl X "range" := by rfl)(hs:starEach [a] X.env=[(false,eval a X.env)]:=by rfl) :
  PE X (.Call (.Name "range" p1) [a] [] q) (fun σ H Q=>ta σ H fun vs H1=>∃ j:Int,vs=[.int j]/\∀ r,H1 r=none->Q (.ref r) (upd H1 r (.rng 0 j))):=by
 intro pins s σ H Q I h
 refine Call_ (wM I hg hm boot_range (PyProof.Rows.callWith_type1 (thn (ha q pins s σ H _ I h) fun us s1 ⟨vs,H1,I1,r1,j,e,qq⟩=>?_) hs rfl))
 subst e
 cases r1 with
 | cons r rr =>
  cases rr
  obtain ⟨t,rfl⟩:=r
  exact call_range_1 ⟨.ref s1.heap.objs.size,_,I1.laid (a:=s1.heap.objs.size) (o := .rng 0 j) (fun b o e=>Heap.get?_push_of_some _ e) (Nat.le_refl _) ⟨_,_,_,Heap.get?_push_size _ rfl⟩,rfl,qq _ (I1.hok.fresh (Nat.le_refl _))⟩
theorem aGb(hc:X.calm=true):oO X (.type "list") (fun vs H Q=>∃ r,∃ j:Int,vs=[.ref r]/\H r=some (.rng 0 j) /\ -10000000<=j/\j<=10000000/\∀ n,H n=none->Q (.ref n) (upd H n (.lst ((List.range j.toNat).map fun (k:Nat)=>V.int (k:Int))))):=by
 intro pins s σ H vs us Q I r h
 obtain ⟨l,j,rfl,hl,h1,h2,q⟩:=h
 obtain ⟨u,rfl,ru⟩:=r.one
 obtain rfl:u=Value.ref l:=ru
 obtain ⟨t,u,v,ho⟩:=(show ∃ t u v,s.heap.get? l=some { cls := .type "range", data := .fields #[.int 0 t,.int j u,.int 1 v] } from I.hok l _ hl)
 have hn:Builtin.Range.rangeSize 0 j 1=(j.toNat:Nat):=by rw [rangeSize_one];split<;>omega
 refine call_list_range (I.ok.hd hc) ho (small_one (by omega) (by omega) (by omega) (by omega)) hn (by omega) fun h' tk acc c' hk hs hi=>?_
 refine ⟨.ref s.heap.objs.size,_,I.laid (o := .lst ((List.range j.toNat).map fun (k:Nat)=>V.int (k:Int))) (t':=tk) hk (Nat.le_refl _) ⟨?_,acc.toList,c',?_,by simpa using hs⟩,rfl,q _ (I.hok.fresh (Nat.le_refl _))⟩
 ·rw [List.length_map,List.length_range,sizeLine_eq];omega
 ·obtain ⟨h3,h4⟩:=hi
  have key:∀ (n:Nat) (xs:List Value),xs.length=n->(∀ (k:Nat) w,xs[k]?=some w->∃ t,w = .int (0+(k:Int) * 1) t)->Vals ((List.range n).map fun (k:Nat)=>V.int (k:Int)) xs:=by
   intro n
   induction n with
   | zero=>intro xs hx _;rw [List.length_eq_zero_iff.mp hx];exact .nil
   | succ n ih =>
    intro xs hx hp
    obtain ⟨ys,y,rfl⟩:∃ ys y,xs=ys++[y]:=by
     rcases List.eq_nil_or_concat xs with e | ⟨ys,y,e⟩
     ·rw [e] at hx;simp at hx
     ·exact ⟨ys,y,by rw [e,List.concat_eq_append]⟩
    have hy:ys.length=n:=by simpa using hx
    rw [List.range_succ,List.map_append]
    refine (ih ys hy fun k w hk=>?_).append (.cons ?_ .nil)
    ·exact hp k w (by rw [List.getElem?_append_left (List.getElem?_eq_some_iff.mp hk).1];exact hk)
    ·obtain ⟨t,e⟩:=hp n y (by rw [List.getElem?_append_right (by omega),hy];simp)
     exact ⟨t,by rw [e];simp⟩
  exact key _ _ (by simpa using h3) fun k w hk=>by
   obtain ⟨t,e⟩:=h4 k w (by simpa using hk)
   exact ⟨t,e⟩
theorem aK6{K:PySem.W.Frag}{H:Hp}(n:Nat):bL K H (fL 0 n) ((List.range n).map fun (k:Nat)=>V.int (k:Int)):=by
 unfold fL
 generalize List.range n=l
 induction l with
 | nil=>exact .nil
 | cons x l ih=>exact .cons (aV.mpr (by rw [Int.zero_add])) ih
theorem aQv(hm:X.mg "list" = none)(hr:X.mg "range" = none)(hc:X.calm=true)(ha:PE X a (tP X.K B f))(hg:Gl X "list" := by rfl)(hg2:Gl X "range" := by rfl)(hs:starEach [a] X.env=(false,eval a X.env) :: starEach [] X.env:=by rfl)(hs2:starEach [Expr.Call (.Name "range" p1) [a] [] q] X.env=(false,eval (.Call (.Name "range" p1) [a] [] q) X.env) :: starEach [] X.env:=by rfl) :
  PE X (.Call (.Name "list" p0) [.Call (.Name "range" p1) [a] [] q] [] pos) (tI X.K B (e1 aFf f)):=by
 refine cI (aDv (aGb hc) hg hm (by rfl) (fG (aY3 hr (fG ha kY hs) hg2 hs) kY hs2) (he:=hs2)) ?_
 rintro σ H Q ⟨A,st,d,rs,hd,qq⟩
 obtain ⟨x,hx,h2⟩:=R.ok_of hd
 refine ⟨A,st,x,rs,hx,fun v H1 s1 r1=>?_⟩
 cases x<;>first | (cases h2;done) | skip
 rename_i j
 obtain ⟨c,h3⟩:=aJ h2
 cases h3
 rw [nJ] at c
 refine ⟨j,by rw [r1.int],fun r hr=>⟨r,j,rfl,cH,by omega,by omega,fun n hn=>?_⟩⟩
 have w1:=rs.own.mono (s1.trans (cX (o := .rng 0 j) hr))
 exact qq _ _ (s1.trans ((cX hr).trans (cX hn))) (iI w1 hn (aK6 _))
theorem aTq(i:Nat){x:Str}{pos' dp:Pos}(hk:PE X a (tI X.K B g))(hv:PE X b (tI X.K B f))(hN:X.N.Nodup)(hi:X.N[i]?=some x:=by rfl)(hx:Loc X.env.scope x:=by first | exact Or.inl rfl | exact Or.inr rfl)(hs:swapsWith (.Dict [some a] [b] dp) (some (.Name x pos')) pos.line X.env=pure false:=by rfl)
  (hf:X.fn x=true\/X.env.scope.names.lookup x=some .local:=by first | exact .inl rfl | exact .inr rfl | assumption):PS X (.Assign [.Name x pos'] (.Dict [some a] [b] dp) pos) (tS X.K B (aJ6 i g f)):=fC (aBk hN hi hx (aRx (aOo hk hv aRw) rfl rfl (by simp) (show 1<=15 by omega)) hs hf) (by
 rintro Dn σ H ⟨A,st,r,rs,hr,p⟩
 obtain ⟨k,hk,h2⟩:=R.ok_of hr
 obtain ⟨d,hd,h3⟩:=R.ok_of h2
 obtain ⟨⟨c1,c2⟩,h4⟩:=aJ h3
 cases h4
 intro a ha
 refine ⟨A,st,k,rs.mono (cX ha),hk,fun u H1 s1 r1=>⟨A,st,d,(rs.mono (cX ha)).mono s1,hd,fun v H2 s2 r2=>?_⟩⟩
 have e2:H2 a=some (.dK []):=s2 _ _ (s1 _ _ cH)
 obtain ⟨kk,ek,ev⟩:∃ kk:Key,kW kk=k/\u=kV kk:=by
  cases k<;>first | (cases c1;done) | skip
  ·exact ⟨.inl _,rfl,aV.mp r1⟩
  ·refine ⟨.inr ⟨_⟩,?_,bI.mp r1⟩
   simp [kW]
 refine ⟨e2,[(kk,v)],by rw [ev];rfl,(show 1<=15 by omega),?_⟩
 let G:Hp:=fun b=>if b=a then none else H2 b
 have sG:bA H G:=fun b o z=>by
  have hb:b≠a:=bK z ha
  show (if b=a then none else H2 b)=_
  rw [if_neg hb]
  exact s2 _ _ (s1 _ _ (by rw [bW hb];exact z))
 have gN:G a=none:=if_pos rfl
 have eG:upd H2 a (.dK (zQ [] [(kk,v)]))=upd G a (.dK [(kk,v)]):=by
  funext b
  by_cases hb:b=a
  ·subst hb;rw [cH,cH];rfl
  ·rw [bW hb,bW hb]
   exact (if_neg hb).symm
 rw [eG]
 exact p (a :: A) _ _ ((Le.of sG).trans (aG0 gN)) ((rs.mono sG).setO (kk := .d false [k]) i gN (.inl ⟨rfl,[(kk,v)],rfl,by rw [<-ek];rfl,rfl⟩) (.cons ((aQs c2 r2).mono aTn) .nil)))
end
end Pu
namespace Pu
open PySem PySem.Spec PyProof.Rows L2
theorem bitAnd_nn{i j:Int}(h1:0<=i)(h2:0<=j):Builtin.bitAnd i j=((i.toNat &&& j.toNat:Nat):Int):=by
 unfold Builtin.bitAnd
 rw [decide_eq_true h1,decide_eq_true h2]
theorem aQw{i j:Int}(h1:0<=i)(h2:0<=j):Builtin.bitOr i j=((i.toNat ||| j.toNat:Nat):Int):=by
 unfold Builtin.bitOr Builtin.bitAnd
 have a1:¬ 0<=Builtin.bitNot i:=by unfold Builtin.bitNot;omega
 have a2:¬ 0<=Builtin.bitNot j:=by unfold Builtin.bitNot;omega
 rw [decide_eq_false a1,decide_eq_false a2]
 have e1:Builtin.bitNot (Builtin.bitNot i)=i:=by unfold Builtin.bitNot;omega
 have e2:Builtin.bitNot (Builtin.bitNot j)=j:=by unfold Builtin.bitNot;omega
 show Builtin.bitNot (Builtin.bitNot _)=_
 rw [e1,e2]
 unfold Builtin.bitNot
 omega
section
variable{X:Cx}{B:List Addr}{a b e o:Expr}{f g:Ex}{pos apos cpos:Pos}
theorem aQx(ha:PE X a (tP X.K B f))(hb:PE X b (tP X.K B g)):PE X (.BinOp a .LShift b pos) (tI X.K B (e2 aDi f g)) :=
 aDm aVq (aA4 (g:=fun i j => .int (i * 2 ^ j.toNat)) (fun _ _ _=>aV.mpr rfl) fun x y d e=>by
  unfold aDi at e
  split at e
  ·obtain ⟨c,e⟩:=aJ e;cases e;exact ⟨_,_,rfl,rfl,c,rfl⟩
  ·cases e) ha hb
theorem aQy(ha:PE X a (tP X.K B f))(hb:PE X b (tP X.K B g)):PE X (.BinOp a .RShift b pos) (tI X.K B (e2 aBw f g)) :=
 aDm aVr (aA4 (g:=fun i j => .int (i / 2 ^ j.toNat)) (fun _ _ _=>aV.mpr rfl) fun x y d e=>by
  unfold aBw at e
  split at e
  ·obtain ⟨c,e⟩:=aJ e;cases e;exact ⟨_,_,rfl,rfl,c,rfl⟩
  ·cases e) ha hb
theorem aD5(ha:PE X a (tP X.K B f))(hb:PE X b (tP X.K B g)):PE X (.BinOp a .BitAnd b pos) (tI X.K B (e2 zV f g)) :=
 aDm aVs (sI (g:=fun i j => .int (Builtin.bitAnd i j)) (fun _ _ _=>aV.mpr rfl) fun x y d e=>by
  unfold zV at e
  split at e
  ·obtain ⟨c,e⟩:=aJ e;cases e;exact ⟨_,_,rfl,rfl,by rw [bitAnd_nn c.1 c.2]⟩
  ·cases e) ha hb
theorem aMa(ha:PE X a (tP X.K B f))(hb:PE X b (tP X.K B g)):PE X (.BinOp a .BitOr b pos) (tI X.K B (e2 dOr f g)) :=
 aDm aZb (sI (g:=fun i j => .int (Builtin.bitOr i j)) (fun _ _ _=>aV.mpr rfl) fun x y d e=>by
  unfold dOr at e
  split at e
  ·obtain ⟨c,e⟩:=aJ e;cases e;exact ⟨_,_,rfl,rfl,by rw [aQw c.1 c.2]⟩
  ·cases e) ha hb
theorem aD6{K:PySem.W.Frag}{H:Hp}:∀ {l:List Int} {vs:List V},bL K H (l.map D.int) vs->vs=l.map V.int
 | [],vs,h=>cQ.mp h
 | i :: l,vs,h=>by
  obtain ⟨v,r,rfl,h1,h2⟩:=bY.mp h
  rw [aV.mp h1,aD6 h2];rfl
theorem vals_ints:∀ {l:List Int} {us:List Value},Vals (l.map V.int) us->∀ (j:Nat) (h:j < us.length),∃ i t,l[j]?=some i/\us[j] = .int i t
 | [],us,r,j,h=>by cases r;simp at h
 | i :: l,us,r,j,h=>by
  cases r with
  | cons ra rb =>
   obtain ⟨t,rfl⟩:=ra
   cases j with
   | zero=>exact ⟨i,t,rfl,rfl⟩
   | succ j =>
    obtain ⟨i',t',h1,h2⟩:=vals_ints rb j (by simpa using h)
    exact ⟨i',t',by simpa using h1,by simpa using h2⟩
theorem aNs:MtR X "list.index" (fun x vs H Q=>∃ (p:Addr) (l:List Int) (k:Int) (n:Nat),x=V.ref p/\vs=[.int k]/\SqL X.K H p (l.map V.int)/\l.findIdx? (fun i=>i==k)=some n/\l.length<=10000000/\Q (.int (n:Int)) H):=by
 intro pins s σ H x vs v us Q I rx rv h
 obtain ⟨p,l,k,n,rfl,rfl,hq,hn,hl,q⟩:=h
 obtain ⟨u,rfl,ru⟩:=rv.one
 obtain ⟨t,rfl⟩:=(show ∃ t,u=Value.int k t from ru)
 have ep:v=Value.ref p:=rx
 subst ep
 obtain ⟨its,rr,⟨⟨cls,dd,data,sl⟩,n0,ho,hc,_,hd⟩,hz⟩:=I.list hq
 have hlen:=rr.length
 rw [List.length_map] at hlen
 obtain ⟨h1,h2,h3⟩:=List.findIdx?_eq_some_iff_getElem.mp hn
 dsimp only at hc hd
 subst hc hd
 have hnu:n < its.length:=by omega
 refine call_meets PySem.F.slot_list_index ⟨_,ho,rfl⟩ PySem.F.entry_list_index (PySem.F.args_list_index_2 _ _) (PySem.SeqAt.list_indexAt p its.toArray n0 dd sl (.int k t) (fun y=>match y with | .int i _=>i==k | _=>false) n (by simpa using hnu) (by omega) ?_ fun m hm hmn=>?_) ⟨ho,fun y hy=>?_,?_⟩
 ·obtain ⟨i,t',e1,e2⟩:=vals_ints rr n hnu
  rw [List.getElem_toArray,e2]
  rw [List.getElem?_eq_getElem h1] at e1
  cases e1
  exact h2
 ·have hm':m < its.length:=by simpa using hm
  obtain ⟨i,t',e1,e2⟩:=vals_ints rr m hm'
  rw [List.getElem_toArray,e2]
  rw [List.getElem?_eq_getElem (by omega)] at e1
  cases e1
  have:=h3 m hmn
  simpa using this
 ·obtain ⟨m,hm,rfl⟩:=List.mem_iff_getElem.mp (show y∈its by simpa using hy)
  obtain ⟨i,t',e1,e2⟩:=vals_ints rr m hm
  rw [e2]
  exact (PySem.MeetsSeq.EqGives.int i k t' t).at _ _
 ·exact ⟨.int (n:Int),H,I.tok _,⟨_,rfl⟩,q⟩
theorem aQz{r:Exs}(ho:PE X o (tP X.K B f))(ha:PA X [e] (tA X.K B r))(hbase:attributeBase o "index" X.env (eval o X.env)=eval o X.env:=by rfl)
  (hfew:((backTo cpos (starEach [e] X.env)).all (fun x => !x.1)&&(backToKw cpos (keywordEach [] X.env)).all (fun x=>x.1.isSome)
   && decide (([e]:List Expr).length+([]:List Keyword).length+(if ([]:List Keyword).isEmpty then 0 else 1) < 30))=true:=by rfl)
  (hline:(apos.endLine==cpos.line)=true:=by rfl) (hs:starEach [e] X.env=(false,eval e X.env) :: starEach [] X.env:=by rfl) :
  PE X (.Call (.Attribute o "index" apos) [e] [] cpos) (tI X.K B (eMt aKz f r)):=by
 refine cI (aKn PySem.F.plainAttrs_list PySem.F.slot_list_index PySem.F.type_list_index aNs ho ha hbase hfew hline hs rfl) ?_
 rintro σ H Q ⟨A,st,d,rs,hd,k⟩
 obtain ⟨x,hx,h2⟩:=R.ok_of hd
 obtain ⟨xs,hxs,h3⟩:=R.ok_of h2
 unfold aKz at h3
 split at h3
 ·rename_i ys j
  obtain ⟨l,hl,h4⟩:=R.ok_of h3
  obtain ⟨n,hn,h5⟩:=R.ok_of h4
  obtain ⟨c,h6⟩:=aJ h5
  cases h6
  have ey:=yC hl
  subst ey
  refine ⟨A,st,_,rs,hx,fun v H1 s1 r1=>?_⟩
  obtain ⟨p,vs,e1,hq,rr⟩:=r1.lst
  have ev:=aD6 rr
  subst ev
  refine ⟨by rw [e1];exact .inl ⟨rfl,_,hq⟩,A,st,_,rs.mono s1,hxs,fun ws H2 s2 r2=>?_⟩
  obtain ⟨w,rfl,rw'⟩:=aEr r2
  rw [nJ,List.length_map] at c
  exact ⟨p,l,j,n,e1,by rw [aV.mp rw'],s2.seq hq,sJ hn,c,k _ H2 (s1.trans s2) (aV.mpr rfl)⟩
 ·cases h3
theorem aTr:MtR X "int.bit_length" (fun x vs H Q=>∃ i:Int,x = .int i/\vs=[]/\Q (.int ((Builtin.Int.intBits i:Nat):Int)) H):=by
 intro pins s σ H x vs v us Q I rx rv h
 obtain ⟨i,rfl,rfl,q⟩:=h
 obtain ⟨t,rfl⟩:=(show ∃ t,v=Value.int i t from rx)
 have hus:=rv.zero
 subst hus
 exact call_int_bit_length ⟨.int _,H,I.tok _,⟨_,rfl⟩,q⟩
theorem aTs(i:Int):Builtin.Int.intBits i=nQ i:=by
 unfold Builtin.Int.intBits nQ
 by_cases h:i=0
 ·rw [if_pos h,if_pos (by rw [h];rfl)]
 ·rw [if_neg h,if_neg (by simpa using h)]
theorem aY4(ho:PE X o (tP X.K B f))(hbase:attributeBase o "bit_length" X.env (eval o X.env)=eval o X.env:=by rfl)(hline:(apos.endLine==cpos.line)=true:=by rfl) :
  PE X (.Call (.Attribute o "bit_length" apos) [] [] cpos) (tI X.K B (e1 aB5 f)):=by
 refine cI (aVz PySem.F.plainAttrs_int PySem.F.slot_int_bit_length PySem.F.type_int_bit_length aTr ho hbase hline) ?_
 rintro σ H Q ⟨A,st,d,rs,hd,k⟩
 obtain ⟨x,hx,h2⟩:=R.ok_of hd
 cases x<;>first | (cases h2;done) | skip
 cases h2
 refine ⟨A,st,_,rs,hx,fun v H1 s1 r1=>⟨by rw [r1.int];rfl,_,r1.int,rfl,?_⟩⟩
 rw [aTs]
 exact k _ H1 s1 (aV.mpr rfl)
end
end Pu
namespace Pu
open PySem PySem.Spec PyProof.Rows L2
section
open PySem.SeqAt
open PySem.AutoSeq1 (wpAny_loadPart')
open PySem.MeetsSeq PySem.MeetsSeq2 PySem.MeetsSeq3
inductive LexW (A:Around) (s:Shared):List Value->List Value->Bool->Prop where
 | nn:LexW A s [] [] true
 | nc {w:Value} {ws:List Value}:LexW A s [] (w :: ws) true
 | cn {v:Value} {vs:List Value}:LexW A s (v :: vs) [] false
 | eq {v w:Value} {vs ws:List Value} {b:Bool}:EqAt A s v w true->LexW A s vs ws b->LexW A s (v :: vs) (w :: ws) b
 | lt {v w:Value} {vs ws:List Value} {b:Bool}:EqAt A s v w false->(∀ (prog:Program) (wd:World) (E Q:Value->Shared->Prop),Q (.bool b) s->wpAny (model prog wd) A (richCompare .LtE v w) Q E s)->LexW A s (v :: vs) (w :: ws) b
end
section
variable{X:Cx}
end
end Pu
namespace Pu
open PySem PySem.Spec PyProof.Rows L2
theorem aY5{k:Key}{u:Value}(h:aA9 k u=true):L2.RelV (kV k) u:=by
 rcases eE h with ⟨i,t,rfl,rfl⟩ | ⟨x,t,rfl,rfl⟩
 ·exact ⟨t,rfl⟩
 ·exact ⟨t,rfl⟩
theorem aEx:∀ {kvs:List (Key × V)} {vs:List (Key × Value)} {us:List Value},KV kvs vs->us.length=vs.length->(∀ (j:Nat) (u:Value),us[j]?=some u->∃ k x,vs[j]?=some (k,x)/\aA9 k u=true)->Vals (kvs.map fun p=>kV p.1) us
 | [],_,us,r,hl,_=>by
  cases r
  rw [List.length_eq_zero_iff.mp hl]
  exact .nil
 | p :: kvs,_,us,r,hl,h=>by
  cases r with
  | @cons a b as bs h1 t =>
   cases us with
   | nil=>simp at hl
   | cons u us =>
    obtain ⟨k,x,e,hk⟩:=h 0 u rfl
    simp at e
    refine .cons ?_ (aEx t (by simpa using hl) fun j u hj=>?_)
    ·have:p.1=k:=by rw [h1.1,e]
     show L2.RelV (kV p.1) u
     rw [this]
     exact aY5 hk
    ·obtain ⟨k,x,e,hk⟩:=h (j+1) u (by simpa using hj)
     exact ⟨k,x,by simpa using e,hk⟩
section
variable{X:Cx}{B:List Addr}{a:Expr}{f:Ex}{pos p0:Pos}
theorem aY6{kvs:List (Key × V)}{vs:List (Key × Value)}(r:KV kvs vs):vs.length=kvs.length:=by
 unfold KV at r
 induction r with
 | nil=>rfl
 | cons _ _ ih=>simp [ih]
end
section
variable{X:Cx}{B:List Addr}{scope:Scope}{elt tg iter c:Expr}{pos:Pos}{t:Tg}{it:ItE}{f u:Ex}
theorem aR0{K:PySem.W.Frag}{A:List Addr}{H H1 H':Hp}{st:PSt}{σ:LSt}{p:Addr}{vs:List V}{ys:List D}(rs:RS K B A H st σ)(i:Nat)(s1:bA H H1)(hp:H1 p=none)(s2:bA H1 H')(hv:H' p=some (.lst vs))(r:bL K (hide (A++p :: B) H') ys vs) :
  RS K B (p :: A) H' (st.set i (some (.o .l ys))) (σ.set i (some (.ref p)))/\Le A H (p :: A) H':=by
 let G:Hp:=fun b=>if b=p then none else H' b
 have hpH:H p=none:=by
  cases h:H p with
  | none=>rfl
  | some o=>rw [s1 _ _ h] at hp;cases hp
 have sG:bA H G:=fun b o z=>by
  have hb:b≠p:=bK z hpH
  show (if b=p then none else H' b)=_
  rw [if_neg hb]
  exact s2 _ _ (s1 _ _ z)
 have gN:G p=none:=if_pos rfl
 have eG:upd G p (.lst vs)=H':=by
  funext b
  by_cases hb:b=p
  ·subst hb;rw [cH,hv]
  ·rw [bW hb];exact if_neg hb
 have eh:hide (A++p :: B) H'=hide (A++B) G:=by
  funext b
  by_cases hb:b∈A++p :: B
  ·rw [fO hb]
   rcases mem_mid.mp hb with e | e
   ·subst e
    by_cases hb2:b∈A++B
    ·rw [fO hb2]
    ·rw [cD hb2];exact gN.symm
   ·rw [fO e]
  ·have h2:b ∉ A++B:=fun z=>hb (mem_mid.mpr (.inr z))
   have h3:b≠p:=fun z=>hb (mem_mid.mpr (.inl z))
   rw [cD hb,cD h2]
   exact (if_neg h3).symm
 rw [eh] at r
 have z:=(rs.mono sG).setO (kk := .l) (o := .lst vs) i gN rfl r
 have l:=(Le.of (A:=A) sG).trans (aG0 (o := .lst vs) gN)
 rw [eG] at z l
 exact ⟨z,l⟩
theorem aMb(i:Nat){x:Str}{px spos:Pos}(is:List Nat)(hsub:aEq is t)(S:CScope X scope is)(hi:L2.PI X tg iter (tIt X.K B it))(hg:∀ (B:List Addr) (C:Addr) (s₀:Shared) (H₀:Hp) (fp:List Addr),PG (cO X scope C s₀ H₀ fp) tg (tG X.K B t))
  (he:∀ (B:List Addr) (C:Addr) (s₀:Shared) (H₀:Hp) (fp:List Addr),PE (cO X scope C s₀ H₀ fp) elt (tI X.K B f)) (hc:X.calm=true) (hN:X.N.Nodup) (hi':X.N[i]?=some x:=by rfl) (hx:Loc X.env.scope x:=by first | exact Or.inl rfl | exact Or.inr rfl)
  (hsw:swapsWith (.ListComp elt [⟨tg,iter,[],0⟩] scope pos) (some (.Name x px)) spos.line X.env=pure true:=by rfl)
  (hf:X.fn x=true\/X.env.scope.names.lookup x=some .local:=by first | exact .inl rfl | exact .inr rfl | assumption) (hs:∀ x,foldedSetIterable iter X.env x=pure x:=by intro _;rfl) :
  PS X (.Assign [.Name x px] (.ListComp elt [⟨tg,iter,[],0⟩] scope pos) spos) (tS X.K B (pG i (dU is t it fH f))):=by
 intro pins s σ H Dn I h
 obtain ⟨A,st,r,rs,hr,q⟩:=h
 obtain ⟨d,hd,h3⟩:=R.ok_of hr
 obtain ⟨xs,hx',h2⟩:=R.ok_of hd
 obtain ⟨hl,h5⟩:=aJ h2
 obtain ⟨ys,hy,h4⟩:=R.ok_of h5
 cases h4
 cases h3
 rw [exec_Assign_Name_used _ _ _ _ hsw]
 refine wpAny_bind (wpAny_standAt (wpAny_bind ?_))
 show wpAny _ X.A (do let _ <- comprehension (.ListComp elt [⟨tg,iter,[],0⟩] scope pos) scope X.env _ (newList []) false (eval iter X.env) (some (assign (.Name x px) X.env))) _ _ s
 refine wpAny_bind (wpAny_mono (Q:=fun _ s'=>SP X pins Dn .next s') ?_ (fun _ s' hq=>wpAny_pure (wpAny_pure hq)) fun _ _ e=>e)
 refine vK (use:=some (assign (.Name x px) X.env)) (Qf:=fun _ s'=>SP X pins Dn .next s') (Q:=fun v H'=>Dn.nx (σ.set i (some v)) H') (tt:=aG5) (te:=tIx X.K f) (rest:=fun env it p=>eval elt env >>= fun x=>call (.builtin "list.append") [p,x] >>= fun _=>again (.compLoop (.ListComp elt [⟨tg,iter,[],0⟩] scope pos) 0 it p env)) S hc hi (fun C s₀ H₀ fp=>aTc fun B=>hg B C s₀ H₀ fp) (fun _ _ _=>sU)
  (fun C s₀ H₀ fp it p s Q h=>bB7 (Y:=cO X scope C s₀ H₀ fp) h) (fun C s₀ H₀ fp it p τ H s pins vs N Q I h q=>aV2 (Y:=cO X scope C s₀ H₀ fp) rfl (aTb fun B=>he B C s₀ H₀ fp) τ H s pins vs N Q I h (fun Q Q' m h=>yU Q Q' m h) q) hs I
  (aLx hsub (fun τ H Q ⟨B,A,st,k,rs,hk,q⟩=>?_) rs hx' hl hy fun p vs H1 H' s1 hp s2 hv r=>?_) fun C p H5 s5 m5 s3 H3 fp τ hC I3 hfp I5 hn5 q5=>aEt hN hi' hx hf hC I3 hfp I5 hn5 fun s' I'=>⟨_,_,I',q5⟩
 ·obtain ⟨z,l⟩:=aR0 rs i s1 hp s2 hv r
  exact q _ _ _ l z
 ·cases hk
  exact q H (bA.refl _)
end
end Pu
namespace Pu
open PySem PySem.Spec PyProof.Rows L2
section
variable{X:Cx}{B:List Addr}{a:Expr}{f:Ex}{pos:Pos}
end
end Pu
namespace Pu
open PySem PySem.Spec PyProof.Rows L2
section
variable{X:Cx}{B:List Addr}{a b:Expr}{f g:Ex}{pos:Pos}{W:XW}
theorem aMc{r:R2}{o:Op2}(sem:sH X.K r o){σ:L2.St}{H:Hp}{Q:VK}(h:tIX X.K B W (e2X o f g) σ H Q):tOp r (tIX X.K B W f) (tP X.K B g) σ H Q:=by
 obtain ⟨A,st,rs,q⟩:=h
 unfold e2X at q
 refine ⟨A,st,rs,?_⟩
 cases hf:f st with
 | bad=>rw [hf] at q;exact q
 | exc x=>rw [hf] at q;exact q
 | ok x =>
  rw [hf] at q
  intro v H1 s1 r1
  cases hg:g st with
  | bad=>rw [hg] at q;exact q.elim
  | exc y=>rw [hg] at q;exact q.elim
  | ok y =>
   rw [hg] at q
   have q':(match (o x y).nox with
    | .ok d=>∀ v H',bA H H'->Rep X.K (hide (A++B) H') d v->Q v H'
    | .exc x=>∀ H',bA H H'->W x σ H'
    | .bad=>False):=q
   refine ⟨A,st,y,rs.mono s1,hg,fun u H2 s2 r2=>?_⟩
   cases ho:o x y with
   | bad=>rw [ho] at q';exact q'.elim
   | exc z=>rw [ho] at q';exact q'.elim
   | ok d =>
    rw [ho] at q'
    exact sem (A++B) H2 x y d v u Q (rs.own.mono (s1.trans s2)) (.inl (r1.mono (bA.hide s2))) r2 ho fun w H' s' r'=>q' w H' (s1.trans (s2.trans s')) r'
theorem bBi{op:Operator}{r:R2}{o:Op2}(ho:OpR X (binaryOp op) r)(sem:sH X.K r o)(ha:PE X a (tIX X.K B W f))(hb:PE X b (tP X.K B g)):PE X (.BinOp a op b pos) (tIX X.K B W (e2X o f g)) :=
 cI (aTy ho ha hb) fun _ _ _ h=>aMc sem h
theorem aR1{op:CmpOp}{r:R2}{o:Op2}(ho:OpR X (compareOp op) r)(sem:sH X.K r o)(ha:PE X a (tIX X.K B W f))(hb:PE X b (tP X.K B g))(hm:behindInMarks op b=false):PE X (.Compare a [op] [b] pos) (tIX X.K B W (e2X o f g)) :=
 cI (aKj ho ha hb hm) fun _ _ _ h=>aMc sem h
theorem aTt{K:PySem.W.Frag}:sH K (rI (fun _ j=>0 < j) fun i j => .int (i % j)) nY :=
 aA4 (g:=fun i j => .int (i % j)) (fun _ _ _=>aV.mpr rfl) fun x y d e=>by
  unfold nY at e
  split at e
  ·obtain ⟨c,e⟩:=aJ e;cases e;exact ⟨_,_,rfl,rfl,c,rfl⟩
  ·cases e
end
end Pu
namespace Pu
section
open PySem PySem.Spec PyProof.Rows L2
variable{X:Cx}{B:List Addr}{a b:Expr}{f g:Ex}{pos:Pos}
theorem aBi{K:PySem.W.Frag}:sH K (rI0 fun i j => .bl (decide (i < j))) aJ7:=sI (g:=fun i j => .bl (decide (i < j))) (fun _ _ _=>bO.mpr rfl) fun x y d e=>by
 unfold aJ7 at e
 split at e
 ·cases e;exact ⟨_,_,rfl,rfl,rfl⟩
 ·cases e
theorem aR2{i j:Int}(c:(-18446744073709551616 < i/\i < 18446744073709551616)\/(-18446744073709551616 < j/\j < 18446744073709551616)):aO7 i j:=by
 unfold aO7
 omega
theorem sW(ha:PE X a (tP X.K B f))(hb:PE X b (tP X.K B g)):PE X (.BinOp a .Mult b pos) (tI X.K B (e2 mW f g)):=by
 refine aDm aVo ?_ ha hb
 intro A H x y d v u Q w rx ry e q
 unfold mW at e
 split at e
 ·obtain ⟨c,e⟩:=aJ e
  cases e
  exact ⟨_,_,rx.int,ry.int,aR2 c,q _ H (bA.refl _) (aV.mpr rfl)⟩
 ·cases e
end
end Pu
namespace Pu
open PySem PySem.Spec PyProof.Rows L2
section
variable{X:Cx}{B:List Addr}{scope:Scope}{elt tg iter:Expr}{pos:Pos}{t:Tg}{it:ItE}{f g h:Ex}{rest:List Stmt}{i:Nat}{nb:NB}
end
end Pu
namespace Pu
open PySem PySem.Spec PyProof.Rows L2
section
variable{X:Cx}{pins:List (Addr × Obj)}{σ:List (Option V)}{H H':Hp}{s:Shared}{h':Heap}
end
section
variable{X:Cx}{B:List Addr}{a e:Expr}{es:List Expr}{f:Ex}{pos p0 apos cpos:Pos}{sm:Stmt}{rest:List Stmt}{bd bd':Bd}{r:Exs}
end
section
variable{P:Program}{w:World}{K:PySem.W.Frag}{mg:Str->Option Value}{base:Heap}{x qual:Str}{st:Stmt}{dV:Value}{f:Addr}{fd:FuncData}{N ps:List Str}{k:Nat}
end
section
variable{X:Cx}{B:List Addr}{e:Expr}{es:List Expr}{r:Exs}{pos p0:Pos}
end
section
variable{X:Cx}{B:List Addr}{e:Expr}{pos:Pos}{f:Ex}
end
end Pu
namespace Pu
open PySem PySem.Spec PyProof.Rows L2 PySem.Calls Builtin Builtin.ObjectAttr
section
variable{prog:Program}{w:World}{A:Around}{E:Value->Shared->Prop}{R:Result->Shared->Prop}{s:Shared}{K:PySem.W.Frag}{x dx C:Addr}{mA:Str->Option Value}{name:Str}{v:Value}{ox:Obj}
end
section
variable{prog:Program}{w:World}{A:Around}{E:Value->Shared->Prop}{hp:Heap}{gs:Array GenState}{dn:Drawn}{tn:Nat}{os:OsState}
variable{n0 q:Str}{C N:Addr}{l0 l1 l2:List Value}{z0:Bool}{l3:List Str}{l4:List Value}{z1:Bool}{z2:Option Bool}{z3:Option Addr}{k0 k1 k2 k3 k5:Option Value}{B newId initId:String}
end
section
variable{X:Cx}{pins:List (Addr × Obj)}{σ:List (Option V)}{H:Hp}{s:Shared}{h':Heap}{x dx C:Addr}
end
section
variable{X:Cx}{B:List Addr}{o e value:Expr}{f:Str}{pos pos':Pos}{ta tv:TE}
end
section
variable{X:Cx}{B:List Addr}{e:Expr}{es:List Expr}{r:Exs}{pos p0:Pos}
end
section
variable{P:Program}{w:World}{K:PySem.W.Frag}{mg:Str->Option Value}{base:Heap}{x qual:Str}{st:Stmt}{dV:Value}{f:Addr}{fd:FuncData}{N ps:List Str}{k:Nat}
end
section
variable{X:Cx}{B:List Addr}{e:Expr}{es:List Expr}{r:Exs}{pos p0:Pos}
end
end Pu
namespace Pu
open PySem PySem.Spec PyProof.Rows L2
section
variable{X:Cx}{B:List Addr}{o e x:Expr}{f g h:Ex}{apos cpos:Pos}
theorem aY7{K:PySem.W.Frag}{A:List Addr}{H:Hp}{t:Bool}{ks ds:List D}{v:V}(rx:lG K A H (.dct t ks ds) v):∃ a,v = .ref a/\IsD H a:=by
 rcases rx with h | ⟨a,kk,o,ds',vs,e,e2,h,ko,r⟩
 ·obtain ⟨a,vs,e,q,r⟩:=vH.mp h
  rcases q with ⟨_,kvs,q1,_,_⟩ | ⟨_,kvs,q1,_,_⟩
  ·exact ⟨a,e,.inl ⟨kvs,.inl (bN _ _ _ _ q1)⟩⟩
  ·exact ⟨a,e,.inr ⟨kvs,.inl (bN _ _ _ _ q1)⟩⟩
 ·cases kk<;>cases e
  rcases ko with ⟨_,kvs,q1,_⟩ | ⟨_,kvs,q1,_⟩
  ·subst q1;exact ⟨a,e2,.inl ⟨kvs,.inl h⟩⟩
  ·subst q1;exact ⟨a,e2,.inr ⟨kvs,.inl h⟩⟩
theorem aTu{K:PySem.W.Frag}{A:List Addr}{H:Hp}{d k z r:D}{v u y:V}{a:Addr}(hv:v = .ref a)(rx:lG K A H d v)(ry:Rep K (hide A H) k u)(rz:Rep K (hide A H) z y)(hd:aBx d k z = .ok r):∃ ov,vM H a u ov/\Rep K (hide A H) r (ov.getD y):=by
 unfold aBx at hd
 split at hd
 ·obtain ⟨hk,h2⟩:=aJ hd
  obtain ⟨a',ov,e3,g,hs,g2⟩:=aBd rx (ry.mono (bN _ _)) hk
  rw [hv] at e3
  cases e3
  refine ⟨ov,g,?_⟩
  split at h2
  ·obtain ⟨w,rfl,rw'⟩:=g2 r (sJ h2)
   exact rw'
  ·rename_i hn
   cases h2
   have:ov=none:=by
    cases ov with
    | none=>rfl
    | some w=>exact absurd (hs.symm.trans rfl) hn
   rw [this]
   exact rz
 ·cases hd
theorem aR3{d k z r:D}(hd:aBx d k z = .ok r):∃ t ks vs,d = .dct t ks vs:=by
 unfold aBx at hd
 split at hd
 ·exact ⟨_,_,_,rfl⟩
 ·cases hd
theorem aY8(hu:X.A.units+64 < cLine)(ho:PE X o (tP X.K B f))(he:PE X e (tI X.K B g))(m1:attributeBase o "get" X.env (eval o X.env)=eval o X.env:=by rfl)
  (m2:((backTo cpos (starEach [e] X.env)).all (fun x => !x.1)&&(backToKw cpos (keywordEach [] X.env)).all (fun x=>x.1.isSome)
   && decide (([e]:List Expr).length+([]:List Keyword).length+(if ([]:List Keyword).isEmpty then 0 else 1) < 30))=true:=by rfl)
  (m3:(apos.endLine==cpos.line)=true:=by rfl) (m4:backTo cpos (starEach [e] X.env)=[(false,eval e X.env)]:=by rfl):PE X (.Call (.Attribute o "get" apos) [e] [] cpos) (tI X.K B (aP4 f g (eC .non))):=by
 refine cI (aOp (by omega) ho he ⟨m1,m2,m3,m4⟩) ?_
 rintro σ H Q ⟨A,st,r,rs,hr,q⟩
 obtain ⟨d,hd,h2⟩:=R.ok_of hr
 obtain ⟨k,hk,h3⟩:=R.ok_of h2
 have h4:aBx d k .non = .ok r:=h3
 refine ⟨A,st,d,rs,hd,fun v H1 s1 rx=>?_⟩
 obtain ⟨t,ks,vs,rfl⟩:=aR3 h4
 obtain ⟨a,rfl,hD⟩:=aY7 rx
 refine ⟨a,rfl,hD,A,st,k,rs.mono s1,hk,fun u H2 s2 ry=>?_⟩
 obtain ⟨ov,g1,g2⟩:=aTu rfl (rx.mono s2) ry (cC.mpr rfl) h4
 exact ⟨ov,g1,q _ H2 (s1.trans s2) g2⟩
end
end Pu
namespace Pu
open PySem PyProof.Rows
section
variable{prog:Program}{w:World}{A:Around}{E:Value->Shared->Prop}{s:Shared}{T:String}{r d:Addr}{n:Nat}{P:Nat->Value->Prop}{OK:Heap->Prop}
theorem aY9{R:List Value->Shared->Prop}(K:PySem.W.KdlSrc prog w T r d n P OK)(hh:A.handled=none)(hok:OK s.heap)(hn:n<=sizeLine)
  (q:∀ (h':Heap) (tk:Nat) (vs:List Value),ItemsOf P vs.toArray n->(∀ b o,s.heap.get? b=some o->h'.get? b=some o)->R vs { s with heap:=h',toks:=tk }) :
  wpAny (model prog w) A (collect (.ref r)) R E s:=by
 unfold collect
 refine wpAny_bind (wpAny_runValue (codeAny_builtin entry_proto_collect' ?_))
 rw [Around.under_plainId PySem.F.plain_proto_collect _]
 refine (?_:wpAny _ A.in1 (newList [] >>= fun l=>again (.builtin "list.__iadd__" ⟨[l,.ref r],[]⟩)) _ _ s)
 refine wpAny_bind (wpAny_newObj_type (wpAny_pure ⟨plainId_quiet PySem.F.plain_list_iadd _,codeAny_builtin entry_list_iadd' ?_⟩))
 rw [Around.under_plainId PySem.F.plain_list_iadd _]
 have la:=K.there _ hok
 have hS:(s.heap.push { cls := .type "list", data := .seq ([]:List Value).toArray }).get? s.heap.objs.size=some { cls := .type "list", data := .seq #[] 0 }:=Heap.get?_push_size _ rfl
 have key:=PySem.W.kdl_extend (A:=A) (s:={ s with heap:=s.heap.push { cls := .type "list", data := .seq ([]:List Value).toArray } })
  (R:=fun (q:Result) (s':Shared)=>q = .ok (.ret (.ref s.heap.objs.size))/\∃ (h':Heap) (tk:Nat) (vs:List Value) (c:Nat),s'={ s with heap:=h',toks:=tk }/\ItemsOf P vs.toArray n/\(∀ b o,s.heap.get? b=some o->h'.get? b=some o)/\h'.get? s.heap.objs.size=some { cls := .type "list", dict:=none,data := .seq vs.toArray c,slots := #[] })
  K hh (K.keep _ _ hok fun b _ o e=>Heap.get?_push_of_some _ e) s.heap.objs.size (Nat.ne_of_gt la.1) (Nat.ne_of_gt la.2) (.ref s.heap.objs.size) 0 hS
  (fun h' tk acc c k o it=>⟨rfl,h',tk,acc.toList,c,rfl,by simpa using it,fun b o' ho=>k b o' (Nat.ne_of_lt (Heap.lt_size ho)) (Heap.get?_push_of_some _ ho),by simpa using o⟩) hn
 have last:∀ (h':Heap) (tk:Nat) (vs:List Value) (c:Nat),ItemsOf P vs.toArray n->(∀ b o,s.heap.get? b=some o->h'.get? b=some o)->h'.get? s.heap.objs.size=some { cls := .type "list", dict:=none,data := .seq vs.toArray c,slots := #[] } ->
   wpAny (model prog w) A (load s.heap.objs.size >>= fun o=>match o.data with | .seq xs _=>pure xs.toList | _=>unsupported "internal:collect") R E { s with heap:=h',toks:=tk }:=fun h' tk vs c nv k o=>by
  refine wpAny_bind (wpAny_load o ?_)
  exact wpAny_pure (q h' tk vs nv k)
 refine wpAny_mono key (fun fin s' y=>?_) fun e s' y=>nomatch y.1
 cases fin with
 | done f =>
  obtain ⟨e,h',tk,vs,c,rfl,nv,k,o⟩:=y
  cases e
  exact last h' tk vs c nv k o
 | again c₁ =>
  refine ⟨y.1,codeAny_mono y.2 fun q s₂ z=>?_⟩
  obtain ⟨rfl,h',tk,vs,c,rfl,nv,k,o⟩:=z
  exact last h' tk vs c nv k o
theorem aK7{Q:Value->Shared->Prop}(K:PySem.W.KdlSrc prog w T r d n P OK)(hh:A.handled=none)(hok:OK s.heap)(few:n < 64){ns:List Int}(isN:∀ vs:List Value,ItemsOf P vs.toArray n->IntsAre vs ns)
  (q:∀ (D:Addr) (h':Heap) (tk:Nat) (out:Array Value) (ns':List Int) (c:Nat),IntsAre out.toList ns'->ns'.Perm ns->ns'.Pairwise (· <= ·)->(∀ b o,s.heap.get? b=some o->h'.get? b=some o)->(∀ b o,s.heap.get? b=some o->b < D)->h'.get? D=some (seqObj "list" out c)->Q (.ref D) { s with heap:=h',toks:=tk }) :
  wpAny (model prog w) A (call (.builtin "sorted") [.ref r]) Q E s:=by
 refine Calls.call_function_entry kind_sorted plain_sorted entry_sorted (args_sorted1 _) ?_
 unfold Builtin.«sorted»
 refine wpAny_bind (m:=checkCount "sorted" 1 1 _) (wpAny_pure (wpAny_bind (aY9 (A:=A.in1) K hh hok (by rw [sizeLine_eq];omega) fun h' tk vs nv k=>?_)))
 have l64:vs.length < 64:=by
  have:=nv.1
  rw [List.size_toArray] at this
  omega
 refine wpAny_bind (wpAny_newList ?_ (by rw [sizeLine_eq];omega))
 have o:(h'.push (seqObj "list" vs.toArray 0)).get? h'.objs.size=some (seqObj "list" vs.toArray 0):=Heap.get?_push_size _ rfl
 refine wpAny_bind (wpAny_holding (wpAny_call_entry slot_list_sort ⟨_,o,rfl⟩ entry_list_sort (list_sort_tree o (isN vs nv) l64 fun out ns' e1 e2 e3=>⟨_,rfl,?_⟩) (args_list_sort _)))
 obtain ⟨c,oc⟩:=sortedHeap_at (out:=out) o
 refine wpAny_pure ⟨_,rfl,q _ _ tk out ns' c e1 e2 e3 (fun b ob hb=>?_) (fun b ob hb=>Heap.lt_size (k b ob hb)) oc⟩
 have l:=Heap.lt_size (k b ob hb)
 rw [sortedHeap_old (Nat.ne_of_lt l) (by rw [Heap.size_push];exact Nat.lt_succ_of_lt l)]
 exact Heap.get?_push_of_some _ (k b ob hb)
end
end Pu
namespace Pu
open PySem PySem.Spec PyProof.Rows L2
theorem aYa{l m:List Int}(h:m.Perm l)(hw:m.Pairwise (· <= ·)):m=aFg l:=List.Perm.eq_of_pairwise (le:=(· <= ·)) (fun a b _ _ h1 h2=>Int.le_antisymm h1 h2) hw (aGw l) (h.trans (aBy l).symm)
theorem aIg:∀ {us:List Value} {ns:List Int},IntsAre us ns->Vals (ns.map V.int) us
 | _,_,.nil => .nil
 | _,_,.cons n t h => .cons ⟨t,rfl⟩ (aIg h)
theorem aR4{P:Program}{w:World}{H:Hp}{h:Heap}{a:Addr}{o:HO}(x:jD P w H h a o):∃ u,h.get? a=some u:=by
 cases o with
 | lst xs=>obtain ⟨_,_,_,_,e⟩:=x;exact ⟨_,e⟩
 | tup xs=>obtain ⟨_,_,_,o,e,_⟩:=x;exact ⟨_,e⟩
 | dK kvs=>obtain ⟨_,_,_,_,o,_,_,e,_⟩:=x;exact ⟨_,e⟩
 | dT kvs=>obtain ⟨_,_,_,_,o,_,_,e,_⟩:=x;exact ⟨_,e⟩
 | set S n=>obtain ⟨o,_,_,_,e,_⟩:=x;exact ⟨_,e⟩
 | ins C dx fs=>obtain ⟨_,_,_,e,_⟩:=x;exact ⟨_,e⟩
 | own y=>obtain ⟨_,e⟩:=x;exact ⟨_,e⟩
 | xd fs=>obtain ⟨_,⟨_,_,_,e,_⟩,_⟩:=x;exact ⟨_,e⟩
 | rng lo hi=>obtain ⟨_,_,_,e⟩:=x;exact ⟨_,e⟩
 | frz ob u=>obtain ⟨e,_⟩:=x;exact ⟨_,e⟩
 | tbl ps=>exact ⟨_,(show h.get? a=some _ from x)⟩
 | met f y=>exact ⟨_,(show h.get? a=some _ from x)⟩
 | ext φ=>obtain ⟨_,⟨_,e⟩,_⟩:=x;exact ⟨_,e⟩
section
variable{X:Cx}{B:List Addr}{a e:Expr}{f:Ex}{pos p0:Pos}
theorem aNt(hc:X.calm=true):oO X (.builtin "sorted") (fun xs H Q=>∃ (p:Addr) (kvs:List (Key × V)) (ns:List Int),xs=[.ref p]/\H p=some (.dK kvs)/\(kvs.map fun p=>kV p.1)=ns.map V.int/\ns.length < 64/\∀ l,H l=none->Q (.ref l) (upd H l (.lst ((aFg ns).map V.int)))):=by
 intro pins s σ H xs us Q I r h
 obtain ⟨p,kvs,ns,rfl,hl,hk',hn,q⟩:=h
 obtain ⟨u,rfl,rx⟩:=vals1 r
 cases rx
 obtain ⟨hz,hs,ys,kv,hd⟩:=aOl I.hok hl
 have hlen:=aY6 kv
 have hln:kvs.length=ns.length:=by
  have:=congrArg List.length hk'
  simpa using this
 obtain ⟨ep,hat⟩:=hd.dictAt
 refine aK7 (PySem.W.kdl_dict (knd:=dW X.prog X.w) hs) (I.ok.hd hc) hat (by omega) (ns:=ns) (fun vs it=>aIc ?_) fun D h' tk out ns' c ho hp hw hk hD hd=>?_
 ·rw [<-hk']
  obtain ⟨h3,h4⟩:=it
  exact aEx kv (by simpa using h3) fun j u hj=>h4 j u (by simpa using hj)
 obtain rfl:=aYa hp hw
 have hDn:H D=none:=by
  cases hH:H D with
  | none=>rfl
  | some o =>
   obtain ⟨u,e⟩:=aR4 (I.hok D o hH)
   exact absurd (hD D u e) (Nat.lt_irrefl _)
 have sm:bA H (upd H D (.lst ((aFg ns).map V.int))):=cX hDn
 have hl':(aFg ns).length=ns.length:=(aBy ns).length_eq
 refine ⟨.ref D,upd H D (.lst ((aFg ns).map V.int)),I.step (g':=s.gens) (t':=tk) (ch:=[]) (fun _ z=>nomatch z) (fun b o _ _ _ e _=>hk b o e) (fun b o _ _ _ e _=>⟨o.slots,hk b o e⟩) (fun b o _ e n=>by rw [bW (Nat.ne_of_lt (hD b o e))];exact n) (fun b o _ e=>⟨o,hk b o e⟩) (fun b xs e=>sm _ _ e) (fun b o u e=>sm _ _ e) (fun b ps e=>⟨#[],by rw [sm _ _ e];simp⟩) (fun m ⟨o,es,ep,ho,r⟩=>⟨o,es,ep,hk _ o ho,r⟩) (fun b o e=>?_) I.bare,rfl,q _ hDn⟩
 by_cases hb:b=D
 ·subst hb
  rw [cH] at e
  cases e
  exact ⟨by rw [List.length_map,hl',sizeLine_eq];omega,out.toList,c,aIg ho,by simpa using hd⟩
 ·rw [bW hb] at e
  exact (I.hok b _ e).stay (fun b v _ q=>hk b v q) (fun b q=>sm _ _ q) fun b xs q=>sm _ _ q
theorem aIh{K:PySem.W.Frag}{H:Hp}:∀ (l:List Int),bL K H (l.map D.int) (l.map V.int)
 | [] => .nil
 | _ :: l => .cons (aV.mpr rfl) (aIh l)
theorem aEy:∀ {kvs:List (Key × V)} {l:List Int},(kvs.map fun p=>kW p.1)=l.map D.int->(kvs.map fun p=>kV p.1)=l.map V.int
 | [],[],_=>rfl
 | [],_ :: _,h=>nomatch h
 | _ :: _,[],h=>nomatch h
 | ⟨k,v⟩ :: kvs,i :: l,h=>by
  simp only [List.map_cons,List.cons.injEq] at h ⊢
  refine ⟨?_,aEy h.2⟩
  cases k with
  | inl j=>have:=h.1;simp only [kW] at this;cases this;rfl
  | inr x=>exact nomatch h.1
theorem aYb(hm:X.mg "sorted" = none)(hc:X.calm=true)(ha:PE X a (tI X.K B f))(hg:Gl X "sorted" := by rfl)(hs:starEach [a] X.env=(false,eval a X.env) :: starEach [] X.env:=by rfl):PE X (.Call (.Name "sorted" p0) [a] [] pos) (tI X.K B (e1 aL0 f)):=by
 refine cI (tX (aNt hc) hg hm PyProof.Rows.boot_sorted (fG ha kY hs) (he:=hs)) ?_
 rintro σ H Q ⟨A,st,d,rs,hd,q⟩
 obtain ⟨x,hx,h2⟩:=R.ok_of hd
 refine ⟨A,st,x,rs,hx,fun v H1 s1 r1=>?_⟩
 unfold aL0 at h2
 split at h2
 ·obtain ⟨l,hl,h3⟩:=R.ok_of h2
  obtain ⟨c,h4⟩:=aJ h3
  cases h4
  obtain ⟨p,vs,rfl,h4,r4⟩:=vH.mp r1
  rcases h4 with ⟨_,kvs,h5,rfl,rfl⟩ | ⟨h5,_⟩
  ·exact ⟨p,kvs,l,rfl,bN _ _ _ _ h5,aEy (yC hl),c,fun n hn=>q _ _ (s1.trans (cX hn)) (iI (rs.own.mono s1) hn (aIh _))⟩
  ·cases h5
 ·cases h2
end
end Pu
set_option maxHeartbeats 4000000
namespace Pu
open PySem PySem.Spec PyProof.Rows L2
def top(i:Nat):Stmt:=PySem.Challenge.pw_looprank_k26_whole_rings_are_loops.main.body.getD i (.Pass ⟨0,0,0,0⟩)
def inCls(s:Stmt)(j:Nat):Stmt:=match s with
 | .ClassDef _ _ _ b _ _ _ _ _ _ _=>b.getD j (.Pass ⟨0,0,0,0⟩)
 | _ => .Pass ⟨0,0,0,0⟩
abbrev jW:Stmt:=top 39
abbrev lZ:Stmt:=top 40
abbrev fY:Stmt:=top 41
abbrev jX:Stmt:=top 46
abbrev jY:Stmt:=top 47
abbrev oJ:Stmt:=top 24
abbrev mC:Stmt:=top 25
abbrev mF:Stmt:=top 26
abbrev iW:Stmt:=top 28
abbrev iY:Stmt:=top 30
abbrev gO:Stmt:=top 31
abbrev iZ:Stmt:=top 32
abbrev oK:Stmt:=top 33
abbrev mG:Stmt:=top 34
abbrev oM:Stmt:=top 35
abbrev jZ:Stmt:=top 27
abbrev kE:Stmt:=top 29
abbrev oN:Stmt:=top 9
abbrev jA:Stmt:=top 10
abbrev mH:Stmt:=top 14
abbrev mJ:Stmt:=top 15
abbrev cT:Stmt:=inCls (top 20) 1
abbrev cP:Stmt:=inCls (top 20) 3
abbrev fZ:Stmt:=inCls (top 20) 6
abbrev gA:Stmt:=inCls (top 20) 7
abbrev eO:Stmt:=top 48
abbrev jB:Stmt:=top 42
abbrev gB:Stmt:=top 43
abbrev jC:Stmt:=top 44
abbrev kI:Stmt:=top 22
abbrev rF:Stmt:=top 36
abbrev mK:Stmt:=top 37
abbrev dO:Stmt:=top 49
abbrev eQ:Stmt:=top 16
abbrev rG:Stmt:=top 17
abbrev kJ:Stmt:=top 18
abbrev kO:Stmt:=top 19
abbrev dI:Stmt:=inCls (top 20) 0
abbrev yX:Stmt:=top 50
theorem yZ:FnScope ["_law_script", "_law_k"] ["_law_script", "_law_k"] (aF jW):=⟨rfl,rfl,rfl,by decide +kernel,rfl,by decide +kernel,by decide +kernel⟩
theorem aAt:FnScope ["_law_cell_here", "_law_k", "_law_many", "_law_number"] ["_law_cell_here", "_law_k", "_law_many"] (aF lZ):=⟨rfl,rfl,rfl,by decide +kernel,rfl,by decide +kernel,by decide +kernel⟩
theorem tE:FnScope ["_law_script", "_law_at", "_law_most", "_law_cell_here", "_law_rooms", "_law_letters", "_law_factor", "_law_steps", "_law_ranks", "_law_room", "_law_one", "_law_row", "_law_rank", "_law_k"] ["_law_script", "_law_at", "_law_most"] (aF fY):=⟨rfl,rfl,rfl,by decide +kernel,rfl,by decide +kernel,by decide +kernel⟩
theorem zA:FnScope ["_law_cell_here", "_law_letters", "_law_least", "_law_most", "_law_size", "_law_k"] ["_law_cell_here", "_law_letters", "_law_least", "_law_most"] (aF jX):=⟨rfl,rfl,rfl,by decide +kernel,rfl,by decide +kernel,by decide +kernel⟩
theorem zB:FnScope ["_law_steps", "_law_room", "_law_front", "_law_turn", "_law_letter", "_law_k", "_law_ring_here"] ["_law_steps", "_law_room", "_law_front", "_law_turn"] (aF jY):=⟨rfl,rfl,rfl,by decide +kernel,rfl,by decide +kernel,by decide +kernel⟩
theorem aD7:FnScope ["rooms", "bits", "room"] ["rooms"] (aF oJ):=⟨rfl,rfl,rfl,by decide +kernel,rfl,by decide +kernel,by decide +kernel⟩
theorem aAu:FnScope ["bits", "room"] ["bits", "room"] (aF mC):=⟨rfl,rfl,rfl,by decide +kernel,rfl,by decide +kernel,by decide +kernel⟩
theorem aAv:FnScope ["bits", "room"] ["bits"] (aF mF):=⟨rfl,rfl,rfl,by decide +kernel,rfl,by decide +kernel,by decide +kernel⟩
theorem wG:FnScope ["steps", "allowed", "rooms", "seen", "room", "middle"] ["steps", "allowed"] (aF iW):=⟨rfl,rfl,rfl,by decide +kernel,rfl,by decide +kernel,by decide +kernel⟩
theorem wH:FnScope ["steps", "part", "rooms"] ["steps", "part"] (aF iY):=⟨rfl,rfl,rfl,by decide +kernel,rfl,by decide +kernel,by decide +kernel⟩
theorem uX:FnScope ["steps", "allowed", "seen", "parts", "room", "part", "other"] ["steps", "allowed"] (aF gO):=⟨rfl,rfl,rfl,by decide +kernel,rfl,by decide +kernel,by decide +kernel⟩
theorem wI:FnScope ["machine", "allowed"] ["machine", "allowed"] (aF iZ):=⟨rfl,rfl,rfl,by decide +kernel,rfl,by decide +kernel,by decide +kernel⟩
theorem aD8:FnScope ["machine", "bits"] ["machine", "bits"] (aF oK):=⟨rfl,rfl,rfl,by decide +kernel,rfl,by decide +kernel,by decide +kernel⟩
theorem aAw:FnScope ["machine", "bits", "room"] ["machine", "bits"] (aF mG):=⟨rfl,rfl,rfl,by decide +kernel,rfl,by decide +kernel,by decide +kernel⟩
theorem aD9:FnScope ["machine", "bits"] ["machine", "bits"] (aF oM):=⟨rfl,rfl,rfl,by decide +kernel,rfl,by decide +kernel,by decide +kernel⟩
theorem zE:FnScope ["machine"] ["machine"] (aF jZ):=⟨rfl,rfl,rfl,by decide +kernel,rfl,by decide +kernel,by decide +kernel⟩
theorem zF:FnScope ["machine", "room"] ["machine", "room"] (aF kE):=⟨rfl,rfl,rfl,by decide +kernel,rfl,by decide +kernel,by decide +kernel⟩
theorem aDa:FnScope ["thing", "many"] ["thing", "many"] (aF oN):=⟨rfl,rfl,rfl,by decide +kernel,rfl,by decide +kernel,by decide +kernel⟩
theorem wJ:FnScope ["thing", "many"] ["thing", "many"] (aF jA):=⟨rfl,rfl,rfl,by decide +kernel,rfl,by decide +kernel,by decide +kernel⟩
theorem aAx:FnScope ["thing"] ["thing"] (aF mH):=⟨rfl,rfl,rfl,by decide +kernel,rfl,by decide +kernel,by decide +kernel⟩
theorem aAy:FnScope ["thing", "limit"] ["thing", "limit"] (aF mJ):=⟨rfl,rfl,rfl,by decide +kernel,rfl,by decide +kernel,by decide +kernel⟩
theorem lN:FnScope ["self", "thing"] ["self", "thing"] (aF cT):=⟨rfl,rfl,rfl,by decide +kernel,rfl,by decide +kernel,by decide +kernel⟩
theorem lL:FnScope ["self", "room", "text", "rooms", "letter"] ["self", "room", "text"] (aF cP):=⟨rfl,rfl,rfl,by decide +kernel,rfl,by decide +kernel,by decide +kernel⟩
theorem tH:FnScope ["self", "word", "room", "rooms", "begun", "ahead"] ["self", "word", "room"] (aF fZ):=⟨rfl,rfl,rfl,by decide +kernel,rfl,by decide +kernel,by decide +kernel⟩
theorem tK:FnScope ["self", "word", "room", "ring", "place"] ["self", "word", "room"] (aF gA):=⟨rfl,rfl,rfl,by decide +kernel,rfl,by decide +kernel,by decide +kernel⟩
theorem pQ:FnScope ["_law_machine_here", "_law_steps", "_law_ranks", "_law_room", "_law_word_here", "_law_ring_here", "_law_bits", "_law_good", "_law_some", "_law_part", "_law_one"] ["_law_machine_here", "_law_steps", "_law_ranks", "_law_room", "_law_word_here"] (aF eO):=⟨rfl,rfl,rfl,by decide +kernel,rfl,by decide +kernel,by decide +kernel⟩
theorem wK:FnScope ["_law_steps", "_law_bits", "_law_room", "_law_found", "_law_at", "_law_goal"] ["_law_steps", "_law_bits", "_law_room"] (aF jB):=⟨rfl,rfl,rfl,by decide +kernel,rfl,by decide +kernel,by decide +kernel⟩
theorem tL:FnScope ["_law_steps", "_law_bits", "_law_rooms", "_law_room"] ["_law_steps", "_law_bits"] (aF gB):=⟨rfl,rfl,rfl,by decide +kernel,rfl,by decide +kernel,by decide +kernel⟩
theorem wL:FnScope ["_law_steps", "_law_bits"] ["_law_steps"] (aF jC):=⟨rfl,rfl,rfl,by decide +kernel,rfl,by decide +kernel,by decide +kernel⟩
theorem zG:FnScope ["steps", "start", "allowed", "ways", "met", "place", "here", "letter", "room"] ["steps", "start", "allowed"] (aF kI):=⟨rfl,rfl,rfl,by decide +kernel,rfl,by decide +kernel,by decide +kernel⟩
theorem aEz:FnScope ["machine", "allowed", "room", "goal"] ["machine", "allowed", "room", "goal"] (aF rF):=⟨rfl,rfl,rfl,by decide +kernel,rfl,by decide +kernel,by decide +kernel⟩
theorem aAz:FnScope ["machine", "bits", "room", "text", "here", "goal"] ["machine", "bits", "room"] (aF mK):=⟨rfl,rfl,rfl,by decide +kernel,rfl,by decide +kernel,by decide +kernel⟩
theorem oZ:FnScope ["_law_machine_here", "_law_steps", "_law_bits", "_law_room", "_law_word_here"] ["_law_machine_here", "_law_steps", "_law_bits"] (aF dO):=⟨rfl,rfl,rfl,by decide +kernel,rfl,by decide +kernel,by decide +kernel⟩
theorem pR:FnScope ["thing", "most"] ["thing", "most"] (aF eQ):=⟨rfl,rfl,rfl,by decide +kernel,rfl,by decide +kernel,by decide +kernel⟩
theorem aF0:FnScope ["thing", "letters", "rooms", "room"] ["thing", "letters", "rooms"] (aF rG):=⟨rfl,rfl,rfl,by decide +kernel,rfl,by decide +kernel,by decide +kernel⟩
theorem zH:FnScope ["thing", "row"] ["thing"] (aF kJ):=⟨rfl,rfl,rfl,by decide +kernel,rfl,by decide +kernel,by decide +kernel⟩
theorem zJ:FnScope ["thing", "rooms", "rank"] ["thing", "rooms"] (aF kO):=⟨rfl,rfl,rfl,by decide +kernel,rfl,by decide +kernel,by decide +kernel⟩
theorem nW:FnScope ["self", "steps", "ranks", "row"] ["self", "steps", "ranks"] (aF dI):=⟨rfl,rfl,rfl,by decide +kernel,rfl,by decide +kernel,by decide +kernel⟩
theorem aR5:FnScope ["_law_script", "_law_machine_here", "_law_cell_here", "_law_bits", "_law_steps", "_law_ranks", "_law_most", "_law_word_here", "_law_row"] ["_law_script"] (aF yX):=⟨rfl,rfl,rfl,by decide +kernel,rfl,by decide +kernel,by decide +kernel⟩
section
variable{P:Program}{w:World}{K:PySem.W.Frag}{mg:Str->Option Value}{base:Heap}
theorem aIi{fa:Addr}{fd:FuncData}{dV:Value}(F:FunD K "_law_cell" "_law_cell" jW dV fa fd)
  (b_len:mg "len" = none):FnOk P w K mg base CX0 1 fa fd ["_law_script", "_law_k"] (spI K 2 gC):=by
 refine fB (k:=0) F yZ 2 2 aAd rfl rfl fun cdv A outer s H E B hr=>?_
 have nd:=yZ.nd
 refine bB ?_ ?_
 ·exact pD (dZ aKi aBi (toP (aA 1)) (toP (fK b_len (toP (aA 0)))) (cG _)) (bR (cJ (dD hr.units (toP (aA 0)) (toP (aA 1))))) (jK)
 refine bB ?_ ?_
 ·exact pD (dZ (gQ hr.units) gU (toP (aA 0)) (toP (aCp (aR))) (cG _)) (bR (cJ (sW (toP (aK)) (toP (aA 1))))) (jK)
 exact bR (cJ (jJ (toP (aFw (toP (dD hr.units (toP (aA 0)) (toP (pN (toP (aA 1)) (toP (fK b_len (toP (aA 0)))))))) (toP (jJ (toP (aA 1)) (toP (aK)))))) (toP (sW (toP (aK)) (toP (aA 1))))))
theorem aK8 {fa : Addr} {fd : FuncData} {dV : Value} (F : FunD K "_law_mix" "_law_mix" lZ dV fa fd)
     : FnOk P w K mg base CX0 1 fa fd ["_law_cell_here", "_law_k", "_law_many"] (spI K 3 bT):=by
 refine fB (k:=0) F aAt 3 4 wN rfl rfl fun cdv A outer s H E B hr=>?_
 have nd:=aAt.nd
 refine bB ?_ ?_
 ·exact dF 3 (pN (toP (sW (toP (jJ (toP (pN (toP (aA 0)) (toP (aK)))) (toP (sW (toP (aK)) (toP (aA 1)))))) (toP (aK)))) (toP (aK))) nd
 refine bB ?_ ?_
 ·exact dF 3 (pN (toP (sW (toP (pN (toP (sW (toP (aA 3)) (toP (aA 3)))) (toP (aK)))) (toP (aK)))) (toP (aK))) nd
 exact bR (cJ (pN (toP (pN (toP (sW (toP (aA 3)) (toP (aA 3)))) (toP (aK)))) (toP (aA 2))))
theorem aDb{fa:Addr}{fd:FuncData}{dV:Value}(F:FunD K "_law_machine" "_law_machine" fY dV fa fd)
  (h__law_cell:DefOk P w K mg base "_law_cell" 1 2 gC)
  (h__law_mix:DefOk P w K mg base "_law_mix" 1 3 bT)
  (b_range:mg "range" = none):FnOk P w K mg base CX0 2 fa fd ["_law_script", "_law_at", "_law_most"] (spI K 3 gZ):=by
 refine fB (k:=1) F tE 3 14 uD rfl rfl fun cdv A outer s H E B hr=>?_
 have nd:=tE.nd
 refine bB ?_ ?_
 ·exact dF 3 (aL h__law_cell hr (by decide) (aD (aA 0) (aD (aA 1) (aR)))) nd
 refine bB ?_ ?_
 ·exact dF 4 (jJ (toP (aK)) (toP (aL h__law_mix hr (by decide) (aD (aA 3) (aD (aK) (aD (dD hr.units (toP (aCp (aD (aK) (aD (aK) (aD (aK) (aD (aA 2) (aR))))))) (toP (aL h__law_mix hr (by decide) (aD (aA 3) (aD (aK) (aD (aK) (aR))))))) (aR))))))) nd
 refine bB ?_ ?_
 ·exact dF 5 (jJ (toP (aK)) (toP (aL h__law_mix hr (by decide) (aD (aA 3) (aD (aK) (aD (aK) (aR))))))) nd
 refine bB ?_ ?_
 ·exact dF 6 (dD hr.units (toP (aCp (aD (aK) (aD (aK) (aD (aK) (aD (jJ (toP (aK)) (toP (sW (toP (aK)) (toP (pN (toP (aL h__law_cell hr (by decide) (aD (aA 0) (aD (jJ (toP (aA 1)) (toP (aK))) (aR))))) (toP (bB0 (toP (aK)) (toP (aK))))))))) (aR))))))) (toP (aL h__law_mix hr (by decide) (aD (aA 3) (aD (aK) (aD (aK) (aR))))))) nd
 refine bB ?_ ?_
 ·exact xH 7 (aEn (aR)) nd
 refine bB ?_ ?_
 ·exact xH 8 (aEn (aR)) nd
 refine bB ?_ ?_
 ·exact lM (aAs b_range (toP (aA 4))) (cL 9 nd) (bB (by exact dF 10 (aL h__law_cell hr (by decide) (aD (aA 0) (aD (jJ (toP (jJ (toP (aA 1)) (toP (aK)))) (toP (aA 9))) (aR)))) nd) (by exact bB (by exact aMb 11 [13] nF (.of rfl) (aAs b_range (toP (aA 5))) (fun _ _ _ _ _=>cL 13 nd) (fun _ _ _ _ _=>aL h__law_mix hr (by decide) (aD (aA 10) (aD (jJ (toP (aK)) (toP (aA 13))) (aD (aA 4) (aR))))) rfl nd) (by exact bB (by exact dF 12 (aL h__law_mix hr (by decide) (aD (aA 10) (aD (aK) (aD (aK) (aR))))) nd) (by exact bB (by exact pD (dZ (gQ hr.units) gU (toP (aL h__law_mix hr (by decide) (aD (aA 3) (aD (aK) (aD (aK) (aR)))))) (toP (aK)) (cG _)) (bB (by exact aMb 11 [13] nF (.of rfl) (aAs b_range (toP (aA 5))) (fun _ _ _ _ _=>cL 13 nd) (fun _ _ _ _ _=>pN (toP (aFw (toP (aA 10)) (toP (dD hr.units (toP (aCp (aD (aK) (aD (aK) (aD (aK) (aR)))))) (toP (aA 13)))))) (toP (aA 4))) rfl nd) (by exact bR (dF 12 (pN (toP (aFw (toP (aA 10)) (toP (aK)))) (toP (aK))) nd))) (bR (pD (PW.pt (aLq (dZ (gQ hr.units) gU (toP (aL h__law_mix hr (by decide) (aD (aA 3) (aD (aK) (aD (aK) (aR)))))) (toP (aK)) (cG _)) (aFx (dZ aGn aCo (toP (aL h__law_mix hr (by decide) (aD (aA 10) (aD (aK) (aD (aK) (aR)))))) (toP (aK)) (cG _))))) (bR (bBc 11 (toP (aL h__law_mix hr (by decide) (aD (aA 10) (aD (aK) (aD (aA 5) (aR)))))) (pN (toP (jJ (toP (aA 9)) (toP (aK)))) (toP (aA 4))))) (jK)))) (by exact bB (by exact aJu [11] (aEs 7 (aA 11))) (by exact bR (aEs 8 (sW (toP (aA 12)) (toP (aA 6)))))))))) PassesOwn.never rfl
 exact bR (aJu [7,8] (cJ (aLr (aD (aA 7) (aD (aA 8) (aR))))))
theorem aIj{fa:Addr}{fd:FuncData}{dV:Value}(F:FunD K "_law_word" "_law_word" jX dV fa fd)
  (h__law_mix:DefOk P w K mg base "_law_mix" 1 3 bT)
  (b_range:mg "range" = none):FnOk P w K mg base CX0 2 fa fd ["_law_cell_here", "_law_letters", "_law_least", "_law_most"] (spI K 4 mX):=by
 refine fB (k:=1) F zA 4 6 aAe rfl rfl fun cdv A outer s H E B hr=>?_
 have nd:=zA.nd
 refine bB ?_ ?_
 ·exact dF 4 (jJ (toP (aA 2)) (toP (aL h__law_mix hr (by decide) (aD (aA 0) (aD (aK) (aD (jJ (toP (aUz (toP (aA 3)) (toP (aA 2)))) (toP (aK))) (aR))))))) nd
 exact bR (cJ (aXx (toP (nU [])) (aD (qN [5] nF (.of rfl) (aAs b_range (toP (aA 4))) (fun _ _ _ _ _=>cL 5 nd) (fun _ _ _ _ _=>dD hr.units (toP (nU [97,98,99])) (toP (aL h__law_mix hr (by decide) (aD (aFw (toP (aA 0)) (toP (jJ (toP (pN (toP (aA 5)) (toP (aK)))) (toP (aK))))) (aD (jJ (toP (aK)) (toP (aA 5))) (aD (aA 1) (aR))))))) rfl) (aR))))
theorem aIk{fa:Addr}{fd:FuncData}{dV:Value}(F:FunD K "_law_ring" "_law_ring" jY dV fa fd)
  (b_range:mg "range" = none)
  (b_len:mg "len" = none)
  (b_sorted:mg "sorted" = none):FnOk P w K mg base CX0 1 fa fd ["_law_steps", "_law_room", "_law_front", "_law_turn"] (spI K 4 jR):=by
 refine fB (k:=0) F zB 4 7 aAf rfl rfl fun cdv A outer s H E B hr=>?_
 have nd:=zB.nd
 refine bB ?_ ?_
 ·exact lM (nO (aA 2)) (cL 4 nd) (bR (dF 1 (dD hr.units (toP (dD hr.units (toP (aA 0)) (toP (aA 1)))) (toP (aG6 (toP (nU [97,98,99])) (aD (aA 4) (aR))))) nd)) PassesOwn.never rfl
 refine bB ?_ ?_
 ·exact lM (aAs b_range (toP (fK b_len (toP (aA 0))))) (cL 5 nd) (bR (lM (nO (aA 3)) (cL 4 nd) (bR (dF 1 (dD hr.units (toP (dD hr.units (toP (aA 0)) (toP (aA 1)))) (toP (aG6 (toP (nU [97,98,99])) (aD (aA 4) (aR))))) nd)) PassesOwn.never rfl)) PassesOwn.never rfl
 refine bB ?_ ?_
 ·exact aG7 6 nd
 refine bB ?_ ?_
 ·exact lM (aAs b_range (toP (fK b_len (toP (aA 0))))) (cL 5 nd) (bR (lM (nO (aA 3)) (cL 4 nd) (bB (by exact dF 1 (dD hr.units (toP (dD hr.units (toP (aA 0)) (toP (aA 1)))) (toP (aG6 (toP (nU [97,98,99])) (aD (aA 4) (aR))))) nd) (by exact bR (aD1 hr.units 6 (aA 1) (aDl)))) PassesOwn.never rfl)) PassesOwn.never rfl
 exact bR (aJu [6] (cJ (aYb b_sorted rfl (aA 6))))
theorem aNu {fa : Addr} {fd : FuncData} {dV : Value} (F : FunD K "bits_of" "bits_of" oJ dV fa fd)
     : FnOk P w K mg base CX0 1 fa fd ["rooms"] (spI K 1 fD):=by
 refine fB (k:=0) F aD7 1 3 zW rfl rfl fun cdv A outer s H E B hr=>?_
 have nd:=aD7.nd
 refine bB ?_ ?_
 ·exact dF 1 (aK) nd
 refine bB ?_ ?_
 ·exact lM (nO (aA 0)) (cL 2 nd) (bR (dF 1 (aMa (toP (aA 1)) (toP (aQx (toP (aK)) (toP (aA 2))))) nd)) PassesOwn.never rfl
 exact bR (cJ (aA 1))
theorem aK9 {fa : Addr} {fd : FuncData} {dV : Value} (F : FunD K "has_room" "has_room" mC dV fa fd)
     : FnOk P w K mg base CX0 1 fa fd ["bits", "room"] (spI K 2 dG):=by
 refine fB (k:=0) F aAu 2 2 wO rfl rfl fun cdv A outer s H E B hr=>?_
 have nd:=aAu.nd
 exact bR (cJ (fX (gQ hr.units) gU (toP (aD5 (toP (aQy (toP (aA 0)) (toP (aA 1)))) (toP (aK)))) (toP (aK)) (cG _)))
theorem aKa{fa:Addr}{fd:FuncData}{dV:Value}(F:FunD K "rooms_of" "rooms_of" mF dV fa fd)
  (h_has_room:DefOk P w K mg base "has_room" 1 2 dG)
  (b_range:mg "range" = none):FnOk P w K mg base CX0 2 fa fd ["bits"] (spI K 1 bV):=by
 refine fB (k:=1) F aAv 1 2 wQ rfl rfl fun cdv A outer s H E B hr=>?_
 have nd:=aAv.nd
 exact bR (cJ (aCx [1] nF (.of rfl) (aAs b_range (toP (aY4 (toP (aA 0))))) (fun _ _ _ _ _=>cL 1 nd) (fun _ _ _ _ _=>gK (aL h_has_room hr (by decide) (aD (aA 0) (aD (aA 1) (aR))))) (fun _ _ _ _ _=>aA 1) rfl))
theorem aGc{fa:Addr}{fd:FuncData}{dV:Value}(F:FunD K "seen_among" "seen_among" iW dV fa fd)
  (h_rooms_of:DefOk P w K mg base "rooms_of" 2 1 bV)
  (h_bits_of:DefOk P w K mg base "bits_of" 1 1 fD)
  (h_has_room:DefOk P w K mg base "has_room" 1 2 dG):FnOk P w K mg base CX0 3 fa fd ["steps", "allowed"] (spI K 2 gF):=by
 refine fB (k:=2) F wG 2 6 yF rfl rfl fun cdv A outer s H E B hr=>?_
 have nd:=wG.nd
 refine bB ?_ ?_
 ·exact dF 2 (aL h_rooms_of hr (by decide) (aD (aA 1) (aR))) nd
 refine bB ?_ ?_
 ·exact aG7 3 nd
 refine bB ?_ ?_
 ·exact lM (nO (aA 2)) (cL 4 nd) (bR (aD1 hr.units 3 (aA 4) (aD5 (toP (aMa (toP (aL h_bits_of hr (by decide) (aD (dD hr.units (toP (aA 0)) (toP (aA 4))) (aR)))) (toP (aQx (toP (aK)) (toP (aA 4)))))) (toP (aA 1))))) PassesOwn.never rfl
 refine bB ?_ ?_
 ·exact lM (nO (aA 2)) (cL 5 nd) (bR (lM (nO (aA 2)) (cL 4 nd) (bR (pD (gK (aL h_has_room hr (by decide) (aD (dD hr.units (fW 3) (toP (aA 4))) (aD (aA 5) (aR))))) (bR (aD1 hr.units 3 (aA 4) (aMa (toP (dD hr.units (fW 3) (toP (aA 4)))) (toP (dD hr.units (fW 3) (toP (aA 5))))))) (jK))) PassesOwn.never rfl)) PassesOwn.never rfl
 exact bR (aJu [3] (cJ (aA 3)))
theorem aGd{fa:Addr}{fd:FuncData}{dV:Value}(F:FunD K "goes_round" "goes_round" iY dV fa fd)
  (h_rooms_of:DefOk P w K mg base "rooms_of" 2 1 bV)
  (b_len:mg "len" = none):FnOk P w K mg base CX0 3 fa fd ["steps", "part"] (spI K 2 nZ):=by
 refine fB (k:=2) F wH 2 3 yG rfl rfl fun cdv A outer s H E B hr=>?_
 have nd:=wH.nd
 refine bB ?_ ?_
 ·exact dF 2 (aL h_rooms_of hr (by decide) (aD (aA 1) (aR))) nd
 exact bR (cJ (bB2 (fX aGn aCo (toP (fK b_len (toP (aA 2)))) (toP (aK)) (cG _)) (aV0 (fX (aJz hr.units) aK0 (toP (dD hr.units (toP (aA 2)) (toP (aK)))) (toP (dD hr.units (toP (aA 0)) (toP (dD hr.units (toP (aA 2)) (toP (aK)))))) rfl))))
theorem aDp{fa:Addr}{fd:FuncData}{dV:Value}(F:FunD K "parts_among" "parts_among" gO dV fa fd)
  (h_seen_among:DefOk P w K mg base "seen_among" 3 2 gF)
  (h_rooms_of:DefOk P w K mg base "rooms_of" 2 1 bV)
  (h_bits_of:DefOk P w K mg base "bits_of" 1 1 fD)
  (h_has_room:DefOk P w K mg base "has_room" 1 2 dG)
  (h_goes_round:DefOk P w K mg base "goes_round" 3 2 nZ):FnOk P w K mg base CX0 4 fa fd ["steps", "allowed"] (spI K 2 mL):=by
 refine fB (k:=3) F uX 2 7 vZ rfl rfl fun cdv A outer s H E B hr=>?_
 have nd:=uX.nd
 refine bB ?_ ?_
 ·exact dF 2 (aL h_seen_among hr (by decide) (aD (aA 0) (aD (aA 1) (aR)))) nd
 refine bB ?_ ?_
 ·exact xH 3 (aEn (aR)) nd
 refine bB ?_ ?_
 ·exact lM (nO (aL h_rooms_of hr (by decide) (aD (aA 1) (aR)))) (cL 4 nd) (bB (by exact dF 5 (aL h_bits_of hr (by decide) (aD (aCx [6] nF (.of rfl) (nO (aL h_rooms_of hr (by decide) (aD (dD hr.units (toP (aA 2)) (toP (aA 4))) (aR)))) (fun _ _ _ _ _=>cL 6 nd) (fun _ _ _ _ _=>gK (aL h_has_room hr (by decide) (aD (dD hr.units (toP (aA 2)) (toP (aA 6))) (aD (aA 4) (aR))))) (fun _ _ _ _ _=>aA 6) rfl) (aR))) nd) (by exact bR (pD (PW.pt (aLq (dZ (rD hr.units) rE (toP (aA 5)) (fW 3) rfl) (aFx (gK (aL h_goes_round hr (by decide) (aD (aA 0) (aD (aA 5) (aR)))))))) (bR (aEs 3 (aA 5))) (jK)))) PassesOwn.never rfl
 exact bR (aJu [3] (cJ (aA 3)))
theorem aGe{fa:Addr}{fd:FuncData}{dV:Value}(F:FunD K "loop_parts" "loop_parts" iZ dV fa fd)
  (h_parts_among:DefOk P w K mg base "parts_among" 4 2 mL)
  {A_Machine:Addr} (c_Machine:ClsAt K "Machine" A_Machine)
  (na_Machine_steps:dM K A_Machine (Str.ofString "steps")):FnOk P w K mg base CX0 5 fa fd ["machine", "allowed"] (spI K 2 dY):=by
 refine fB (k:=4) F wI 2 2 yH rfl rfl fun cdv A outer s H E B hr=>?_
 have nd:=wI.nd
 exact bR (cJ (aL h_parts_among hr (by decide) (aD (wF c_Machine na_Machine_steps (toP (aA 0))) (aD (aA 1) (aR)))))
theorem aNv{fa:Addr}{fd:FuncData}{dV:Value}(F:FunD K "is_loop" "is_loop" oK dV fa fd)
  (h_loop_parts:DefOk P w K mg base "loop_parts" 5 2 dY):FnOk P w K mg base CX0 6 fa fd ["machine", "bits"] (spI K 2 lQ):=by
 refine fB (k:=5) F aD8 2 2 zX rfl rfl fun cdv A outer s H E B hr=>?_
 have nd:=aD8.nd
 exact bR (cJ (fX (gQ hr.units) gU (toP (aL h_loop_parts hr (by decide) (aD (aA 0) (aD (aA 1) (aR))))) (toP (aCp (aD (aA 1) (aR)))) (cG _)))
theorem aKb{fa:Addr}{fd:FuncData}{dV:Value}(F:FunD K "top_rank" "top_rank" mG dV fa fd)
  (h_rooms_of:DefOk P w K mg base "rooms_of" 2 1 bV)
  {A_Machine:Addr} (c_Machine:ClsAt K "Machine" A_Machine)
  (na_Machine_ranks:dM K A_Machine (Str.ofString "ranks"))
  {X_NoLoop:Addr} {bm_NoLoop:List Value} (e_NoLoop:ExcAt K "NoLoop" X_NoLoop bm_NoLoop)
  (ge_NoLoop:mg (Str.ofString "NoLoop")=some (.ref X_NoLoop))
  (b_max:mg "max" = none):FnOk P w K mg base (CX1 P w) 3 fa fd ["machine", "bits"] (spE K 2 rQ):=by
 refine aK3 (k:=2) (sm:=false) F aAw 2 3 wR rfl rfl fun cdv A outer s H E B W hr hL=>?_
 have nd:=aAw.nd
 refine iJ (s1:=false) (s2:=false) ?_ ?_
 ·exact oY (aQr (s1:=false) (dZ (gQ hr.units) gU (toP (aA 1)) (toP (aK)) (cG _)) (tD (oY (x_raise hL e_NoLoop ge_NoLoop rfl (aD (nU [97,32,115,101,116,32,119,105,116,104,111,117,116,32,114,111,111,109,115,32,104,97,115,32,110,111,32,103,114,101,97,116,101,115,116,32,114,97,110,107]) (aR))))) (aIb))
 exact tD (lK (s1:=false) (cJ (aQm b_max rfl (toP (qN [2] nF (.of rfl) (nO (aL h_rooms_of hr (by decide) (aD (aA 1) (aR)))) (fun _ _ _ _ _=>cL 2 nd) (fun _ _ _ _ _=>dD hr.units (toP (wF c_Machine na_Machine_ranks (toP (aA 0)))) (toP (aA 2))) rfl)))))
theorem aNw{fa:Addr}{fd:FuncData}{dV:Value}(F:FunD K "is_good" "is_good" oM dV fa fd)
  (h_top_rank:DefOkX P w K mg base "top_rank" 3 2 rQ):FnOk P w K mg base (CX1 P w) 4 fa fd ["machine", "bits"] (spE K 2 oG):=by
 refine aK3 (k:=3) (sm:=false) F aD9 2 2 zY rfl rfl fun cdv A outer s H E B W hr hL=>?_
 have nd:=aD9.nd
 exact tD (oY (aV5 (aR1 (gQ hr.units) gU (bBi aO8 aTt (aM8 h_top_rank hL hr (by decide) (aD (aA 0) (aD (aA 1) (aR)))) (toP (aK))) (toP (aK)) (cG _))))
theorem aIl{fa:Addr}{fd:FuncData}{dV:Value}(F:FunD K "all_rooms" "all_rooms" jZ dV fa fd)
  (h_bits_of:DefOk P w K mg base "bits_of" 1 1 fD)
  {A_Machine:Addr} (c_Machine:ClsAt K "Machine" A_Machine)
  (na_Machine_many:dM K A_Machine (Str.ofString "many"))
  (b_list:mg "list" = none)
  (b_range:mg "range" = none):FnOk P w K mg base CX0 2 fa fd ["machine"] (spI K 1 mY):=by
 refine fB (k:=1) F zE 1 1 aAg rfl rfl fun cdv A outer s H E B hr=>?_
 have nd:=zE.nd
 exact bR (cJ (aL h_bits_of hr (by decide) (aD (aQv b_list b_range rfl (toP (wF c_Machine na_Machine_many (toP (aA 0))))) (aR))))
theorem aIm{fa:Addr}{fd:FuncData}{dV:Value}(F:FunD K "seen_from" "seen_from" kE dV fa fd)
  (h_seen_among:DefOk P w K mg base "seen_among" 3 2 gF)
  (h_all_rooms:DefOk P w K mg base "all_rooms" 2 1 mY)
  {A_Machine:Addr} (c_Machine:ClsAt K "Machine" A_Machine)
  (na_Machine_steps:dM K A_Machine (Str.ofString "steps")):FnOk P w K mg base CX0 4 fa fd ["machine", "room"] (spI K 2 iB):=by
 refine fB (k:=3) F zF 2 2 aAh rfl rfl fun cdv A outer s H E B hr=>?_
 have nd:=zF.nd
 exact bR (cJ (dD hr.units (toP (aL h_seen_among hr (by decide) (aD (wF c_Machine na_Machine_steps (toP (aA 0))) (aD (aL h_all_rooms hr (by decide) (aD (aA 0) (aR))) (aR))))) (toP (aA 1))))
theorem aNx{fa:Addr}{fd:FuncData}{dV:Value}(F:FunD K "is_word" "is_word" oN dV fa fd)
  (b_isinstance:mg "isinstance" = none)
  (b_str:mg "str" = none)
  {t_LETTERS:Tok} (g_LETTERS:mg "LETTERS" = some (.str "abc" t_LETTERS)):FnOk P w K mg base CX0 1 fa fd ["thing", "many"] (spI K 2 jU):=by
 refine fB (k:=0) F aDa 2 2 zZ rfl rfl fun cdv A outer s H E B hr=>?_
 have nd:=aDa.nd
 exact bR (cJ (sZ (rC ty_str b_isinstance b_str (toP (aA 0))) (sO (fX (gQ hr.units) gU (toP (aTh (toP (aA 0)) (aD (aT8 (toP (aFu [97,98,99] g_LETTERS)) (aJv) (xJ (toP (aA 1)))) (aR)))) (toP (nU [])) (cG _)))))
theorem aGf{fa:Addr}{fd:FuncData}{dV:Value}(F:FunD K "is_endless" "is_endless" jA dV fa fd)
  (h_is_word:DefOk P w K mg base "is_word" 1 2 jU)
  (b_isinstance:mg "isinstance" = none)
  (b_tuple:mg "tuple" = none)
  (b_len:mg "len" = none):FnOk P w K mg base CX0 2 fa fd ["thing", "many"] (spI K 2 gG):=by
 refine fB (k:=1) F wJ 2 2 rR rfl rfl fun cdv A outer s H E B hr=>?_
 have nd:=wJ.nd
 refine bB ?_ ?_
 ·exact pD (PW.pt (aT4 (pO (gK (rC ty_tuple b_isinstance b_tuple (toP (aA 0))))) (aQ7 (dZ (xN hr.units) xO (toP (fK b_len (toP (aA 0)))) (toP (aK)) (cG _))))) (bR (cJ (aDl))) (jK)
 exact bR (cJ (sZ (aL h_is_word hr (by decide) (aD (dD hr.units (toP (aA 0)) (toP (aK))) (aD (aA 1) (aR)))) (sZ (aL h_is_word hr (by decide) (aD (dD hr.units (toP (aA 0)) (toP (aK))) (aD (aA 1) (aR)))) (sO (fX (xN hr.units) xO (toP (dD hr.units (toP (aA 0)) (toP (aK)))) (toP (nU [])) (cG _))))))
theorem aKc{fa:Addr}{fd:FuncData}{dV:Value}(F:FunD K "is_whole" "is_whole" mH dV fa fd)
  (b_isinstance:mg "isinstance" = none)
  (b_int:mg "int" = none)
  (b_bool:mg "bool" = none):FnOk P w K mg base CX0 1 fa fd ["thing"] (spI K 1 jN):=by
 refine fB (k:=0) F aAx 1 1 wU rfl rfl fun cdv A outer s H E B hr=>?_
 have nd:=aAx.nd
 exact bR (cJ (sZ (rC ty_int b_isinstance b_int (toP (aA 0))) (sO (bB3 (rC ty_bool b_isinstance b_bool (toP (aA 0)))))))
theorem aKd{fa:Addr}{fd:FuncData}{dV:Value}(F:FunD K "is_below" "is_below" mJ dV fa fd)
  (h_is_whole:DefOk P w K mg base "is_whole" 1 1 jN):FnOk P w K mg base CX0 2 fa fd ["thing", "limit"] (spI K 2 iC):=by
 refine fB (k:=1) F aAy 2 2 wV rfl rfl fun cdv A outer s H E B hr=>?_
 have nd:=aAy.nd
 exact bR (cJ (sZ (aL h_is_whole hr (by decide) (aD (aA 0) (aR))) (sZ (fX aOa aJt (toP (aA 0)) (toP (aK)) (cG _)) (sO (fX aKi aBi (toP (aA 0)) (toP (aA 1)) (cG _))))))
theorem uY{fa:Addr}{fd:FuncData}{dV:Value}(F:FunD K "check_room" "Machine.check_room" cT dV fa fd)
  (h_is_below:DefOk P w K mg base "is_below" 2 2 iC)
  {A_Machine:Addr} (c_Machine:ClsAt K "Machine" A_Machine)
  (na_Machine_many:dM K A_Machine (Str.ofString "many"))
  {X_NoRoom:Addr} {bm_NoRoom:List Value} (e_NoRoom:ExcAt K "NoRoom" X_NoRoom bm_NoRoom)
  (ge_NoRoom:mg (Str.ofString "NoRoom")=some (.ref X_NoRoom)):FnOk P w K mg base (CX1 P w) 3 fa fd ["self", "thing"] (spE K 2 cR):=by
 refine aK3 (k:=2) (sm:=false) F lN 2 2 mZ rfl rfl fun cdv A outer s H E B W hr hL=>?_
 have nd:=lN.nd
 exact tD (oY (aQr (s1:=false) (pO (gK (aL h_is_below hr (by decide) (aD (aA 1) (aD (wF c_Machine na_Machine_many (toP (aA 0))) (aR)))))) (tD (oY (x_raise hL e_NoRoom ge_NoRoom rfl (aD (nU [116,104,105,115,32,105,115,32,110,111,32,114,111,111,109,32,111,102,32,116,104,101,32,109,97,99,104,105,110,101]) (aR))))) (aIb)))
theorem tV{fa:Addr}{fd:FuncData}{dV:Value}(F:FunD K "rooms_along" "Machine.rooms_along" cP dV fa fd)
  {A_Machine:Addr} (c_Machine:ClsAt K "Machine" A_Machine)
  (na_Machine_steps:dM K A_Machine (Str.ofString "steps"))
  {t_LETTERS:Tok} (g_LETTERS:mg "LETTERS" = some (.str "abc" t_LETTERS)):FnOk P w K mg base CX0 1 fa fd ["self", "room", "text"] (spF K 3 bG):=by
 refine bDs (k:=0) F lL 3 5 3 cU rfl rfl fun cdv A outer s H E B hr=>?_
 have nd:=lL.nd
 exact aM9 (by exact xH 3 (aEn (aD (aA 1) (aR))) nd) (by exact aM9 (by exact lM (nO (aA 2)) (cL 4 nd) (bB (by exact dF 1 (dD hr.units (toP (dD hr.units (toP (wF c_Machine na_Machine_steps (toP (aA 0)))) (toP (aA 1)))) (toP (aXv (toP (aFu [97,98,99] g_LETTERS)) (aD (aA 4) (aR))))) nd) (by exact bR (aEs 3 (aA 1)))) PassesOwn.never rfl) (by exact aXz))
theorem aDc{fa:Addr}{fd:FuncData}{dV:Value}(F:FunD K "walk" "Machine.walk" fZ dV fa fd)
  (h_is_endless:DefOk P w K mg base "is_endless" 2 2 gG)
  (m_Machine_check_room_0:MethOkX P w K mg base "Machine" "check_room" 3 2 [] cR)
  (m_Machine_rooms_along_0:MethOkF P w K mg base "Machine" "rooms_along" 1 3 [] bG)
  {A_Machine:Addr} (c_Machine:ClsAt K "Machine" A_Machine)
  (na_Machine_letters:dM K A_Machine (Str.ofString "letters"))
  {X_NoWord:Addr} {bm_NoWord:List Value} (e_NoWord:ExcAt K "NoWord" X_NoWord bm_NoWord)
  (ge_NoWord:mg (Str.ofString "NoWord")=some (.ref X_NoWord))
  (b_len:mg "len" = none):FnOk P w K mg base (CX1 P w) 4 fa fd ["self", "word", "room"] (spE K 3 iD):=by
 refine aK3 (k:=3) (sm:=false) F tH 3 6 uG rfl rfl fun cdv A outer s H E B W hr hL=>?_
 have nd:=tH.nd
 refine iJ (s1:=false) (s2:=false) ?_ ?_
 ·exact oY (bBf (aGa (pl:=_) m_Machine_check_room_0 hL hr (by decide) (aA 0) (aD (aA 2) (aR))))
 refine iJ (s1:=false) (s2:=false) ?_ ?_
 ·exact oY (aQr (s1:=false) (pO (gK (aL h_is_endless hr (by decide) (aD (aA 1) (aD (wF c_Machine na_Machine_letters (toP (aA 0))) (aR)))))) (tD (oY (x_raise hL e_NoWord ge_NoWord rfl (aD (nU [116,104,105,115,32,105,115,32,110,111,32,101,110,100,108,101,115,115,32,119,111,114,100,32,111,102,32,116,104,101,32,109,97,99,104,105,110,101,39,115,32,108,101,116,116,101,114,115]) (aR))))) (aIb))
 refine iJ (s1:=false) (s2:=false) ?_ ?_
 ·exact lK (s1:=false) (xH 3 (aY0 (pl:=_) m_Machine_rooms_along_0 hr (by decide) (aA 0) (aD (aA 2) (aD (dD hr.units (toP (aA 1)) (toP (aK))) (aR)))) nd)
 refine iJ (s1:=false) (s2:=false) ?_ ?_
 ·exact lK (s1:=false) (aG7 4 nd)
 refine iJ (s1:=false) (s2:=false) ?_ ?_
 ·exact lK (s1:=false) (aG1 100000 (dZ (rD hr.units) rE (toP (dD hr.units (fW 3) (toP (aI0 (toP (aK)))))) (fW 4) rfl) (bB (by exact aD1 hr.units 4 (dD hr.units (fW 3) (toP (aI0 (toP (aK))))) (aUz (toP (fK b_len (fW 3))) (toP (aK)))) (by exact bR (bBe 3 (bDr (toP (aK1 (pl:=_) (MethOkF.plain m_Machine_rooms_along_0) hr (by decide) (aA 0) (aD (dD hr.units (fW 3) (toP (aI0 (toP (aK))))) (aD (dD hr.units (toP (aA 1)) (toP (aK))) (aR))))) (xJ (toP (aK))) (aJv))))) PassesOwn.leaving)
 refine iJ (s1:=false) (s2:=false) ?_ ?_
 ·exact lK (s1:=false) (dF 5 (dD hr.units (fW 4) (toP (dD hr.units (fW 3) (toP (aI0 (toP (aK))))))) nd)
 exact tD (lK (s1:=false) (cJ (aLr (aD (aT8 (fW 3) (aJv) (xJ (toP (aA 5)))) (aD (aT8 (fW 3) (xJ (toP (aA 5))) (xJ (toP (aI0 (toP (aK)))))) (aR))))))
theorem aDd{fa:Addr}{fd:FuncData}{dV:Value}(F:FunD K "lets" "Machine.lets" gA dV fa fd)
  (m_Machine_walk_0:MethOkX P w K mg base "Machine" "walk" 4 3 [] iD)
  {A_Machine:Addr} (c_Machine:ClsAt K "Machine" A_Machine)
  (na_Machine_ranks:dM K A_Machine (Str.ofString "ranks"))
  (b_max:mg "max" = none):FnOk P w K mg base (CX1 P w) 5 fa fd ["self", "word", "room"] (spE K 3 eV):=by
 refine aK3 (k:=4) (sm:=false) F tK 3 5 uH rfl rfl fun cdv A outer s H E B W hr hL=>?_
 have nd:=tK.nd
 refine iJ (s1:=false) (s2:=false) ?_ ?_
 ·exact oY (aV6 3 (bBh hr.units (aGa (pl:=_) m_Machine_walk_0 hL hr (by decide) (aA 0) (aD (aA 1) (aD (aA 2) (aR)))) (toP (aK))) nd)
 exact tD (lK (s1:=false) (cJ (fX (gQ hr.units) gU (toP (pN (toP (aQm b_max rfl (toP (qN [4] nF (.of rfl) (nO (aA 3)) (fun _ _ _ _ _=>cL 4 nd) (fun _ _ _ _ _=>dD hr.units (toP (wF c_Machine na_Machine_ranks (toP (aA 0)))) (toP (aA 4))) rfl)))) (toP (aK)))) (toP (aK)) (cG _))))
theorem aA7{fa:Addr}{fd:FuncData}{dV:Value}(F:FunD K "_law_ring_good" "_law_ring_good" eO dV fa fd)
  (h__law_ring:DefOk P w K mg base "_law_ring" 1 4 jR)
  (h_bits_of:DefOk P w K mg base "bits_of" 1 1 fD)
  (h_is_loop:DefOk P w K mg base "is_loop" 6 2 lQ)
  (h_is_good:DefOkX P w K mg base "is_good" 4 2 oG)
  (h_loop_parts:DefOk P w K mg base "loop_parts" 5 2 dY)
  (h_seen_from:DefOk P w K mg base "seen_from" 4 2 iB)
  (m_Machine_lets_0:MethOkX P w K mg base "Machine" "lets" 5 3 [] eV)
  (b_max:mg "max" = none)
  (b_len:mg "len" = none):FnOk P w K mg base CX0 7 fa fd ["_law_machine_here", "_law_steps", "_law_ranks", "_law_room", "_law_word_here"] (spI K 5 iR):=by
 refine fB (k:=6) F pQ 5 11 qR rfl rfl fun cdv A outer s H E B hr=>?_
 have nd:=pQ.nd
 refine bB ?_ ?_
 ·exact dF 5 (aL h__law_ring hr (by decide) (aD (aA 1) (aD (aA 3) (aD (dD hr.units (toP (aA 4)) (toP (aK))) (aD (dD hr.units (toP (aA 4)) (toP (aK))) (aR)))))) nd
 refine bB ?_ ?_
 ·exact dF 6 (aL h_bits_of hr (by decide) (aD (aA 5) (aR))) nd
 refine bB ?_ ?_
 ·exact dF 7 (fX (gQ hr.units) gU (toP (pN (toP (aQm b_max rfl (toP (qN [10] nF (.of rfl) (nO (aA 5)) (fun _ _ _ _ _=>cL 10 nd) (fun _ _ _ _ _=>dD hr.units (toP (aA 2)) (toP (aA 10))) rfl)))) (toP (aK)))) (toP (aK)) (cG _)) nd
 refine bB ?_ ?_
 ·exact pD (PW.pt (aT4 (pO (gK (aL h_is_loop hr (by decide) (aD (aA 0) (aD (aA 6) (aR)))))) (aT4 (dZ (xN hr.units) xO (toP (aL (DefOkX.calm h_is_good) hr (by decide) (aD (aA 0) (aD (aA 6) (aR))))) (toP (aA 7)) (cG _)) (aQ7 (dZ (xN hr.units) xO (toP (aK1 (pl:=_) (MethOkX.calm m_Machine_lets_0) hr (by decide) (aA 0) (aD (aA 4) (aD (aA 3) (aR))))) (toP (aA 7)) (cG _)))))) (bR (cJ (aDl))) (jK)
 refine bB ?_ ?_
 ·exact aI2 8  [9] nF (.of rfl) (nO (aL h_loop_parts hr (by decide) (aD (aA 0) (aD (aL h_seen_from hr (by decide) (aD (aA 0) (aD (aA 3) (aR)))) (aR))))) (fun _ _ _ _ _=>cL 9 nd) (fun _ _ _ _ _=>dZ aGn aCo (toP (aD5 (toP (aA 9)) (toP (aA 6)))) (toP (aK)) (cG _)) (fun _ _ _ _ _=>aA 9) rfl nd
 exact bR (cJ (sZ (fX (gQ hr.units) gU (toP (fK b_len (toP (aA 8)))) (toP (aK)) (cG _)) (sO (fX (gQ hr.units) gU (toP (aMa (toP (dD hr.units (toP (aA 8)) (toP (aK)))) (toP (aA 6)))) (toP (dD hr.units (toP (aA 8)) (toP (aK)))) (cG _)))))
theorem aGg{fa:Addr}{fd:FuncData}{dV:Value}(F:FunD K "_law_ahead" "_law_ahead" jB dV fa fd)
  (b_len:mg "len" = none):FnOk P w K mg base CX0 1 fa fd ["_law_steps", "_law_bits", "_law_room"] (spI K 3 iT):=by
 refine fB (k:=0) F wK 3 6 rT rfl rfl fun cdv A outer s H E B hr=>?_
 have nd:=wK.nd
 refine bB ?_ ?_
 ·exact xH 3 (aEn (aD (aA 2) (aR))) nd
 refine bB ?_ ?_
 ·exact dF 4 (aK) nd
 refine bB ?_ ?_
 ·exact aG1 100000 (dZ aKi aBi (toP (aA 4)) (toP (fK b_len (fW 3))) (cG _)) (bB (by exact lM (nO (dD hr.units (toP (aA 0)) (toP (dD hr.units (fW 3) (toP (aA 4)))))) (cL 5 nd) (bR (pD (PW.pt (aLq (dZ (gQ hr.units) gU (toP (aD5 (toP (aQy (toP (aA 1)) (toP (aA 5)))) (toP (aK)))) (toP (aK)) (cG _)) (aFx (dZ (rD hr.units) rE (toP (aA 5)) (fW 3) rfl)))) (bR (aEs 3 (aA 5))) (jK))) PassesOwn.never rfl) (by exact bR (dF 4 (jJ (toP (aA 4)) (toP (aK))) nd))) PassesOwn.never
 exact bR (aJu [3] (cJ (aA 3)))
theorem aDe{fa:Addr}{fd:FuncData}{dV:Value}(F:FunD K "_law_is_loop" "_law_is_loop" gB dV fa fd)
  (h__law_ahead:DefOk P w K mg base "_law_ahead" 1 3 iT)
  (b_range:mg "range" = none)
  (b_len:mg "len" = none):FnOk P w K mg base CX0 2 fa fd ["_law_steps", "_law_bits"] (spI K 2 lD):=by
 refine fB (k:=1) F tL 2 4 uJ rfl rfl fun cdv A outer s H E B hr=>?_
 have nd:=tL.nd
 refine bB ?_ ?_
 ·exact aI2 2  [3] nF (.of rfl) (aAs b_range (toP (fK b_len (toP (aA 0))))) (fun _ _ _ _ _=>cL 3 nd) (fun _ _ _ _ _=>dZ (gQ hr.units) gU (toP (aD5 (toP (aQy (toP (aA 1)) (toP (aA 3)))) (toP (aK)))) (toP (aK)) (cG _)) (fun _ _ _ _ _=>aA 3) rfl nd
 refine bB ?_ ?_
 ·exact lM (nO (aA 2)) (cL 3 nd) (bR (pD (dZ (xN hr.units) xO (toP (fK b_len (toP (aL h__law_ahead hr (by decide) (aD (aA 0) (aD (aA 1) (aD (aA 3) (aR)))))))) (toP (fK b_len (toP (aA 2)))) (cG _)) (bR (cJ (aDl))) (jK))) PassesOwn.never rfl
 exact bR (cJ (bB2 (fX aGn aCo (toP (fK b_len (toP (aA 2)))) (toP (aK)) (cG _)) (aV0 (sZ (fX (gQ hr.units) gU (toP (fK b_len (toP (aA 2)))) (toP (aK)) (cG _)) (sO (fX (aJz hr.units) aK0 (toP (dD hr.units (toP (aA 2)) (toP (aK)))) (toP (dD hr.units (toP (aA 0)) (toP (dD hr.units (toP (aA 2)) (toP (aK)))))) rfl))))))
theorem aGh{fa:Addr}{fd:FuncData}{dV:Value}(F:FunD K "_law_loops" "_law_loops" jC dV fa fd)
  (h__law_is_loop:DefOk P w K mg base "_law_is_loop" 2 2 lD)
  (b_range:mg "range" = none)
  (b_len:mg "len" = none):FnOk P w K mg base CX0 3 fa fd ["_law_steps"] (spI K 1 oE):=by
 refine fB (k:=2) F wL 1 2 rW rfl rfl fun cdv A outer s H E B hr=>?_
 have nd:=wL.nd
 exact bR (cJ (aCx [1] nF (.of rfl) (bB6 b_range (toP (aK)) (toP (aQx (toP (aK)) (toP (fK b_len (toP (aA 0))))))) (fun _ _ _ _ _=>cL 1 nd) (fun _ _ _ _ _=>gK (aL h__law_is_loop hr (by decide) (aD (aA 0) (aD (aA 1) (aR))))) (fun _ _ _ _ _=>aA 1) rfl))
theorem aIn{fa:Addr}{fd:FuncData}{dV:Value}(F:FunD K "ways_from" "ways_from" kI dV fa fd)
  (b_len:mg "len" = none)
  (b_zip:mg "zip" = none)
  {t_LETTERS:Tok} (g_LETTERS:mg "LETTERS" = some (.str "abc" t_LETTERS)):FnOk P w K mg base CX0 1 fa fd ["steps", "start", "allowed"] (spI K 3 jV):=by
 refine fB (k:=0) F zG 3 9 uK rfl rfl fun cdv A outer s H E B hr=>?_
 have nd:=zG.nd
 refine bB ?_ ?_
 ·exact aTq 3 (aA 1) (nU []) nd
 refine bB ?_ ?_
 ·exact xH 4 (aEn (aD (aA 1) (aR))) nd
 refine bB ?_ ?_
 ·exact dF 5 (aK) nd
 refine bB ?_ ?_
 ·exact aG1 100000 (dZ aKi aBi (toP (aA 5)) (toP (fK b_len (fW 4))) (cG _)) (bB (by exact dF 6 (dD hr.units (fW 4) (toP (aA 5))) nd) (by exact bB (by exact lM (aY2 b_zip (aFu [97,98,99] g_LETTERS) (dD hr.units (toP (aA 0)) (toP (aA 6)))) (aV1 rfl (aBe 7 (aBe 8 (aQ9) nd) nd)) (bR (pD (PW.pt (aLq (dZ (aJz hr.units) aK0 (toP (aA 8)) (toP (aA 2)) rfl) (aFx (dZ (rD hr.units) rE (toP (aA 8)) (fW 3) rfl)))) (bB (by exact aD1 hr.units 3 (aA 8) (jJ (toP (dD hr.units (fW 3) (toP (aA 6)))) (toP (aA 7)))) (by exact bR (aEs 4 (aA 8)))) (jK))) PassesOwn.never rfl) (by exact bR (dF 5 (jJ (toP (aA 5)) (toP (aK))) nd)))) PassesOwn.never
 exact bR (aJu [3] (cJ (aA 3)))
theorem aR6{fa:Addr}{fd:FuncData}{dV:Value}(F:FunD K "way_in" "way_in" rF dV fa fd)
  (h_has_room:DefOk P w K mg base "has_room" 1 2 dG)
  (h_ways_from:DefOk P w K mg base "ways_from" 1 3 jV)
  (h_rooms_of:DefOk P w K mg base "rooms_of" 2 1 bV)
  {A_Machine:Addr} (c_Machine:ClsAt K "Machine" A_Machine)
  (na_Machine_steps:dM K A_Machine (Str.ofString "steps")):FnOk P w K mg base CX0 3 fa fd ["machine", "allowed", "room", "goal"] (spI K 4 nA):=by
 refine fB (k:=2) F aEz 4 4 aGx rfl rfl fun cdv A outer s H E B hr=>?_
 have nd:=aEz.nd
 refine bB ?_ ?_
 ·exact pD (pO (gK (aL h_has_room hr (by decide) (aD (aA 1) (aD (aA 2) (aR)))))) (bR (cJ (bAy))) (jK)
 exact bR (cJ (aY8 hr.units (toP (aL h_ways_from hr (by decide) (aD (wF c_Machine na_Machine_steps (toP (aA 0))) (aD (aA 2) (aD (aL h_rooms_of hr (by decide) (aD (aA 1) (aR))) (aR)))))) (aA 3)))
theorem aKe{fa:Addr}{fd:FuncData}{dV:Value}(F:FunD K "round_in" "round_in" mK dV fa fd)
  (h_is_loop:DefOk P w K mg base "is_loop" 6 2 lQ)
  (h_has_room:DefOk P w K mg base "has_room" 1 2 dG)
  (h_rooms_of:DefOk P w K mg base "rooms_of" 2 1 bV)
  (h_way_in:DefOk P w K mg base "way_in" 3 4 nA)
  (m_Machine_rooms_along_0:MethOkF P w K mg base "Machine" "rooms_along" 1 3 [] bG)
  {A_Machine:Addr} (c_Machine:ClsAt K "Machine" A_Machine)
  (na_Machine_steps:dM K A_Machine (Str.ofString "steps"))
  {X_NoLoop:Addr} {bm_NoLoop:List Value} (e_NoLoop:ExcAt K "NoLoop" X_NoLoop bm_NoLoop)
  (ge_NoLoop:mg (Str.ofString "NoLoop")=some (.ref X_NoLoop))
  {t_LETTERS:Tok} (g_LETTERS:mg "LETTERS" = some (.str "abc" t_LETTERS)):FnOk P w K mg base (CX1 P w) 7 fa fd ["machine", "bits", "room"] (spE K 3 rY):=by
 refine aK3 (k:=6) (sm:=false) F aAz 3 6 aBz rfl rfl fun cdv A outer s H E B W hr hL=>?_
 have nd:=aAz.nd
 refine iJ (s1:=false) (s2:=false) ?_ ?_
 ·exact oY (aQr (s1:=false) (pO (gK (aL h_is_loop hr (by decide) (aD (aA 0) (aD (aA 1) (aR)))))) (tD (oY (x_raise hL e_NoLoop ge_NoLoop rfl (aD (nU [116,104,105,115,32,115,101,116,32,111,102,32,114,111,111,109,115,32,105,115,32,110,111,32,108,111,111,112]) (aR))))) (aIb))
 refine iJ (s1:=false) (s2:=false) ?_ ?_
 ·exact oY (aQr (s1:=false) (pO (gK (aL h_has_room hr (by decide) (aD (aA 1) (aD (aA 2) (aR)))))) (tD (oY (x_raise hL e_NoLoop ge_NoLoop rfl (aD (nU [116,104,101,32,114,111,111,109,32,105,115,32,110,111,116,32,105,110,32,116,104,101,32,108,111,111,112]) (aR))))) (aIb))
 refine iJ (s1:=false) (s2:=false) ?_ ?_
 ·exact lK (s1:=false) (pD (dZ (gQ hr.units) gU (toP (aL h_rooms_of hr (by decide) (aD (aA 1) (aR)))) (toP (aCp (aD (aA 2) (aR)))) (cG _)) (bR (cJ (dD hr.units (toP (aFu [97,98,99] g_LETTERS)) (toP (aQz (toP (dD hr.units (toP (wF c_Machine na_Machine_steps (toP (aA 0)))) (toP (aA 2)))) (aD (aA 2) (aR))))))) (jK))
 refine iJ (s1:=false) (s2:=false) ?_ ?_
 ·exact lK (s1:=false) (dF 3 (nU []) nd)
 refine iJ (s1:=false) (s2:=false) ?_ ?_
 ·exact lK (s1:=false) (dF 4 (aA 2) nd)
 refine iJ (s1:=false) (s2:=false) ?_ ?_
 ·exact lK (s1:=false) (lM (nO (aL h_rooms_of hr (by decide) (aD (aA 1) (aR)))) (cL 5 nd) (bR (pD (dZ (rD hr.units) rE (toP (aA 5)) (toP (aK1 (pl:=_) (MethOkF.plain m_Machine_rooms_along_0) hr (by decide) (aA 0) (aD (aA 2) (aD (aA 3) (aR))))) rfl) (bB (by exact dF 3 (jJ (toP (aA 3)) (toP (aL h_way_in hr (by decide) (aD (aA 0) (aD (aA 1) (aD (aA 4) (aD (aA 5) (aR)))))))) nd) (by exact bR (dF 4 (aA 5) nd))) (jK))) PassesOwn.leaving rfl)
 exact tD (lK (s1:=false) (cJ (jJ (toP (aA 3)) (toP (aL h_way_in hr (by decide) (aD (aA 0) (aD (aA 1) (aD (aA 4) (aD (aA 2) (aR))))))))))
theorem zK{fa:Addr}{fd:FuncData}{dV:Value}(F:FunD K "_law_round_good" "_law_round_good" dO dV fa fd)
  (h_rooms_of:DefOk P w K mg base "rooms_of" 2 1 bV)
  (h_round_in:DefOkX P w K mg base "round_in" 7 3 rY)
  (h__law_ring:DefOk P w K mg base "_law_ring" 1 4 jR)
  (h_is_good:DefOkX P w K mg base "is_good" 4 2 oG)
  (m_Machine_lets_0:MethOkX P w K mg base "Machine" "lets" 5 3 [] eV):FnOk P w K mg base (CX1 P w) 8 fa fd ["_law_machine_here", "_law_steps", "_law_bits"] (spE K 3 gW):=by
 refine aK3 (k:=7) (sm:=false) F oZ 3 5 pJ rfl rfl fun cdv A outer s H E B W hr hL=>?_
 have nd:=oZ.nd
 refine iJ (s1:=false) (s2:=false) ?_ ?_
 ·exact lK (s1:=false) (dF 3 (dD hr.units (toP (aL h_rooms_of hr (by decide) (aD (aA 2) (aR)))) (toP (aK))) nd)
 refine iJ (s1:=false) (s2:=false) ?_ ?_
 ·exact oY (aV6 4 (aM8 h_round_in hL hr (by decide) (aD (aA 0) (aD (aA 2) (aD (aA 3) (aR))))) nd)
 refine iJ (s1:=false) (s2:=false) ?_ ?_
 ·exact lK (s1:=false) (pD (dZ (xN hr.units) xO (toP (aL h__law_ring hr (by decide) (aD (aA 1) (aD (aA 3) (aD (nU []) (aD (aA 4) (aR))))))) (toP (aL h_rooms_of hr (by decide) (aD (aA 2) (aR)))) (cG _)) (bR (cJ (aDl))) (jK))
 exact tD (oY (aV5 (aR1 (gQ hr.units) gU (aGa (pl:=_) m_Machine_lets_0 hL hr (by decide) (aA 0) (aD (aLr (aD (nU []) (aD (aA 4) (aR)))) (aD (aA 3) (aR)))) (toP (aL (DefOkX.calm h_is_good) hr (by decide) (aD (aA 0) (aD (aA 2) (aR))))) (cG _))))
theorem aA8{fa:Addr}{fd:FuncData}{dV:Value}(F:FunD K "is_filled_list" "is_filled_list" eQ dV fa fd)
  (b_isinstance:mg "isinstance" = none)
  (b_list:mg "list" = none)
  (b_len:mg "len" = none):FnOk P w K mg base CX0 1 fa fd ["thing", "most"] (spI K 2 dH):=by
 refine fB (k:=0) F pR 2 2 lV rfl rfl fun cdv A outer s H E B hr=>?_
 have nd:=pR.nd
 exact bR (cJ (sZ (rC ty_list b_isinstance b_list (toP (aA 0))) (sZ (fX aOa aJt (toP (fK b_len (toP (aA 0)))) (toP (aK)) (cG _)) (sO (fX aZc aXl (toP (fK b_len (toP (aA 0)))) (toP (aA 1)) (cG _))))))
theorem aR7{fa:Addr}{fd:FuncData}{dV:Value}(F:FunD K "is_row" "is_row" rG dV fa fd)
  (h_is_below:DefOk P w K mg base "is_below" 2 2 iC)
  (b_len:mg "len" = none)
  (b_all:mg "all" = none):FnOk P w K mg base CX0 3 fa fd ["thing", "letters", "rooms"] (spI K 3 yJ):=by
 refine fB (k:=2) F aF0 3 4 aC0 rfl rfl fun cdv A outer s H E B hr=>?_
 have nd:=aF0.nd
 exact bR (cJ (sZ (fX (gQ hr.units) gU (toP (fK b_len (toP (aA 0)))) (toP (aA 1)) (cG _)) (sO (aM3 b_all rfl (toP (qN [3] nF (.of rfl) (nO (aA 0)) (fun _ _ _ _ _=>cL 3 nd) (fun _ _ _ _ _=>aL h_is_below hr (by decide) (aD (aA 3) (aD (aA 2) (aR)))) rfl))))))
theorem aIo{fa:Addr}{fd:FuncData}{dV:Value}(F:FunD K "are_steps" "are_steps" kJ dV fa fd)
  (h_is_filled_list:DefOk P w K mg base "is_filled_list" 1 2 dH)
  (h_is_row:DefOk P w K mg base "is_row" 3 3 yJ)
  (b_all:mg "all" = none)
  (b_len:mg "len" = none)
  {t_MOST_ROOMS:Tok} (g_MOST_ROOMS:mg "MOST_ROOMS" = some (.int 8 t_MOST_ROOMS))
  {t_MOST_LETTERS:Tok} (g_MOST_LETTERS:mg "MOST_LETTERS" = some (.int 3 t_MOST_LETTERS)):FnOk P w K mg base CX0 4 fa fd ["thing"] (spI K 1 pK):=by
 refine fB (k:=3) F zH 1 2 uL rfl rfl fun cdv A outer s H E B hr=>?_
 have nd:=zH.nd
 refine bB ?_ ?_
 ·exact pD (pO (gK (aL h_is_filled_list hr (by decide) (aD (aA 0) (aD (aQ6 g_MOST_ROOMS) (aR)))))) (bR (cJ (aDl))) (jK)
 refine bB ?_ ?_
 ·exact pD (pO (gK (aM3 b_all rfl (toP (qN [1] nF (.of rfl) (nO (aA 0)) (fun _ _ _ _ _=>cL 1 nd) (fun _ _ _ _ _=>aL h_is_filled_list hr (by decide) (aD (aA 1) (aD (aQ6 g_MOST_LETTERS) (aR)))) rfl))))) (bR (cJ (aDl))) (jK)
 exact bR (cJ (aM3 b_all rfl (toP (qN [1] nF (.of rfl) (nO (aA 0)) (fun _ _ _ _ _=>cL 1 nd) (fun _ _ _ _ _=>aL h_is_row hr (by decide) (aD (aA 1) (aD (fK b_len (toP (dD hr.units (toP (aA 0)) (toP (aK))))) (aD (fK b_len (toP (aA 0))) (aR))))) rfl))))
theorem aIp{fa:Addr}{fd:FuncData}{dV:Value}(F:FunD K "are_ranks" "are_ranks" kO dV fa fd)
  (h_is_whole:DefOk P w K mg base "is_whole" 1 1 jN)
  (b_isinstance:mg "isinstance" = none)
  (b_list:mg "list" = none)
  (b_len:mg "len" = none)
  (b_all:mg "all" = none):FnOk P w K mg base CX0 2 fa fd ["thing", "rooms"] (spI K 2 pL):=by
 refine fB (k:=1) F zJ 2 3 uM rfl rfl fun cdv A outer s H E B hr=>?_
 have nd:=zJ.nd
 refine bB ?_ ?_
 ·exact pD (PW.pt (aT4 (pO (gK (rC ty_list b_isinstance b_list (toP (aA 0))))) (aQ7 (dZ (xN hr.units) xO (toP (fK b_len (toP (aA 0)))) (toP (aA 1)) (cG _))))) (bR (cJ (aDl))) (jK)
 exact bR (cJ (aM3 b_all rfl (toP (qN [2] nF (.of rfl) (nO (aA 0)) (fun _ _ _ _ _=>cL 2 nd) (fun _ _ _ _ _=>sZ (aL h_is_whole hr (by decide) (aD (aA 2) (aR))) (sO (fX aOa aJt (toP (aA 2)) (toP (aK)) (cG _)))) rfl))))
theorem xQ{fa:Addr}{fd:FuncData}(F:Fun K "__init__" "Machine.__init__" dI fa fd)
  (h_are_steps:DefOk P w K mg base "are_steps" 4 1 pK)
  (h_are_ranks:DefOk P w K mg base "are_ranks" 2 2 pL)
  {A_Machine:Addr} (c_Machine:ClsAt K "Machine" A_Machine)
  (na_Machine_steps:dM K A_Machine (Str.ofString "steps"))
  (na_Machine_ranks:dM K A_Machine (Str.ofString "ranks"))
  (na_Machine_many:dM K A_Machine (Str.ofString "many"))
  (na_Machine_letters:dM K A_Machine (Str.ofString "letters"))
  (b_len:mg "len" = none)
  (b_list:mg "list" = none):FnOk P w K mg base CX0 5 fa fd ["self", "steps", "ranks"] (spM K "Machine" 2 gH):=by
 refine aTj (k:=4) F nW "Machine" 2 4 eX rfl rfl fun cdv A outer s H E B hr=>?_
 have nd:=nW.nd
 refine bB ?_ ?_
 ·exact pD (pO (gK (aL h_are_steps hr (by decide) (aD (aA 1) (aR))))) (bR (aM0)) (jK)
 refine bB ?_ ?_
 ·exact pD (pO (gK (aL h_are_ranks hr (by decide) (aD (aA 2) (aD (fK b_len (toP (aA 1))) (aR)))))) (bR (aM0)) (jK)
 refine bB ?_ ?_
 ·exact aG8 0 c_Machine na_Machine_steps (qN [3] nF (.of rfl) (nO (aA 1)) (fun _ _ _ _ _=>cL 3 nd) (fun _ _ _ _ _=>aG9 b_list (toP (aA 3))) rfl)
 refine bB ?_ ?_
 ·exact aG8 0 c_Machine na_Machine_ranks (aG9 b_list (toP (aA 2)))
 refine bB ?_ ?_
 ·exact aG8 0 c_Machine na_Machine_many (fK b_len (toP (aA 1)))
 exact bR (aG8 0 c_Machine na_Machine_letters (fK b_len (toP (dD hr.units (toP (aA 1)) (toP (aK))))))
theorem bBj{fa:Addr}{fd:FuncData}{dV:Value}(F:FunD K "law" "law" yX dV fa fd)
  (h__law_machine:DefOk P w K mg base "_law_machine" 2 3 gZ)
  (h__law_mix:DefOk P w K mg base "_law_mix" 1 3 bT)
  (h__law_word:DefOk P w K mg base "_law_word" 2 4 mX)
  (h__law_ring_good:DefOk P w K mg base "_law_ring_good" 7 5 iR)
  (h__law_loops:DefOk P w K mg base "_law_loops" 3 1 oE)
  (h__law_round_good:DefOkX P w K mg base "_law_round_good" 8 3 gW)
  (h_loop_parts:DefOk P w K mg base "loop_parts" 5 2 dY)
  (h_seen_from:DefOk P w K mg base "seen_from" 4 2 iB)
  (k_Machine:MakeOk P w K mg base "Machine" 5 2 gH)
  (b_list:mg "list" = none)
  (b_len:mg "len" = none):FnOk P w K mg base CX0 9 fa fd ["_law_script"] (spI K 1 aE4):=by
 refine fB (k:=8) F aR5 1 9 aUu rfl rfl fun cdv A outer s H E B hr=>?_
 have nd:=aR5.nd
 refine bB ?_ ?_
 ·exact bB5 (aL h__law_machine hr (by decide) (aD (aA 0) (aD (aK) (aD (aK) (aR))))) (aV1 rfl (aBe 4 (aBe 5 (aQ9) nd) nd))
 refine bB ?_ ?_
 ·exact dF 1 (aXw k_Machine hr (by decide) (aD (qN [8] nF (.of rfl) (nO (aA 4)) (fun _ _ _ _ _=>cL 8 nd) (fun _ _ _ _ _=>aG9 b_list (toP (aA 8))) rfl) (aD (aG9 b_list (toP (aA 5))) (aR)))) nd
 refine bB ?_ ?_
 ·exact lM (nO (aT8 (toP (aA 0)) (xJ (toP (aK))) (xJ (toP (aK))))) (cL 2 nd) (bB (by exact dF 6 (dD hr.units (toP (aCp (aD (aK) (aD (aK) (aD (aK) (aD (aK) (aD (aK) (aD (aK) (aD (aK) (aD (aK) (aR))))))))))) (toP (aL h__law_mix hr (by decide) (aD (aA 2) (aD (aK) (aD (aK) (aR))))))) nd) (by exact bB (by exact dF 7 (aLr (aD (aL h__law_word hr (by decide) (aD (aA 2) (aD (fK b_len (toP (dD hr.units (toP (aA 4)) (toP (aK))))) (aD (aK) (aD (aA 6) (aR)))))) (aD (aL h__law_word hr (by decide) (aD (jJ (toP (aA 2)) (toP (aK))) (aD (fK b_len (toP (dD hr.units (toP (aA 4)) (toP (aK))))) (aD (aK) (aD (aA 6) (aR)))))) (aR)))) nd) (by exact bR (pD (pO (gK (aL h__law_ring_good hr (by decide) (aD (aA 1) (aD (aA 4) (aD (aA 5) (aD (aL h__law_mix hr (by decide) (aD (aA 2) (aD (aK) (aD (fK b_len (toP (aA 4))) (aR))))) (aD (aA 7) (aR))))))))) (bR (cJ (aDl))) (jK))))) PassesOwn.never rfl
 refine bB ?_ ?_
 ·exact lM (nO (aL h__law_loops hr (by decide) (aD (aA 4) (aR)))) (cL 3 nd) (bR (pD (pO (gK (aL (DefOkX.calm h__law_round_good) hr (by decide) (aD (aA 1) (aD (aA 4) (aD (aA 3) (aR))))))) (bR (cJ (aDl))) (jK))) PassesOwn.never rfl
 exact bR (cJ (fX aGn aCo (toP (fK b_len (toP (aL h_loop_parts hr (by decide) (aD (aA 1) (aD (aL h_seen_from hr (by decide) (aD (aA 1) (aD (aK) (aR)))) (aR))))))) (toP (aK)) (cG _)))
end
theorem all_mk{l:PySem.W.OpenLaw}{w:World}{K:PySem.W.Frag}{h:Heap}{mg:Str->Option Value}{fa:Addr}{BE newE initE:String}{bmE:List Value}(FE:ExcBaseFacts BE newE initE bmE)(X:K.In h)(G:h.Ns mainGlobals mg)(hfa:mg "law" = some (.ref fa))
  {A_Machine:Addr} {X_NoLoop:Addr} {X_NoMachine:Addr} {X_NoRoom:Addr} {X_NoWord:Addr} {f1:Addr} {od1 an1:Option Addr} {sl1:Array (Option Value)} {oc1 kV1 dc1 pm1 cd1 ct1:Value} {f2:Addr} {od2 an2:Option Addr} {sl2:Array (Option Value)} {oc2 kV2 dc2 pm2 cd2 ct2:Value} {f3:Addr} {od3 an3:Option Addr} {sl3:Array (Option Value)} {oc3 kV3 dc3 pm3 cd3 ct3:Value} {f4:Addr} {od4 an4:Option Addr} {sl4:Array (Option Value)} {oc4 kV4 dc4 pm4 cd4 ct4:Value} {f5:Addr} {od5 an5:Option Addr} {sl5:Array (Option Value)} {oc5 kV5 dc5 pm5 cd5 ct5:Value} {f6:Addr} {od6 an6:Option Addr} {sl6:Array (Option Value)} {oc6 kV6 dc6 pm6 cd6 ct6:Value} {f7:Addr} {od7 an7:Option Addr} {sl7:Array (Option Value)} {oc7 kV7 dc7 pm7 cd7 ct7:Value} {f8:Addr} {od8 an8:Option Addr} {sl8:Array (Option Value)} {oc8 kV8 dc8 pm8 cd8 ct8:Value} {f9:Addr} {od9 an9:Option Addr} {sl9:Array (Option Value)} {oc9 kV9 dc9 pm9 cd9 ct9:Value} {f10:Addr} {od10 an10:Option Addr} {sl10:Array (Option Value)} {oc10 kV10 dc10 pm10 cd10 ct10:Value} {f11:Addr} {od11 an11:Option Addr} {sl11:Array (Option Value)} {oc11 kV11 dc11 pm11 cd11 ct11:Value} {f12:Addr} {od12 an12:Option Addr} {sl12:Array (Option Value)} {oc12 kV12 dc12 pm12 cd12 ct12:Value} {f13:Addr} {od13 an13:Option Addr} {sl13:Array (Option Value)} {oc13 kV13 dc13 pm13 cd13 ct13:Value} {f14:Addr} {od14 an14:Option Addr} {sl14:Array (Option Value)} {oc14 kV14 dc14 pm14 cd14 ct14:Value} {f15:Addr} {od15 an15:Option Addr} {sl15:Array (Option Value)} {oc15 kV15 dc15 pm15 cd15 ct15:Value} {f16:Addr} {od16 an16:Option Addr} {sl16:Array (Option Value)} {oc16 kV16 dc16 pm16 cd16 ct16:Value} {f17:Addr} {od17 an17:Option Addr} {sl17:Array (Option Value)} {oc17 kV17 dc17 pm17 cd17 ct17:Value} {f18:Addr} {od18 an18:Option Addr} {sl18:Array (Option Value)} {oc18 kV18 dc18 pm18 cd18 ct18:Value} {f19:Addr} {od19 an19:Option Addr} {sl19:Array (Option Value)} {oc19 kV19 dc19 pm19 cd19 ct19:Value} {f20:Addr} {od20 an20:Option Addr} {sl20:Array (Option Value)} {oc20 kV20 dc20 pm20 cd20 ct20:Value} {f21:Addr} {od21 an21:Option Addr} {sl21:Array (Option Value)} {oc21 kV21 dc21 pm21 cd21 ct21:Value} {f22:Addr} {od22 an22:Option Addr} {sl22:Array (Option Value)} {oc22 kV22 dc22 pm22 cd22 ct22:Value} {f23:Addr} {od23 an23:Option Addr} {sl23:Array (Option Value)} {oc23 kV23 dc23 pm23 cd23 ct23:Value} {f24:Addr} {od24 an24:Option Addr} {sl24:Array (Option Value)} {oc24 kV24 dc24 pm24 cd24 ct24:Value} {T24:Addr} {toc24:Value} {tod24:Option Addr} {tsl24:Array (Option Value)} {tn24:Nat} {tk24_0:Tok} {f25:Addr} {od25 an25:Option Addr} {sl25:Array (Option Value)} {oc25 kV25 dc25 pm25 cd25 ct25:Value} {T25:Addr} {toc25:Value} {tod25:Option Addr} {tsl25:Array (Option Value)} {tn25:Nat} {tk25_0:Tok} {f26:Addr} {od26 an26:Option Addr} {sl26:Array (Option Value)} {oc26 kV26 dc26 pm26 cd26 ct26:Value} {f27:Addr} {od27 an27:Option Addr} {sl27:Array (Option Value)} {oc27 kV27 dc27 pm27 cd27 ct27:Value} {f28:Addr} {od28 an28:Option Addr} {sl28:Array (Option Value)} {oc28 kV28 dc28 pm28 cd28 ct28:Value} {f29:Addr} {od29 an29:Option Addr} {sl29:Array (Option Value)} {oc29 kV29 dc29 pm29 cd29 ct29:Value} {f30:Addr} {od30 an30:Option Addr} {sl30:Array (Option Value)} {oc30 kV30 dc30 pm30 cd30 ct30:Value} {f31:Addr} {od31 an31:Option Addr} {sl31:Array (Option Value)} {oc31 kV31 dc31 pm31 cd31 ct31:Value} {f32:Addr} {od32 an32:Option Addr} {sl32:Array (Option Value)} {oc32 kV32 dc32 pm32 cd32 ct32:Value} {f33:Addr} {od33 an33:Option Addr} {sl33:Array (Option Value)} {oc33 kV33 dc33 pm33 cd33 ct33:Value} {f34:Addr} {od34 an34:Option Addr} {sl34:Array (Option Value)} {oc34 kV34 dc34 pm34 cd34 ct34:Value} {f35:Addr} {od35 an35:Option Addr} {sl35:Array (Option Value)} {oc35 kV35 dc35 pm35 cd35 ct35:Value} {f36:Addr} {od36 an36:Option Addr} {sl36:Array (Option Value)} {oc36 kV36 dc36 pm36 cd36 ct36:Value} {f37:Addr} {od37 an37:Option Addr} {sl37:Array (Option Value)} {oc37 kV37 dc37 pm37 cd37 ct37:Value} {f38:Addr} {od38 an38:Option Addr} {sl38:Array (Option Value)} {oc38 kV38 dc38 pm38 cd38 ct38:Value} {f39:Addr} {od39 an39:Option Addr} {sl39:Array (Option Value)} {oc39 kV39 dc39 pm39 cd39 ct39:Value} {t_LETTERS:Tok} {t_MOST_LETTERS:Tok} {t_MOST_ROOMS:Tok}
  (x_Machine:PySem.W.nsIn K mainGlobals (Str.ofString "Machine")=some (some (.ref A_Machine)))
  (x1_Machine:PySem.W.plainGet K A_Machine Str.empty=true)
  (x2_Machine:PySem.W.hasDictIn K A_Machine=true)
  (x3_Machine:PySem.W.plainOver K A_Machine=true)
  (x4_Machine:PySem.W.findIn K (.ref A_Machine) "__setattr__" = some (some (.builtin "object.__setattr__")))
  (x5_Machine:PySem.W.makesIn K A_Machine=true)
  (x6_Machine:PySem.W.keepIn K (.ref A_Machine)=true)
  (w_Machine_letters:PySem.W.findIn K (.ref A_Machine) (Str.ofString "letters")=some none)
  (w_Machine_many:PySem.W.findIn K (.ref A_Machine) (Str.ofString "many")=some none)
  (w_Machine_ranks:PySem.W.findIn K (.ref A_Machine) (Str.ofString "ranks")=some none)
  (w_Machine_steps:PySem.W.findIn K (.ref A_Machine) (Str.ofString "steps")=some none)
  (y3:PySem.W.specialIn K (.builtin "object.__class__") "__get__" = some (some (.builtin "getset_descriptor.__get__")))
  (y4:PySem.W.takesIn K (.builtin "object.__class__")=some true)
  (y_NoLoop:PySem.W.nsIn K mainGlobals (Str.ofString "NoLoop")=some (some (.ref X_NoLoop)))
  (y0_NoLoop:PySem.W.excIn K X_NoLoop bmE newE=true)
  (y1_NoLoop:PySem.W.findIn K (.ref X_NoLoop) "__getattribute__" = some (some (.builtin "BaseException.__getattribute__")))
  (y6_NoLoop:PySem.W.findIn K (.ref X_NoLoop) "__getattr__" = some none)
  (y7_NoLoop:PySem.W.mroIn K X_NoLoop (.type "BaseException")=some true)
  (y2_NoLoop:PySem.W.findIn K (.ref X_NoLoop) "__class__" = some (some (.builtin "object.__class__")))
  (y5_NoLoop:PySem.W.mroIn K X_NoLoop (.type "object")=some true)
  (y_NoMachine:PySem.W.nsIn K mainGlobals (Str.ofString "NoMachine")=some (some (.ref X_NoMachine)))
  (y0_NoMachine:PySem.W.excIn K X_NoMachine bmE newE=true)
  (y1_NoMachine:PySem.W.findIn K (.ref X_NoMachine) "__getattribute__" = some (some (.builtin "BaseException.__getattribute__")))
  (y6_NoMachine:PySem.W.findIn K (.ref X_NoMachine) "__getattr__" = some none)
  (y7_NoMachine:PySem.W.mroIn K X_NoMachine (.type "BaseException")=some true)
  (y2_NoMachine:PySem.W.findIn K (.ref X_NoMachine) "__class__" = some (some (.builtin "object.__class__")))
  (y5_NoMachine:PySem.W.mroIn K X_NoMachine (.type "object")=some true)
  (y_NoRoom:PySem.W.nsIn K mainGlobals (Str.ofString "NoRoom")=some (some (.ref X_NoRoom)))
  (y0_NoRoom:PySem.W.excIn K X_NoRoom bmE newE=true)
  (y1_NoRoom:PySem.W.findIn K (.ref X_NoRoom) "__getattribute__" = some (some (.builtin "BaseException.__getattribute__")))
  (y6_NoRoom:PySem.W.findIn K (.ref X_NoRoom) "__getattr__" = some none)
  (y7_NoRoom:PySem.W.mroIn K X_NoRoom (.type "BaseException")=some true)
  (y2_NoRoom:PySem.W.findIn K (.ref X_NoRoom) "__class__" = some (some (.builtin "object.__class__")))
  (y5_NoRoom:PySem.W.mroIn K X_NoRoom (.type "object")=some true)
  (y_NoWord:PySem.W.nsIn K mainGlobals (Str.ofString "NoWord")=some (some (.ref X_NoWord)))
  (y0_NoWord:PySem.W.excIn K X_NoWord bmE newE=true)
  (y1_NoWord:PySem.W.findIn K (.ref X_NoWord) "__getattribute__" = some (some (.builtin "BaseException.__getattribute__")))
  (y6_NoWord:PySem.W.findIn K (.ref X_NoWord) "__getattr__" = some none)
  (y7_NoWord:PySem.W.mroIn K X_NoWord (.type "BaseException")=some true)
  (y2_NoWord:PySem.W.findIn K (.ref X_NoWord) "__class__" = some (some (.builtin "object.__class__")))
  (y5_NoWord:PySem.W.mroIn K X_NoWord (.type "object")=some true)
  (a1:PySem.W.nsIn K mainGlobals "_law_cell" = some (some (.ref f1)))
  (l1:K.lookup f1=some ⟨oc1,od1,.func (PySem.W.fnOf "_law_cell" "_law_cell" (bJ jW) (bD jW) (aF jW) .none kV1 dc1 pm1 an1 cd1 ct1),sl1⟩)
  (c1:PySem.W.codeIn K cd1 "_law_cell" = true)
  (k1:PySem.W.keepIn K (.ref f1)=true)
  (a2:PySem.W.nsIn K mainGlobals "_law_mix" = some (some (.ref f2)))
  (l2:K.lookup f2=some ⟨oc2,od2,.func (PySem.W.fnOf "_law_mix" "_law_mix" (bJ lZ) (bD lZ) (aF lZ) .none kV2 dc2 pm2 an2 cd2 ct2),sl2⟩)
  (c2:PySem.W.codeIn K cd2 "_law_mix" = true)
  (k2:PySem.W.keepIn K (.ref f2)=true)
  (a3:PySem.W.nsIn K mainGlobals "_law_machine" = some (some (.ref f3)))
  (l3:K.lookup f3=some ⟨oc3,od3,.func (PySem.W.fnOf "_law_machine" "_law_machine" (bJ fY) (bD fY) (aF fY) .none kV3 dc3 pm3 an3 cd3 ct3),sl3⟩)
  (c3:PySem.W.codeIn K cd3 "_law_machine" = true)
  (k3:PySem.W.keepIn K (.ref f3)=true)
  (a4:PySem.W.nsIn K mainGlobals "_law_word" = some (some (.ref f4)))
  (l4:K.lookup f4=some ⟨oc4,od4,.func (PySem.W.fnOf "_law_word" "_law_word" (bJ jX) (bD jX) (aF jX) .none kV4 dc4 pm4 an4 cd4 ct4),sl4⟩)
  (c4:PySem.W.codeIn K cd4 "_law_word" = true)
  (k4:PySem.W.keepIn K (.ref f4)=true)
  (a5:PySem.W.nsIn K mainGlobals "_law_ring" = some (some (.ref f5)))
  (l5:K.lookup f5=some ⟨oc5,od5,.func (PySem.W.fnOf "_law_ring" "_law_ring" (bJ jY) (bD jY) (aF jY) .none kV5 dc5 pm5 an5 cd5 ct5),sl5⟩)
  (c5:PySem.W.codeIn K cd5 "_law_ring" = true)
  (k5:PySem.W.keepIn K (.ref f5)=true)
  (a6:PySem.W.nsIn K mainGlobals "bits_of" = some (some (.ref f6)))
  (l6:K.lookup f6=some ⟨oc6,od6,.func (PySem.W.fnOf "bits_of" "bits_of" (bJ oJ) (bD oJ) (aF oJ) .none kV6 dc6 pm6 an6 cd6 ct6),sl6⟩)
  (c6:PySem.W.codeIn K cd6 "bits_of" = true)
  (k6:PySem.W.keepIn K (.ref f6)=true)
  (a7:PySem.W.nsIn K mainGlobals "has_room" = some (some (.ref f7)))
  (l7:K.lookup f7=some ⟨oc7,od7,.func (PySem.W.fnOf "has_room" "has_room" (bJ mC) (bD mC) (aF mC) .none kV7 dc7 pm7 an7 cd7 ct7),sl7⟩)
  (c7:PySem.W.codeIn K cd7 "has_room" = true)
  (k7:PySem.W.keepIn K (.ref f7)=true)
  (a8:PySem.W.nsIn K mainGlobals "rooms_of" = some (some (.ref f8)))
  (l8:K.lookup f8=some ⟨oc8,od8,.func (PySem.W.fnOf "rooms_of" "rooms_of" (bJ mF) (bD mF) (aF mF) .none kV8 dc8 pm8 an8 cd8 ct8),sl8⟩)
  (c8:PySem.W.codeIn K cd8 "rooms_of" = true)
  (k8:PySem.W.keepIn K (.ref f8)=true)
  (a9:PySem.W.nsIn K mainGlobals "seen_among" = some (some (.ref f9)))
  (l9:K.lookup f9=some ⟨oc9,od9,.func (PySem.W.fnOf "seen_among" "seen_among" (bJ iW) (bD iW) (aF iW) .none kV9 dc9 pm9 an9 cd9 ct9),sl9⟩)
  (c9:PySem.W.codeIn K cd9 "seen_among" = true)
  (k9:PySem.W.keepIn K (.ref f9)=true)
  (a10:PySem.W.nsIn K mainGlobals "goes_round" = some (some (.ref f10)))
  (l10:K.lookup f10=some ⟨oc10,od10,.func (PySem.W.fnOf "goes_round" "goes_round" (bJ iY) (bD iY) (aF iY) .none kV10 dc10 pm10 an10 cd10 ct10),sl10⟩)
  (c10:PySem.W.codeIn K cd10 "goes_round" = true)
  (k10:PySem.W.keepIn K (.ref f10)=true)
  (a11:PySem.W.nsIn K mainGlobals "parts_among" = some (some (.ref f11)))
  (l11:K.lookup f11=some ⟨oc11,od11,.func (PySem.W.fnOf "parts_among" "parts_among" (bJ gO) (bD gO) (aF gO) .none kV11 dc11 pm11 an11 cd11 ct11),sl11⟩)
  (c11:PySem.W.codeIn K cd11 "parts_among" = true)
  (k11:PySem.W.keepIn K (.ref f11)=true)
  (a12:PySem.W.nsIn K mainGlobals "loop_parts" = some (some (.ref f12)))
  (l12:K.lookup f12=some ⟨oc12,od12,.func (PySem.W.fnOf "loop_parts" "loop_parts" (bJ iZ) (bD iZ) (aF iZ) .none kV12 dc12 pm12 an12 cd12 ct12),sl12⟩)
  (c12:PySem.W.codeIn K cd12 "loop_parts" = true)
  (k12:PySem.W.keepIn K (.ref f12)=true)
  (a13:PySem.W.nsIn K mainGlobals "is_loop" = some (some (.ref f13)))
  (l13:K.lookup f13=some ⟨oc13,od13,.func (PySem.W.fnOf "is_loop" "is_loop" (bJ oK) (bD oK) (aF oK) .none kV13 dc13 pm13 an13 cd13 ct13),sl13⟩)
  (c13:PySem.W.codeIn K cd13 "is_loop" = true)
  (k13:PySem.W.keepIn K (.ref f13)=true)
  (a14:PySem.W.nsIn K mainGlobals "top_rank" = some (some (.ref f14)))
  (l14:K.lookup f14=some ⟨oc14,od14,.func (PySem.W.fnOf "top_rank" "top_rank" (bJ mG) (bD mG) (aF mG) .none kV14 dc14 pm14 an14 cd14 ct14),sl14⟩)
  (c14:PySem.W.codeIn K cd14 "top_rank" = true)
  (k14:PySem.W.keepIn K (.ref f14)=true)
  (a15:PySem.W.nsIn K mainGlobals "is_good" = some (some (.ref f15)))
  (l15:K.lookup f15=some ⟨oc15,od15,.func (PySem.W.fnOf "is_good" "is_good" (bJ oM) (bD oM) (aF oM) .none kV15 dc15 pm15 an15 cd15 ct15),sl15⟩)
  (c15:PySem.W.codeIn K cd15 "is_good" = true)
  (k15:PySem.W.keepIn K (.ref f15)=true)
  (a16:PySem.W.nsIn K mainGlobals "all_rooms" = some (some (.ref f16)))
  (l16:K.lookup f16=some ⟨oc16,od16,.func (PySem.W.fnOf "all_rooms" "all_rooms" (bJ jZ) (bD jZ) (aF jZ) .none kV16 dc16 pm16 an16 cd16 ct16),sl16⟩)
  (c16:PySem.W.codeIn K cd16 "all_rooms" = true)
  (k16:PySem.W.keepIn K (.ref f16)=true)
  (a17:PySem.W.nsIn K mainGlobals "seen_from" = some (some (.ref f17)))
  (l17:K.lookup f17=some ⟨oc17,od17,.func (PySem.W.fnOf "seen_from" "seen_from" (bJ kE) (bD kE) (aF kE) .none kV17 dc17 pm17 an17 cd17 ct17),sl17⟩)
  (c17:PySem.W.codeIn K cd17 "seen_from" = true)
  (k17:PySem.W.keepIn K (.ref f17)=true)
  (a18:PySem.W.nsIn K mainGlobals "is_word" = some (some (.ref f18)))
  (l18:K.lookup f18=some ⟨oc18,od18,.func (PySem.W.fnOf "is_word" "is_word" (bJ oN) (bD oN) (aF oN) .none kV18 dc18 pm18 an18 cd18 ct18),sl18⟩)
  (c18:PySem.W.codeIn K cd18 "is_word" = true)
  (k18:PySem.W.keepIn K (.ref f18)=true)
  (a19:PySem.W.nsIn K mainGlobals "is_endless" = some (some (.ref f19)))
  (l19:K.lookup f19=some ⟨oc19,od19,.func (PySem.W.fnOf "is_endless" "is_endless" (bJ jA) (bD jA) (aF jA) .none kV19 dc19 pm19 an19 cd19 ct19),sl19⟩)
  (c19:PySem.W.codeIn K cd19 "is_endless" = true)
  (k19:PySem.W.keepIn K (.ref f19)=true)
  (a20:PySem.W.nsIn K mainGlobals "is_whole" = some (some (.ref f20)))
  (l20:K.lookup f20=some ⟨oc20,od20,.func (PySem.W.fnOf "is_whole" "is_whole" (bJ mH) (bD mH) (aF mH) .none kV20 dc20 pm20 an20 cd20 ct20),sl20⟩)
  (c20:PySem.W.codeIn K cd20 "is_whole" = true)
  (k20:PySem.W.keepIn K (.ref f20)=true)
  (a21:PySem.W.nsIn K mainGlobals "is_below" = some (some (.ref f21)))
  (l21:K.lookup f21=some ⟨oc21,od21,.func (PySem.W.fnOf "is_below" "is_below" (bJ mJ) (bD mJ) (aF mJ) .none kV21 dc21 pm21 an21 cd21 ct21),sl21⟩)
  (c21:PySem.W.codeIn K cd21 "is_below" = true)
  (k21:PySem.W.keepIn K (.ref f21)=true)
  (a22:PySem.W.findIn K (.ref A_Machine) (Str.ofString "check_room")=some (some (.ref f22)))
  (e22:PySem.W.isFn K (.ref f22)=true)
  (l22:K.lookup f22=some ⟨oc22,od22,.func (PySem.W.fnOf "check_room" "Machine.check_room" (bJ cT) (bD cT) (aF cT) .none kV22 dc22 pm22 an22 cd22 ct22),sl22⟩)
  (c22:PySem.W.codeIn K cd22 "Machine.check_room" = true)
  (k22:PySem.W.keepIn K (.ref f22)=true)
  (a23:PySem.W.findIn K (.ref A_Machine) (Str.ofString "rooms_along")=some (some (.ref f23)))
  (e23:PySem.W.isFn K (.ref f23)=true)
  (l23:K.lookup f23=some ⟨oc23,od23,.func (PySem.W.fnOf "rooms_along" "Machine.rooms_along" (bJ cP) (bD cP) (aF cP) .none kV23 dc23 pm23 an23 cd23 ct23),sl23⟩)
  (c23:PySem.W.codeIn K cd23 "Machine.rooms_along" = true)
  (k23:PySem.W.keepIn K (.ref f23)=true)
  (a24:PySem.W.findIn K (.ref A_Machine) (Str.ofString "walk")=some (some (.ref f24)))
  (e24:PySem.W.isFn K (.ref f24)=true)
  (l24:K.lookup f24=some ⟨oc24,od24,.func (PySem.W.fnOf "walk" "Machine.walk" (bJ fZ) (bD fZ) (aF fZ) (.ref T24) kV24 dc24 pm24 an24 cd24 ct24),sl24⟩)
  (t24:K.lookup T24=some ⟨toc24,tod24,.seq #[.int 0 tk24_0] tn24,tsl24⟩)
  (c24:PySem.W.codeIn K cd24 "Machine.walk" = true)
  (k24:PySem.W.keepIn K (.ref f24)=true)
  (a25:PySem.W.findIn K (.ref A_Machine) (Str.ofString "lets")=some (some (.ref f25)))
  (e25:PySem.W.isFn K (.ref f25)=true)
  (l25:K.lookup f25=some ⟨oc25,od25,.func (PySem.W.fnOf "lets" "Machine.lets" (bJ gA) (bD gA) (aF gA) (.ref T25) kV25 dc25 pm25 an25 cd25 ct25),sl25⟩)
  (t25:K.lookup T25=some ⟨toc25,tod25,.seq #[.int 0 tk25_0] tn25,tsl25⟩)
  (c25:PySem.W.codeIn K cd25 "Machine.lets" = true)
  (k25:PySem.W.keepIn K (.ref f25)=true)
  (a26:PySem.W.nsIn K mainGlobals "_law_ring_good" = some (some (.ref f26)))
  (l26:K.lookup f26=some ⟨oc26,od26,.func (PySem.W.fnOf "_law_ring_good" "_law_ring_good" (bJ eO) (bD eO) (aF eO) .none kV26 dc26 pm26 an26 cd26 ct26),sl26⟩)
  (c26:PySem.W.codeIn K cd26 "_law_ring_good" = true)
  (k26:PySem.W.keepIn K (.ref f26)=true)
  (a27:PySem.W.nsIn K mainGlobals "_law_ahead" = some (some (.ref f27)))
  (l27:K.lookup f27=some ⟨oc27,od27,.func (PySem.W.fnOf "_law_ahead" "_law_ahead" (bJ jB) (bD jB) (aF jB) .none kV27 dc27 pm27 an27 cd27 ct27),sl27⟩)
  (c27:PySem.W.codeIn K cd27 "_law_ahead" = true)
  (k27:PySem.W.keepIn K (.ref f27)=true)
  (a28:PySem.W.nsIn K mainGlobals "_law_is_loop" = some (some (.ref f28)))
  (l28:K.lookup f28=some ⟨oc28,od28,.func (PySem.W.fnOf "_law_is_loop" "_law_is_loop" (bJ gB) (bD gB) (aF gB) .none kV28 dc28 pm28 an28 cd28 ct28),sl28⟩)
  (c28:PySem.W.codeIn K cd28 "_law_is_loop" = true)
  (k28:PySem.W.keepIn K (.ref f28)=true)
  (a29:PySem.W.nsIn K mainGlobals "_law_loops" = some (some (.ref f29)))
  (l29:K.lookup f29=some ⟨oc29,od29,.func (PySem.W.fnOf "_law_loops" "_law_loops" (bJ jC) (bD jC) (aF jC) .none kV29 dc29 pm29 an29 cd29 ct29),sl29⟩)
  (c29:PySem.W.codeIn K cd29 "_law_loops" = true)
  (k29:PySem.W.keepIn K (.ref f29)=true)
  (a30:PySem.W.nsIn K mainGlobals "ways_from" = some (some (.ref f30)))
  (l30:K.lookup f30=some ⟨oc30,od30,.func (PySem.W.fnOf "ways_from" "ways_from" (bJ kI) (bD kI) (aF kI) .none kV30 dc30 pm30 an30 cd30 ct30),sl30⟩)
  (c30:PySem.W.codeIn K cd30 "ways_from" = true)
  (k30:PySem.W.keepIn K (.ref f30)=true)
  (a31:PySem.W.nsIn K mainGlobals "way_in" = some (some (.ref f31)))
  (l31:K.lookup f31=some ⟨oc31,od31,.func (PySem.W.fnOf "way_in" "way_in" (bJ rF) (bD rF) (aF rF) .none kV31 dc31 pm31 an31 cd31 ct31),sl31⟩)
  (c31:PySem.W.codeIn K cd31 "way_in" = true)
  (k31:PySem.W.keepIn K (.ref f31)=true)
  (a32:PySem.W.nsIn K mainGlobals "round_in" = some (some (.ref f32)))
  (l32:K.lookup f32=some ⟨oc32,od32,.func (PySem.W.fnOf "round_in" "round_in" (bJ mK) (bD mK) (aF mK) .none kV32 dc32 pm32 an32 cd32 ct32),sl32⟩)
  (c32:PySem.W.codeIn K cd32 "round_in" = true)
  (k32:PySem.W.keepIn K (.ref f32)=true)
  (a33:PySem.W.nsIn K mainGlobals "_law_round_good" = some (some (.ref f33)))
  (l33:K.lookup f33=some ⟨oc33,od33,.func (PySem.W.fnOf "_law_round_good" "_law_round_good" (bJ dO) (bD dO) (aF dO) .none kV33 dc33 pm33 an33 cd33 ct33),sl33⟩)
  (c33:PySem.W.codeIn K cd33 "_law_round_good" = true)
  (k33:PySem.W.keepIn K (.ref f33)=true)
  (a34:PySem.W.nsIn K mainGlobals "is_filled_list" = some (some (.ref f34)))
  (l34:K.lookup f34=some ⟨oc34,od34,.func (PySem.W.fnOf "is_filled_list" "is_filled_list" (bJ eQ) (bD eQ) (aF eQ) .none kV34 dc34 pm34 an34 cd34 ct34),sl34⟩)
  (c34:PySem.W.codeIn K cd34 "is_filled_list" = true)
  (k34:PySem.W.keepIn K (.ref f34)=true)
  (a35:PySem.W.nsIn K mainGlobals "is_row" = some (some (.ref f35)))
  (l35:K.lookup f35=some ⟨oc35,od35,.func (PySem.W.fnOf "is_row" "is_row" (bJ rG) (bD rG) (aF rG) .none kV35 dc35 pm35 an35 cd35 ct35),sl35⟩)
  (c35:PySem.W.codeIn K cd35 "is_row" = true)
  (k35:PySem.W.keepIn K (.ref f35)=true)
  (a36:PySem.W.nsIn K mainGlobals "are_steps" = some (some (.ref f36)))
  (l36:K.lookup f36=some ⟨oc36,od36,.func (PySem.W.fnOf "are_steps" "are_steps" (bJ kJ) (bD kJ) (aF kJ) .none kV36 dc36 pm36 an36 cd36 ct36),sl36⟩)
  (c36:PySem.W.codeIn K cd36 "are_steps" = true)
  (k36:PySem.W.keepIn K (.ref f36)=true)
  (a37:PySem.W.nsIn K mainGlobals "are_ranks" = some (some (.ref f37)))
  (l37:K.lookup f37=some ⟨oc37,od37,.func (PySem.W.fnOf "are_ranks" "are_ranks" (bJ kO) (bD kO) (aF kO) .none kV37 dc37 pm37 an37 cd37 ct37),sl37⟩)
  (c37:PySem.W.codeIn K cd37 "are_ranks" = true)
  (k37:PySem.W.keepIn K (.ref f37)=true)
  (a38:PySem.W.findIn K (.ref A_Machine) (Str.ofString "__init__")=some (some (.ref f38)))
  (e38:PySem.W.isFn K (.ref f38)=true)
  (l38:K.lookup f38=some ⟨oc38,od38,.func (PySem.W.fnOf "__init__" "Machine.__init__" (bJ dI) (bD dI) (aF dI) .none kV38 dc38 pm38 an38 cd38 ct38),sl38⟩)
  (c38:PySem.W.codeIn K cd38 "Machine.__init__" = true)
  (k38:PySem.W.keepIn K (.ref f38)=true)
  (a39:PySem.W.nsIn K mainGlobals "law" = some (some (.ref f39)))
  (l39:K.lookup f39=some ⟨oc39,od39,.func (PySem.W.fnOf "law" "law" (bJ yX) (bD yX) (aF yX) .none kV39 dc39 pm39 an39 cd39 ct39),sl39⟩)
  (c39:PySem.W.codeIn K cd39 "law" = true)
  (k39:PySem.W.keepIn K (.ref f39)=true)
  (v_LETTERS:PySem.W.nsIn K mainGlobals "LETTERS" = some (some (.str "abc" t_LETTERS)))
  (v_MOST_LETTERS:PySem.W.nsIn K mainGlobals "MOST_LETTERS" = some (some (.int 3 t_MOST_LETTERS)))
  (v_MOST_ROOMS:PySem.W.nsIn K mainGlobals "MOST_ROOMS" = some (some (.int 8 t_MOST_ROOMS)))
  (z_all:PySem.W.nsIn K mainGlobals "all" = some none)
  (z_bool:PySem.W.nsIn K mainGlobals "bool" = some none)
  (z_int:PySem.W.nsIn K mainGlobals "int" = some none)
  (z_isinstance:PySem.W.nsIn K mainGlobals "isinstance" = some none)
  (z_len:PySem.W.nsIn K mainGlobals "len" = some none)
  (z_list:PySem.W.nsIn K mainGlobals "list" = some none)
  (z_max:PySem.W.nsIn K mainGlobals "max" = some none)
  (z_range:PySem.W.nsIn K mainGlobals "range" = some none)
  (z_sorted:PySem.W.nsIn K mainGlobals "sorted" = some none)
  (z_str:PySem.W.nsIn K mainGlobals "str" = some none)
  (z_tuple:PySem.W.nsIn K mainGlobals "tuple" = some none)
  (z_zip:PySem.W.nsIn K mainGlobals "zip" = some none) :
  ∃ fd:FuncData,(∀ (s:Shared) (v:Value),BindsTo s fd ⟨[v],[]⟩ [("_law_script", v)])/\∀ base:Heap,K.In base->base.Ns mainGlobals mg->FnOk l.prog w K mg base CX0 9 fa fd ["_law_script"] (spI K 1 aE4):=by
 have e:=hfa.symm.trans (PySem.W.mg_of X G a39)
 cases e
 have c_Machine:ClsAt K "Machine" A_Machine:=⟨x_Machine,x1_Machine,x2_Machine,x3_Machine,x4_Machine⟩
 have na_Machine_letters:dM K A_Machine (Str.ofString "letters"):=w_Machine_letters
 have na_Machine_many:dM K A_Machine (Str.ofString "many"):=w_Machine_many
 have na_Machine_ranks:dM K A_Machine (Str.ofString "ranks"):=w_Machine_ranks
 have na_Machine_steps:dM K A_Machine (Str.ofString "steps"):=w_Machine_steps
 obtain ⟨bm_NoLoop,e_NoLoop⟩:=yV FE y_NoLoop y0_NoLoop y1_NoLoop y6_NoLoop y7_NoLoop y2_NoLoop y3 y4 y5_NoLoop
 have ge_NoLoop:=PySem.W.mg_of X G y_NoLoop
 obtain ⟨bm_NoMachine,e_NoMachine⟩:=yV FE y_NoMachine y0_NoMachine y1_NoMachine y6_NoMachine y7_NoMachine y2_NoMachine y3 y4 y5_NoMachine
 have ge_NoMachine:=PySem.W.mg_of X G y_NoMachine
 obtain ⟨bm_NoRoom,e_NoRoom⟩:=yV FE y_NoRoom y0_NoRoom y1_NoRoom y6_NoRoom y7_NoRoom y2_NoRoom y3 y4 y5_NoRoom
 have ge_NoRoom:=PySem.W.mg_of X G y_NoRoom
 obtain ⟨bm_NoWord,e_NoWord⟩:=yV FE y_NoWord y0_NoWord y1_NoWord y6_NoWord y7_NoWord y2_NoWord y3 y4 y5_NoWord
 have ge_NoWord:=PySem.W.mg_of X G y_NoWord
 have F1:=cA (st:=jW) l1 c1 k1
 have b1:=F1.binds0 (ps:=["_law_script", "_law_k"]) fun _ _ _ _ _ _=>eZ (fun _ _=>rfl)
 have F2:=cA (st:=lZ) l2 c2 k2
 have b2:=F2.binds0 (ps:=["_law_cell_here", "_law_k", "_law_many"]) fun _ _ _ _ _ _=>jL (fun _ _ _=>rfl)
 have F3:=cA (st:=fY) l3 c3 k3
 have b3:=F3.binds0 (ps:=["_law_script", "_law_at", "_law_most"]) fun _ _ _ _ _ _=>jL (fun _ _ _=>rfl)
 have F4:=cA (st:=jX) l4 c4 k4
 have b4:=F4.binds0 (ps:=["_law_cell_here", "_law_letters", "_law_least", "_law_most"]) fun _ _ _ _ _ _=>aBh (fun _ _ _ _=>rfl)
 have F5:=cA (st:=jY) l5 c5 k5
 have b5:=F5.binds0 (ps:=["_law_steps", "_law_room", "_law_front", "_law_turn"]) fun _ _ _ _ _ _=>aBh (fun _ _ _ _=>rfl)
 have F6:=cA (st:=oJ) l6 c6 k6
 have b6:=F6.binds0 (ps:=["rooms"]) fun _ _ _ _ _ _=>pP (fun _=>rfl)
 have F7:=cA (st:=mC) l7 c7 k7
 have b7:=F7.binds0 (ps:=["bits", "room"]) fun _ _ _ _ _ _=>eZ (fun _ _=>rfl)
 have F8:=cA (st:=mF) l8 c8 k8
 have b8:=F8.binds0 (ps:=["bits"]) fun _ _ _ _ _ _=>pP (fun _=>rfl)
 have F9:=cA (st:=iW) l9 c9 k9
 have b9:=F9.binds0 (ps:=["steps", "allowed"]) fun _ _ _ _ _ _=>eZ (fun _ _=>rfl)
 have F10:=cA (st:=iY) l10 c10 k10
 have b10:=F10.binds0 (ps:=["steps", "part"]) fun _ _ _ _ _ _=>eZ (fun _ _=>rfl)
 have F11:=cA (st:=gO) l11 c11 k11
 have b11:=F11.binds0 (ps:=["steps", "allowed"]) fun _ _ _ _ _ _=>eZ (fun _ _=>rfl)
 have F12:=cA (st:=iZ) l12 c12 k12
 have b12:=F12.binds0 (ps:=["machine", "allowed"]) fun _ _ _ _ _ _=>eZ (fun _ _=>rfl)
 have F13:=cA (st:=oK) l13 c13 k13
 have b13:=F13.binds0 (ps:=["machine", "bits"]) fun _ _ _ _ _ _=>eZ (fun _ _=>rfl)
 have F14:=cA (st:=mG) l14 c14 k14
 have b14:=F14.binds0 (ps:=["machine", "bits"]) fun _ _ _ _ _ _=>eZ (fun _ _=>rfl)
 have F15:=cA (st:=oM) l15 c15 k15
 have b15:=F15.binds0 (ps:=["machine", "bits"]) fun _ _ _ _ _ _=>eZ (fun _ _=>rfl)
 have F16:=cA (st:=jZ) l16 c16 k16
 have b16:=F16.binds0 (ps:=["machine"]) fun _ _ _ _ _ _=>pP (fun _=>rfl)
 have F17:=cA (st:=kE) l17 c17 k17
 have b17:=F17.binds0 (ps:=["machine", "room"]) fun _ _ _ _ _ _=>eZ (fun _ _=>rfl)
 have F18:=cA (st:=oN) l18 c18 k18
 have b18:=F18.binds0 (ps:=["thing", "many"]) fun _ _ _ _ _ _=>eZ (fun _ _=>rfl)
 have F19:=cA (st:=jA) l19 c19 k19
 have b19:=F19.binds0 (ps:=["thing", "many"]) fun _ _ _ _ _ _=>eZ (fun _ _=>rfl)
 have F20:=cA (st:=mH) l20 c20 k20
 have b20:=F20.binds0 (ps:=["thing"]) fun _ _ _ _ _ _=>pP (fun _=>rfl)
 have F21:=cA (st:=mJ) l21 c21 k21
 have b21:=F21.binds0 (ps:=["thing", "limit"]) fun _ _ _ _ _ _=>eZ (fun _ _=>rfl)
 have F22:=cA (st:=cT) l22 c22 k22
 have b22:=F22.binds0 (ps:=["self", "thing"]) fun _ _ _ _ _ _=>eZ (fun _ _=>rfl)
 have F23:=cA (st:=cP) l23 c23 k23
 have b23:=F23.binds0 (ps:=["self", "room", "text"]) fun _ _ _ _ _ _=>jL (fun _ _ _=>rfl)
 have F24:=cA (st:=fZ) l24 c24 k24
 have b24_0:Binds K _ ["self", "word", "room"] []:=F24.binds (m:=3) t24 rfl rfl fun _ _ _ _ _ _=>jL (fun _ _ _=>⟨_,rfl,rfl⟩)
 have F25:=cA (st:=gA) l25 c25 k25
 have b25_0:Binds K _ ["self", "word", "room"] []:=F25.binds (m:=3) t25 rfl rfl fun _ _ _ _ _ _=>jL (fun _ _ _=>⟨_,rfl,rfl⟩)
 have F26:=cA (st:=eO) l26 c26 k26
 have b26:=F26.binds0 (ps:=["_law_machine_here", "_law_steps", "_law_ranks", "_law_room", "_law_word_here"]) fun _ _ _ _ _ _=>aTm (fun _ _ _ _ _=>rfl)
 have F27:=cA (st:=jB) l27 c27 k27
 have b27:=F27.binds0 (ps:=["_law_steps", "_law_bits", "_law_room"]) fun _ _ _ _ _ _=>jL (fun _ _ _=>rfl)
 have F28:=cA (st:=gB) l28 c28 k28
 have b28:=F28.binds0 (ps:=["_law_steps", "_law_bits"]) fun _ _ _ _ _ _=>eZ (fun _ _=>rfl)
 have F29:=cA (st:=jC) l29 c29 k29
 have b29:=F29.binds0 (ps:=["_law_steps"]) fun _ _ _ _ _ _=>pP (fun _=>rfl)
 have F30:=cA (st:=kI) l30 c30 k30
 have b30:=F30.binds0 (ps:=["steps", "start", "allowed"]) fun _ _ _ _ _ _=>jL (fun _ _ _=>rfl)
 have F31:=cA (st:=rF) l31 c31 k31
 have b31:=F31.binds0 (ps:=["machine", "allowed", "room", "goal"]) fun _ _ _ _ _ _=>aBh (fun _ _ _ _=>rfl)
 have F32:=cA (st:=mK) l32 c32 k32
 have b32:=F32.binds0 (ps:=["machine", "bits", "room"]) fun _ _ _ _ _ _=>jL (fun _ _ _=>rfl)
 have F33:=cA (st:=dO) l33 c33 k33
 have b33:=F33.binds0 (ps:=["_law_machine_here", "_law_steps", "_law_bits"]) fun _ _ _ _ _ _=>jL (fun _ _ _=>rfl)
 have F34:=cA (st:=eQ) l34 c34 k34
 have b34:=F34.binds0 (ps:=["thing", "most"]) fun _ _ _ _ _ _=>eZ (fun _ _=>rfl)
 have F35:=cA (st:=rG) l35 c35 k35
 have b35:=F35.binds0 (ps:=["thing", "letters", "rooms"]) fun _ _ _ _ _ _=>jL (fun _ _ _=>rfl)
 have F36:=cA (st:=kJ) l36 c36 k36
 have b36:=F36.binds0 (ps:=["thing"]) fun _ _ _ _ _ _=>pP (fun _=>rfl)
 have F37:=cA (st:=kO) l37 c37 k37
 have b37:=F37.binds0 (ps:=["thing", "rooms"]) fun _ _ _ _ _ _=>eZ (fun _ _=>rfl)
 have F38:=aW0 (st:=dI) l38 c38 k38
 have b38:=F38.binds (ps:=["self", "steps", "ranks"]) fun _ _ _ _ _ _=>jL (fun _ _ _=>rfl)
 have F39:=cA (st:=yX) l39 c39 k39
 have b39:=F39.binds0 (ps:=["_law_script"]) fun _ _ _ _ _ _=>pP (fun _=>rfl)
 have b_all:=PySem.W.mg_none_of X G z_all
 have b_bool:=PySem.W.mg_none_of X G z_bool
 have b_int:=PySem.W.mg_none_of X G z_int
 have b_isinstance:=PySem.W.mg_none_of X G z_isinstance
 have b_len:=PySem.W.mg_none_of X G z_len
 have b_list:=PySem.W.mg_none_of X G z_list
 have b_max:=PySem.W.mg_none_of X G z_max
 have b_range:=PySem.W.mg_none_of X G z_range
 have b_sorted:=PySem.W.mg_none_of X G z_sorted
 have b_str:=PySem.W.mg_none_of X G z_str
 have b_tuple:=PySem.W.mg_none_of X G z_tuple
 have b_zip:=PySem.W.mg_none_of X G z_zip
 have g_LETTERS:=PySem.W.mg_of X G v_LETTERS
 have g_MOST_LETTERS:=PySem.W.mg_of X G v_MOST_LETTERS
 have g_MOST_ROOMS:=PySem.W.mg_of X G v_MOST_ROOMS
 refine ⟨PySem.W.fnOf "law" "law" (bJ yX) (bD yX) (aF yX) .none kV39 dc39 pm39 an39 cd39 ct39,fun s v => .of_eq rfl,fun base _ _=>?_⟩
 have f__law_cell:=aIi (P:=l.prog) (w:=w) (mg:=mg) (base:=base) F1 b_len
 have h__law_cell:=DefOk.of f__law_cell (PySem.W.mg_of X G a1) F1.kp b1 cB
 have f__law_mix:=aK8 (P:=l.prog) (w:=w) (mg:=mg) (base:=base) F2 
 have h__law_mix:=DefOk.of f__law_mix (PySem.W.mg_of X G a2) F2.kp b2 cB
 have f__law_machine:=aDb (P:=l.prog) (w:=w) (mg:=mg) (base:=base) F3 h__law_cell h__law_mix b_range
 have h__law_machine:=DefOk.of f__law_machine (PySem.W.mg_of X G a3) F3.kp b3 cB
 have f__law_word:=aIj (P:=l.prog) (w:=w) (mg:=mg) (base:=base) F4 h__law_mix b_range
 have h__law_word:=DefOk.of f__law_word (PySem.W.mg_of X G a4) F4.kp b4 cB
 have f__law_ring:=aIk (P:=l.prog) (w:=w) (mg:=mg) (base:=base) F5 b_range b_len b_sorted
 have h__law_ring:=DefOk.of f__law_ring (PySem.W.mg_of X G a5) F5.kp b5 cB
 have f_bits_of:=aNu (P:=l.prog) (w:=w) (mg:=mg) (base:=base) F6 
 have h_bits_of:=DefOk.of f_bits_of (PySem.W.mg_of X G a6) F6.kp b6 cB
 have f_has_room:=aK9 (P:=l.prog) (w:=w) (mg:=mg) (base:=base) F7 
 have h_has_room:=DefOk.of f_has_room (PySem.W.mg_of X G a7) F7.kp b7 cB
 have f_rooms_of:=aKa (P:=l.prog) (w:=w) (mg:=mg) (base:=base) F8 h_has_room b_range
 have h_rooms_of:=DefOk.of f_rooms_of (PySem.W.mg_of X G a8) F8.kp b8 cB
 have f_seen_among:=aGc (P:=l.prog) (w:=w) (mg:=mg) (base:=base) F9 h_rooms_of h_bits_of h_has_room
 have h_seen_among:=DefOk.of f_seen_among (PySem.W.mg_of X G a9) F9.kp b9 cB
 have f_goes_round:=aGd (P:=l.prog) (w:=w) (mg:=mg) (base:=base) F10 h_rooms_of b_len
 have h_goes_round:=DefOk.of f_goes_round (PySem.W.mg_of X G a10) F10.kp b10 cB
 have f_parts_among:=aDp (P:=l.prog) (w:=w) (mg:=mg) (base:=base) F11 h_seen_among h_rooms_of h_bits_of h_has_room h_goes_round
 have h_parts_among:=DefOk.of f_parts_among (PySem.W.mg_of X G a11) F11.kp b11 cB
 have f_loop_parts:=aGe (P:=l.prog) (w:=w) (mg:=mg) (base:=base) F12 h_parts_among c_Machine na_Machine_steps
 have h_loop_parts:=DefOk.of f_loop_parts (PySem.W.mg_of X G a12) F12.kp b12 cB
 have f_is_loop:=aNv (P:=l.prog) (w:=w) (mg:=mg) (base:=base) F13 h_loop_parts
 have h_is_loop:=DefOk.of f_is_loop (PySem.W.mg_of X G a13) F13.kp b13 cB
 have f_top_rank:=aKb (P:=l.prog) (w:=w) (mg:=mg) (base:=base) F14 h_rooms_of c_Machine na_Machine_ranks e_NoLoop ge_NoLoop b_max
 have h_top_rank:=DefOkX.of f_top_rank (PySem.W.mg_of X G a14) F14.kp b14
 have f_is_good:=aNw (P:=l.prog) (w:=w) (mg:=mg) (base:=base) F15 h_top_rank
 have h_is_good:=DefOkX.of f_is_good (PySem.W.mg_of X G a15) F15.kp b15
 have f_all_rooms:=aIl (P:=l.prog) (w:=w) (mg:=mg) (base:=base) F16 h_bits_of c_Machine na_Machine_many b_list b_range
 have h_all_rooms:=DefOk.of f_all_rooms (PySem.W.mg_of X G a16) F16.kp b16 cB
 have f_seen_from:=aIm (P:=l.prog) (w:=w) (mg:=mg) (base:=base) F17 h_seen_among h_all_rooms c_Machine na_Machine_steps
 have h_seen_from:=DefOk.of f_seen_from (PySem.W.mg_of X G a17) F17.kp b17 cB
 have f_is_word:=aNx (P:=l.prog) (w:=w) (mg:=mg) (base:=base) F18 b_isinstance b_str g_LETTERS
 have h_is_word:=DefOk.of f_is_word (PySem.W.mg_of X G a18) F18.kp b18 cB
 have f_is_endless:=aGf (P:=l.prog) (w:=w) (mg:=mg) (base:=base) F19 h_is_word b_isinstance b_tuple b_len
 have h_is_endless:=DefOk.of f_is_endless (PySem.W.mg_of X G a19) F19.kp b19 cB
 have f_is_whole:=aKc (P:=l.prog) (w:=w) (mg:=mg) (base:=base) F20 b_isinstance b_int b_bool
 have h_is_whole:=DefOk.of f_is_whole (PySem.W.mg_of X G a20) F20.kp b20 cB
 have f_is_below:=aKd (P:=l.prog) (w:=w) (mg:=mg) (base:=base) F21 h_is_whole
 have h_is_below:=DefOk.of f_is_below (PySem.W.mg_of X G a21) F21.kp b21 cB
 have f_Machine_check_room:=uY (P:=l.prog) (w:=w) (mg:=mg) (base:=base) F22 h_is_below c_Machine na_Machine_many e_NoRoom ge_NoRoom
 have m_Machine_check_room_0:MethOkX l.prog w K mg base "Machine" "check_room" 3 2 [] cR:=MethOkX.of (dvs:=[]) c_Machine ⟨a22,e22,k22⟩ f_Machine_check_room b22 (.nil) fun _ => .nil
 have f_Machine_rooms_along:=tV (P:=l.prog) (w:=w) (mg:=mg) (base:=base) F23 c_Machine na_Machine_steps g_LETTERS
 have m_Machine_rooms_along_0:MethOkF l.prog w K mg base "Machine" "rooms_along" 1 3 [] bG:=MethOkF.of (dvs:=[]) c_Machine ⟨a23,e23,k23⟩ f_Machine_rooms_along b23 (.nil) fun _ => .nil
 have f_Machine_walk:=aDc (P:=l.prog) (w:=w) (mg:=mg) (base:=base) F24 h_is_endless m_Machine_check_room_0 m_Machine_rooms_along_0 c_Machine na_Machine_letters e_NoWord ge_NoWord b_len
 have m_Machine_walk_0:MethOkX l.prog w K mg base "Machine" "walk" 4 3 [] iD:=MethOkX.of (dvs:=[]) c_Machine ⟨a24,e24,k24⟩ f_Machine_walk b24_0 (.nil) fun _ => .nil
 have f_Machine_lets:=aDd (P:=l.prog) (w:=w) (mg:=mg) (base:=base) F25 m_Machine_walk_0 c_Machine na_Machine_ranks b_max
 have m_Machine_lets_0:MethOkX l.prog w K mg base "Machine" "lets" 5 3 [] eV:=MethOkX.of (dvs:=[]) c_Machine ⟨a25,e25,k25⟩ f_Machine_lets b25_0 (.nil) fun _ => .nil
 have f__law_ring_good:=aA7 (P:=l.prog) (w:=w) (mg:=mg) (base:=base) F26 h__law_ring h_bits_of h_is_loop h_is_good h_loop_parts h_seen_from m_Machine_lets_0 b_max b_len
 have h__law_ring_good:=DefOk.of f__law_ring_good (PySem.W.mg_of X G a26) F26.kp b26 cB
 have f__law_ahead:=aGg (P:=l.prog) (w:=w) (mg:=mg) (base:=base) F27 b_len
 have h__law_ahead:=DefOk.of f__law_ahead (PySem.W.mg_of X G a27) F27.kp b27 cB
 have f__law_is_loop:=aDe (P:=l.prog) (w:=w) (mg:=mg) (base:=base) F28 h__law_ahead b_range b_len
 have h__law_is_loop:=DefOk.of f__law_is_loop (PySem.W.mg_of X G a28) F28.kp b28 cB
 have f__law_loops:=aGh (P:=l.prog) (w:=w) (mg:=mg) (base:=base) F29 h__law_is_loop b_range b_len
 have h__law_loops:=DefOk.of f__law_loops (PySem.W.mg_of X G a29) F29.kp b29 cB
 have f_ways_from:=aIn (P:=l.prog) (w:=w) (mg:=mg) (base:=base) F30 b_len b_zip g_LETTERS
 have h_ways_from:=DefOk.of f_ways_from (PySem.W.mg_of X G a30) F30.kp b30 cB
 have f_way_in:=aR6 (P:=l.prog) (w:=w) (mg:=mg) (base:=base) F31 h_has_room h_ways_from h_rooms_of c_Machine na_Machine_steps
 have h_way_in:=DefOk.of f_way_in (PySem.W.mg_of X G a31) F31.kp b31 cB
 have f_round_in:=aKe (P:=l.prog) (w:=w) (mg:=mg) (base:=base) F32 h_is_loop h_has_room h_rooms_of h_way_in m_Machine_rooms_along_0 c_Machine na_Machine_steps e_NoLoop ge_NoLoop g_LETTERS
 have h_round_in:=DefOkX.of f_round_in (PySem.W.mg_of X G a32) F32.kp b32
 have f__law_round_good:=zK (P:=l.prog) (w:=w) (mg:=mg) (base:=base) F33 h_rooms_of h_round_in h__law_ring h_is_good m_Machine_lets_0
 have h__law_round_good:=DefOkX.of f__law_round_good (PySem.W.mg_of X G a33) F33.kp b33
 have f_is_filled_list:=aA8 (P:=l.prog) (w:=w) (mg:=mg) (base:=base) F34 b_isinstance b_list b_len
 have h_is_filled_list:=DefOk.of f_is_filled_list (PySem.W.mg_of X G a34) F34.kp b34 cB
 have f_is_row:=aR7 (P:=l.prog) (w:=w) (mg:=mg) (base:=base) F35 h_is_below b_len b_all
 have h_is_row:=DefOk.of f_is_row (PySem.W.mg_of X G a35) F35.kp b35 cB
 have f_are_steps:=aIo (P:=l.prog) (w:=w) (mg:=mg) (base:=base) F36 h_is_filled_list h_is_row b_all b_len g_MOST_ROOMS g_MOST_LETTERS
 have h_are_steps:=DefOk.of f_are_steps (PySem.W.mg_of X G a36) F36.kp b36 cB
 have f_are_ranks:=aIp (P:=l.prog) (w:=w) (mg:=mg) (base:=base) F37 h_is_whole b_isinstance b_list b_len b_all
 have h_are_ranks:=DefOk.of f_are_ranks (PySem.W.mg_of X G a37) F37.kp b37 cB
 have f_Machine___init__:=xQ (P:=l.prog) (w:=w) (mg:=mg) (base:=base) F38 h_are_steps h_are_ranks c_Machine na_Machine_steps na_Machine_ranks na_Machine_many na_Machine_letters b_len b_list
 have k_Machine:=MakeOk.of c_Machine ⟨x5_Machine,a38,e38,x6_Machine⟩ f_Machine___init__ b38 (PySem.W.mg_of X G x_Machine)
 have f_law:=bBj (P:=l.prog) (w:=w) (mg:=mg) (base:=base) F39 h__law_machine h__law_mix h__law_word h__law_ring_good h__law_loops h__law_round_good h_loop_parts h_seen_from k_Machine b_list b_len
 exact f_law
theorem aTv{q:Program}{loose:List Str}{XP:(Str->Option Value)->Heap->Prop}{K:Params->PySem.W.Frag}{as:List Addr}{n t:Nat}{r:PySem.W.RowW}{d:DefRec}{kwd:List (Str × Expr)}{run:Value->List Value->Sem Value}(e:∀ P,as=(K P).map (·.1))(h:PySem.W.WalkO q loose XP (PySem.W.InK K) r d kwd run):PySem.W.WalkX q loose XP (PySem.W.X.obsZ as) (PySem.W.X.valZ K n t) r d kwd run :=
 fun w s₀ s₁ mg mb G y a o pm cd doc dV kV h1 h2 h3 h4 h5 h6 args vals as' L h7 h8 h9 h10 h11=>h w s₀ s₁ mg mb G (PySem.W.InK.keeps w _ _ (PySem.W.X.z_facts e y).2.1 L.keeps) a o pm cd doc dV kV h1 h2 h3 h4 h5 h6 args vals as' h7 h8 h9 h10 h11
theorem walk{l:PySem.W.OpenLaw}{q:Program}{loose:List Str}{XP:(Str->Option Value)->Heap->Prop}{YP:World->Heap->Prop}{d:DefRec}{K:Params->PySem.W.Frag}(hn:l.most=some 63)(hdf:d.params.defaults=[])
  (hY:∀ (w:World) (h:Heap),YP w h->(K w.params).In h)
  (hlaw:∀ ns:List Int,ns.length<=63->aE4 [.lst (ns.map D.int)] = .ok (.bl true))
  (F:∀ (w:World) (mg:Str->Option Value) (fa:Addr) (h:Heap),(K w.params).In h->h.Ns mainGlobals mg->mg d.name=some (.ref fa) ->
   ∃ fd:FuncData,(∀ (s:Shared) (u:Value),BindsTo s fd ⟨[u],[]⟩ [("_law_script", u)])/\∀ base:Heap,(K w.params).In base->base.Ns mainGlobals mg->FnOk l.prog w (K w.params) mg base CX0 9 fa fd ["_law_script"] (spI (K w.params) 1 aE4)) :
  PySem.W.WalkO q loose XP YP l.row.toRowW d [] (fun f vs=>PySem.call f vs) :=
 L2.walk_of (n:=63) (k:=9) (x := "_law_script") (CX:=fun _=>CX0) (sp:=fun w=>spI (K w.params) 1 aE4) hn (by decide) hdf ⟨rfl,by decide,by decide⟩ hY F (fun _ _ a ns hl _ hS=>aXt hS (hlaw ns hl)) fun _ _ _ _ _ z=>z
end Pu
namespace PySem.W.Fast
def tw6550864587875893676:=0
def tw16072849341018324296:=0
def tw5638272789581289695:=0
def tw5320124015045491174:=0
def tw9861945331981904245:=0
def tw17797996247257389005:=0
def tw11318668416531130431:=0
def tw6814158258085037974:=0
def tw1011059247450909241:=0
def tw18273587284609266428:=0
def tw4908006856350122238:=0
def tw1535053210062348993:=0
def tw16797073059326342102:=0
def tw10752646579239666944:=0
def tw10733394376777024865:=0
def tw11401915010301069818:=0
def tw4897908450509928433:=0
def tw18289098320044608441:=0
def tw17795220926973331590:=0
def tw4838344013470658410:=0
def tw16632675541440000414:=0
def tw13616288043327883318:=0
def tw2440857519550225071:=0
def tw7627279963466821731:=0
def tw12553892795059882214:=0
def tw8335613747167573415:=0
def tw3012398686935120769:=0
def tw15269494081931219647:=0
def tw2775949379350459361:=0
def tw14657696748628612394:=0
def tw8181118836916552242:=0
def tw12642980850273596905:=0
def tw15722227264194199954:=0
def tw15141720078914521075:=0
def tw7797363652583311428:=0
def tw16445929688565660198:=0
def tw11779640309034428893:=0
def tw8011055253054139234:=0
def tw15141184904405934434:=0
def tw9798976880615045518:=0
def tw8074678542416013691:=0
def tw7427505863993733019:=0
def tw5880585820339907849:=0
def tw9596127717335783060:=0
def tw11177138302862955270:=0
def tw11182346880512289694:=0
def tw8187922316622526397:=0
def tw10974228719268200074:=0
def tw318565747297335861:=0
def tw3709922778003557394:=0
def tw11059718969971976277:=0
def tw4666433927853102775:=0
def tw12173302102424806425:=0
def tw16935952778375679937:=0
def tw16060505066119717987:=0
def tw26648749813981310:=0
def tw7608750543047749012:=0
def tw17231022323756959513:=0
def tw12058126454728463552:=0
def tw2004543176356156670:=0
def tw14119230578837305278:=0
def tw16753970066368087289:=0
def tw6261945197044509626:=0
def tw10575822380778327968:=0
def tw14709237935616454570:=0
def tw11503815473187823455:=0
def tw17938108697953004982:=0
def tw5019291312986225754:=0
def tw7885674315571837159:=0
def tw3427959952168106634:=0
def tw2072715538171724227:=0
def tw15484366664234995489:=0
def tw7496961166314272351:=0
def tw6684197584884130691:=0
def tw14682366709735727749:=0
def tw13588064266739055585:=0
def tw18119362864768531253:=0
def tw17868093599016660106:=0
def tw9226000677757322893:=0
def tw5959279730285668523:=0
def tw3245441795005640909:=0
end PySem.W.Fast
open PySem PySem.W PyProof.Rows
set_option maxRecDepth 100000 in
set_option maxHeartbeats 0 in
theorem PySem.Challenge.cw_looprank_k26_whole_rings_are_loops_holds : PySem.Challenge.rw_looprank_k26_whole_rings_are_loops.Holds := by
 w_on;o_law;z_head;(case hw=>w_witness2)
 k_fill
 refine Pu.aTv (fun P=>by kernel_rfl) (Pu.walk (l:=PySem.Challenge.rw_looprank_k26_whole_rings_are_loops) rfl rfl (fun w h Y=>Y) Pu.law_true ?F)
 case F =>
  intro w mg fa h KX G hmg
  refine' Pu.all_mk PySem.F.excBase_ValueError KX G hmg ?x_Machine ?x1_Machine ?x2_Machine ?x3_Machine ?x4_Machine ?x5_Machine ?x6_Machine ?w_Machine_letters ?w_Machine_many ?w_Machine_ranks ?w_Machine_steps ?y3 ?y4 ?y_NoLoop ?y0_NoLoop ?y1_NoLoop ?y6_NoLoop ?y7_NoLoop ?y2_NoLoop ?y5_NoLoop ?y_NoMachine ?y0_NoMachine ?y1_NoMachine ?y6_NoMachine ?y7_NoMachine ?y2_NoMachine ?y5_NoMachine ?y_NoRoom ?y0_NoRoom ?y1_NoRoom ?y6_NoRoom ?y7_NoRoom ?y2_NoRoom ?y5_NoRoom ?y_NoWord ?y0_NoWord ?y1_NoWord ?y6_NoWord ?y7_NoWord ?y2_NoWord ?y5_NoWord ?a1 ?l1 ?c1 ?k1 ?a2 ?l2 ?c2 ?k2 ?a3 ?l3 ?c3 ?k3 ?a4 ?l4 ?c4 ?k4 ?a5 ?l5 ?c5 ?k5 ?a6 ?l6 ?c6 ?k6 ?a7 ?l7 ?c7 ?k7 ?a8 ?l8 ?c8 ?k8 ?a9 ?l9 ?c9 ?k9 ?a10 ?l10 ?c10 ?k10 ?a11 ?l11 ?c11 ?k11 ?a12 ?l12 ?c12 ?k12 ?a13 ?l13 ?c13 ?k13 ?a14 ?l14 ?c14 ?k14 ?a15 ?l15 ?c15 ?k15 ?a16 ?l16 ?c16 ?k16 ?a17 ?l17 ?c17 ?k17 ?a18 ?l18 ?c18 ?k18 ?a19 ?l19 ?c19 ?k19 ?a20 ?l20 ?c20 ?k20 ?a21 ?l21 ?c21 ?k21 ?a22 ?e22 ?l22 ?c22 ?k22 ?a23 ?e23 ?l23 ?c23 ?k23 ?a24 ?e24 ?l24 ?t24 ?c24 ?k24 ?a25 ?e25 ?l25 ?t25 ?c25 ?k25 ?a26 ?l26 ?c26 ?k26 ?a27 ?l27 ?c27 ?k27 ?a28 ?l28 ?c28 ?k28 ?a29 ?l29 ?c29 ?k29 ?a30 ?l30 ?c30 ?k30 ?a31 ?l31 ?c31 ?k31 ?a32 ?l32 ?c32 ?k32 ?a33 ?l33 ?c33 ?k33 ?a34 ?l34 ?c34 ?k34 ?a35 ?l35 ?c35 ?k35 ?a36 ?l36 ?c36 ?k36 ?a37 ?l37 ?c37 ?k37 ?a38 ?e38 ?l38 ?c38 ?k38 ?a39 ?l39 ?c39 ?k39 ?v_LETTERS ?v_MOST_LETTERS ?v_MOST_ROOMS ?z_all ?z_bool ?z_int ?z_isinstance ?z_len ?z_list ?z_max ?z_range ?z_sorted ?z_str ?z_tuple ?z_zip
  (case x_Machine=>k_is)
  (case x1_Machine=>k_is)
  (case x2_Machine=>k_is)
  (case x3_Machine=>k_is)
  (case x4_Machine=>k_is)
  (case x5_Machine=>k_is)
  (case x6_Machine=>k_is)
  (case w_Machine_letters=>k_is)
  (case w_Machine_many=>k_is)
  (case w_Machine_ranks=>k_is)
  (case w_Machine_steps=>k_is)
  (case y3=>k_is)
  (case y4=>k_is)
  (case y_NoLoop=>k_is)
  (case y0_NoLoop=>k_exc)
  (case y1_NoLoop=>k_is)
  (case y6_NoLoop=>k_is)
  (case y7_NoLoop=>k_is)
  (case y2_NoLoop=>k_is)
  (case y5_NoLoop=>k_is)
  (case y_NoMachine=>k_is)
  (case y0_NoMachine=>k_exc)
  (case y1_NoMachine=>k_is)
  (case y6_NoMachine=>k_is)
  (case y7_NoMachine=>k_is)
  (case y2_NoMachine=>k_is)
  (case y5_NoMachine=>k_is)
  (case y_NoRoom=>k_is)
  (case y0_NoRoom=>k_exc)
  (case y1_NoRoom=>k_is)
  (case y6_NoRoom=>k_is)
  (case y7_NoRoom=>k_is)
  (case y2_NoRoom=>k_is)
  (case y5_NoRoom=>k_is)
  (case y_NoWord=>k_is)
  (case y0_NoWord=>k_exc)
  (case y1_NoWord=>k_is)
  (case y6_NoWord=>k_is)
  (case y7_NoWord=>k_is)
  (case y2_NoWord=>k_is)
  (case y5_NoWord=>k_is)
  (case a1=>k_is)
  (case l1=>k_is)
  (case c1=>k_is)
  (case k1=>k_is)
  (case a2=>k_is)
  (case l2=>k_is)
  (case c2=>k_is)
  (case k2=>k_is)
  (case a3=>k_is)
  (case l3=>k_is)
  (case c3=>k_is)
  (case k3=>k_is)
  (case a4=>k_is)
  (case l4=>k_is)
  (case c4=>k_is)
  (case k4=>k_is)
  (case a5=>k_is)
  (case l5=>k_is)
  (case c5=>k_is)
  (case k5=>k_is)
  (case a6=>k_is)
  (case l6=>k_is)
  (case c6=>k_is)
  (case k6=>k_is)
  (case a7=>k_is)
  (case l7=>k_is)
  (case c7=>k_is)
  (case k7=>k_is)
  (case a8=>k_is)
  (case l8=>k_is)
  (case c8=>k_is)
  (case k8=>k_is)
  (case a9=>k_is)
  (case l9=>k_is)
  (case c9=>k_is)
  (case k9=>k_is)
  (case a10=>k_is)
  (case l10=>k_is)
  (case c10=>k_is)
  (case k10=>k_is)
  (case a11=>k_is)
  (case l11=>k_is)
  (case c11=>k_is)
  (case k11=>k_is)
  (case a12=>k_is)
  (case l12=>k_is)
  (case c12=>k_is)
  (case k12=>k_is)
  (case a13=>k_is)
  (case l13=>k_is)
  (case c13=>k_is)
  (case k13=>k_is)
  (case a14=>k_is)
  (case l14=>k_is)
  (case c14=>k_is)
  (case k14=>k_is)
  (case a15=>k_is)
  (case l15=>k_is)
  (case c15=>k_is)
  (case k15=>k_is)
  (case a16=>k_is)
  (case l16=>k_is)
  (case c16=>k_is)
  (case k16=>k_is)
  (case a17=>k_is)
  (case l17=>k_is)
  (case c17=>k_is)
  (case k17=>k_is)
  (case a18=>k_is)
  (case l18=>k_is)
  (case c18=>k_is)
  (case k18=>k_is)
  (case a19=>k_is)
  (case l19=>k_is)
  (case c19=>k_is)
  (case k19=>k_is)
  (case a20=>k_is)
  (case l20=>k_is)
  (case c20=>k_is)
  (case k20=>k_is)
  (case a21=>k_is)
  (case l21=>k_is)
  (case c21=>k_is)
  (case k21=>k_is)
  (case a22=>k_is)
  (case e22=>k_is)
  (case l22=>k_is)
  (case c22=>k_is)
  (case k22=>k_is)
  (case a23=>k_is)
  (case e23=>k_is)
  (case l23=>k_is)
  (case c23=>k_is)
  (case k23=>k_is)
  (case a24=>k_is)
  (case e24=>k_is)
  (case l24=>k_is)
  (case t24=>k_is)
  (case c24=>k_is)
  (case k24=>k_is)
  (case a25=>k_is)
  (case e25=>k_is)
  (case l25=>k_is)
  (case t25=>k_is)
  (case c25=>k_is)
  (case k25=>k_is)
  (case a26=>k_is)
  (case l26=>k_is)
  (case c26=>k_is)
  (case k26=>k_is)
  (case a27=>k_is)
  (case l27=>k_is)
  (case c27=>k_is)
  (case k27=>k_is)
  (case a28=>k_is)
  (case l28=>k_is)
  (case c28=>k_is)
  (case k28=>k_is)
  (case a29=>k_is)
  (case l29=>k_is)
  (case c29=>k_is)
  (case k29=>k_is)
  (case a30=>k_is)
  (case l30=>k_is)
  (case c30=>k_is)
  (case k30=>k_is)
  (case a31=>k_is)
  (case l31=>k_is)
  (case c31=>k_is)
  (case k31=>k_is)
  (case a32=>k_is)
  (case l32=>k_is)
  (case c32=>k_is)
  (case k32=>k_is)
  (case a33=>k_is)
  (case l33=>k_is)
  (case c33=>k_is)
  (case k33=>k_is)
  (case a34=>k_is)
  (case l34=>k_is)
  (case c34=>k_is)
  (case k34=>k_is)
  (case a35=>k_is)
  (case l35=>k_is)
  (case c35=>k_is)
  (case k35=>k_is)
  (case a36=>k_is)
  (case l36=>k_is)
  (case c36=>k_is)
  (case k36=>k_is)
  (case a37=>k_is)
  (case l37=>k_is)
  (case c37=>k_is)
  (case k37=>k_is)
  (case a38=>k_is)
  (case e38=>k_is)
  (case l38=>k_is)
  (case c38=>k_is)
  (case k38=>k_is)
  (case a39=>k_is)
  (case l39=>k_is)
  (case c39=>k_is)
  (case k39=>k_is)
  (case v_LETTERS=>k_is)
  (case v_MOST_LETTERS=>k_is)
  (case v_MOST_ROOMS=>k_is)
  (case z_all=>k_is)
  (case z_bool=>k_is)
  (case z_int=>k_is)
  (case z_isinstance=>k_is)
  (case z_len=>k_is)
  (case z_list=>k_is)
  (case z_max=>k_is)
  (case z_range=>k_is)
  (case z_sorted=>k_is)
  (case z_str=>k_is)
  (case z_tuple=>k_is)
  (case z_zip=>k_is)
