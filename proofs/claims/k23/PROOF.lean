import PyProof.Rows.All
import Wide.All
import OpenK.AllK
import Wide.FinOn
import Lean
import PyProof.EqAt
import PyProof.EqKinds
import PyProof.TupleCall
import PyProof.P3Eq
import PyProof.NeKinds
import PyProof.NsDelKeeps
import PyProof.RulesAs
import PyProof.ExcAttrAll.ValueError
import PySem.Challenge.RW_looprank_k23_rounds_and_ways
set_option Elab.async false
set_option linter.all false
set_option maxRecDepth 100000
namespace L2
open PySem PySem.Spec PyProof.Rows
abbrev Key:=Sum Int Str
def aCi:Key->Value->Bool
 | .inl k,v=>Value.isInt k v
 | .inr x,v=>Value.isStrOf x v
def bA5(w:World):Key->Int
 | .inl k=>hashInt k
 | .inr x=>hashStr w x
theorem dZ:∀ {k:Key} {v:Value},aCi k v=true->(∃ i t,k=Sum.inl i/\v=Value.int i t)\/(∃ x t,k=Sum.inr x/\v=Value.str x t)
 | .inl i,v,h=>by
  obtain ⟨t,e⟩:=Value.isInt_shape (k:=i) (v:=v) h
  exact .inl ⟨i,t,rfl,e⟩
 | .inr x,v,h=>by
  obtain ⟨t,e⟩:=Value.isStrOf_shape (x:=x) (v:=v) h
  exact .inr ⟨x,t,rfl,e⟩
theorem aJw(i:Int)(t:Tok):aCi (.inl i) (.int i t)=true:=by simp [aCi,Value.isInt]
theorem aJx(x:Str)(t:Tok):aCi (.inr x) (.str x t)=true:=by simp [aCi,Value.isStrOf]
theorem aLm(a b:Int):decide ((Sum.inl a:Key)=Sum.inl b)=(a==b):=by
 by_cases e:a=b
 ·subst e;simp
 ·have h:¬ (Sum.inl a:Key)=Sum.inl b:=fun q=>e (Sum.inl.inj q)
  rw [decide_eq_false h]
  exact (beq_eq_false_iff_ne.mpr e).symm
theorem aLn(a b:Str):decide ((Sum.inr a:Key)=Sum.inr b)=decide (a=b):=by
 by_cases e:a=b
 ·subst e;simp
 ·have h:¬ (Sum.inr a:Key)=Sum.inr b:=fun q=>e (Sum.inr.inj q)
  rw [decide_eq_false h,decide_eq_false e]
theorem aLo(a:Int)(b:Str):decide ((Sum.inl a:Key)=Sum.inr b)=false:=decide_eq_false (fun q=>nomatch q)
theorem aLp(a:Str)(b:Int):decide ((Sum.inr a:Key)=Sum.inl b)=false:=decide_eq_false (fun q=>nomatch q)
def dD(prog:Program)(w:World):PySem.KeyKind prog w Key where
 is:=aCi
 hash:=bA5 w
 inj:=fun v a b ha hb=>by
  rcases dZ ha with ⟨i,t,rfl,rfl⟩ | ⟨x,t,rfl,rfl⟩
  ·rcases dZ hb with ⟨j,u,rfl,e⟩ | ⟨y,u,rfl,e⟩
   ·injection e with e1 _;rw [e1]
   ·exact nomatch e
  ·rcases dZ hb with ⟨j,u,rfl,e⟩ | ⟨y,u,rfl,e⟩
   ·exact nomatch e
   ·injection e with e1 _;rw [e1]
 byValue:=fun k v h=>by
  rcases dZ h with ⟨i,t,rfl,rfl⟩ | ⟨x,t,rfl,rfl⟩ <;> rfl
 pyHash:=fun hv h=>by
  rcases dZ hv with ⟨i,t,rfl,rfl⟩ | ⟨x,t,rfl,rfl⟩
  ·exact wpAny_pyHash_int h
  ·exact wpAny_pyHash_str h
 eqBool:=fun hu hv h=>by
  rcases dZ hu with ⟨i,t,rfl,rfl⟩ | ⟨x,t,rfl,rfl⟩
  ·rcases dZ hv with ⟨j,u,rfl,rfl⟩ | ⟨y,u,rfl,rfl⟩
   ·rw [aLm] at h;exact wpAny_eqBool_int h
   ·rw [aLo] at h;exact SeqAt.EqAt.int_str i t y u _ _ _ _ h
  ·rcases dZ hv with ⟨j,u,rfl,rfl⟩ | ⟨y,u,rfl,rfl⟩
   ·rw [aLp] at h;exact SeqAt.EqAt.str_int x t j u _ _ _ _ h
   ·rw [aLn] at h;exact wpAny_eqBool_str h
 «strs» := fun k x t v h=>by
  rcases dZ h with ⟨i,u,rfl,e⟩ | ⟨y,u,rfl,e⟩
  ·exact nomatch e
  ·injection e with e1 _
   subst e1
   cases v<;>rfl
theorem aEx(prog:Program)(w:World)(i:Int)(t:Tok):(dD prog w).is (.inl i) (.int i t)=true:=aJw i t
theorem aEy(prog:Program)(w:World)(x:Str)(t:Tok):(dD prog w).is (.inr x) (.str x t)=true:=aJx x t
end L2
namespace L2
open PySem PySem.Spec PyProof.Rows
inductive V where
 | non | bl (b:Bool) | int (i:Int) | str (x:Str) | byt (b:Array UInt8) | flt (b:UInt64) | ref (a:Addr) | ty (n:String)
 deriving DecidableEq
def RelV:V->Value->Prop
 | .non,u=>u=Value.none
 | .bl b,u=>u=Value.bool b
 | .int i,u=>∃ t,u=Value.int i t
 | .str x,u=>∃ t,u=Value.str x t
 | .byt b,u=>∃ t,u=Value.bytes b t
 | .flt b,u=>∃ t,u=Value.float b t
 | .ref a,u=>u=Value.ref a
 | .ty n,u=>u=Value.type n
abbrev Vals:List V->List Value->Prop:=Paired RelV
theorem Vals.length{xs:List V}{us:List Value}(r:Vals xs us):xs.length=us.length:=Paired.length r
theorem Vals.get:∀ {xs:List V} {us:List Value} {i:Nat} {x:V},Vals xs us->xs[i]?=some x->∃ u,us[i]?=some u/\RelV x u
 | _,_,_,_,.nil,e=>by simp at e
 | _,_,0,_,.cons r _,e=>by simp at e;subst e;exact ⟨_,rfl,r⟩
 | _,_,i+1,x,.cons _ t,e=>by
  obtain ⟨u,h1,h2⟩:=Vals.get (i:=i) (x:=x) t (by simpa using e)
  exact ⟨u,by simpa using h1,h2⟩
theorem Vals.set{x:V}{u:Value}(r:RelV x u):∀ {xs:List V} {us:List Value} (i:Nat),Vals xs us->Vals (xs.set i x) (us.set i u)
 | _,_,_,.nil => .nil
 | _,_,0,.cons _ t => .cons r t
 | _,_,i+1,.cons q t => .cons q (Vals.set r i t)
theorem Vals.append:∀ {xs ys:List V} {us ws:List Value},Vals xs us->Vals ys ws->Vals (xs++ys) (us++ws)
 | _,_,_,_,.nil,s=>s
 | _,_,_,_,.cons r t,s => .cons r (Vals.append t s)
theorem Vals.take:∀ {xs:List V} {us:List Value} (n:Nat),Vals xs us->Vals (xs.take n) (us.take n)
 | _,_,0,_ => .nil
 | _,_,_+1,.nil => .nil
 | _,_,n+1,.cons r t => .cons r (Vals.take n t)
theorem Vals.drop:∀ {xs:List V} {us:List Value} (n:Nat),Vals xs us->Vals (xs.drop n) (us.drop n)
 | _,_,0,r=>r
 | _,_,_+1,.nil => .nil
 | _,_,n+1,.cons _ t=>Vals.drop n t
def pU:Option V->Option Value->Prop
 | some v,some u=>RelV v u
 | none,none=>True
 | _,_=>False
def KV{κ:Type}:List (κ × V)->List (κ × Value)->Prop:=Paired fun (p:κ × V) (q:κ × Value)=>p.1=q.1/\RelV p.2 q.2
def kV:Key->V
 | .inl i => .int i
 | .inr x => .str x
inductive HO where
 | lst (xs:List V)
 | tup (xs:List V)
 | dK (kvs:List (Key × V)) | dT (kvs:List (List Key × V))
 | set (S:Int->Bool) (n:Nat)
 | ins (C dx:Addr) (fs:List (Str × V))
 | own (x:Addr)
 | xd (fs:List (Str × V))
 | met (f x:Addr)
 | rng (lo hi:Int)
 | frz (o:Obj) (u:HO)
 | tbl (ps:Array Value)
 | ext (φ:Heap->Prop)
abbrev Hp:=Addr->Option HO
def upd(H:Hp)(a:Addr)(o:HO):Hp:=fun b=>if b=a then some o else H b
theorem cL{H:Hp}{a:Addr}{o:HO}:upd H a o a=some o:=by unfold upd;rw [if_pos rfl]
theorem bT{H:Hp}{a b:Addr}{o:HO}(h:b≠a):upd H a o b=H b:=by unfold upd;rw [if_neg h]
theorem aWi{H:Hp}{a b:Addr}{o u:HO}(h:H a=some o)(h':H b=some u)(d:o≠u):a≠b:=by
 intro e;subst e;rw [h] at h';exact d (Option.some.inj h')
theorem bK{H:Hp}{a b:Addr}{o:HO}(h:H a=some o)(h':H b=none):a≠b:=by
 intro e;subst e;rw [h] at h';cases h'
section
variable(P:Program)(w:World)
def iD(H:Hp)(h:Heap)(a:Addr):HO->Prop
 | .lst xs=>xs.length<=sizeLine/\∃ (its:List Value) (n:Nat),Vals xs its/\h.get? a=some { cls := .type "list", data := .seq its.toArray n }
 | .tup xs=>xs.length<=sizeLine/\∃ its:List Value,Vals xs its/\IsTup h a its.toArray
 | .dK kvs=>kvs.length<=sizeLine/\(a==sysModules)=false/\∃ vs,KV kvs vs/\h.DictOf (dD P w) a vs
 | .dT kvs=>kvs.length<=sizeLine/\(a==sysModules)=false/\∃ xs:List (List Key × Addr × Value),
   Paired (fun (p:List Key × V) (q:List Key × Addr × Value)=>p.1=q.1/\H q.2.1=some (.tup (p.1.map kV))/\RelV p.2 q.2.2) kvs xs /\
   ∃ o es ep,h.get? a=some o/\o.ExactDict/\o.data = .dict es ep/\es.toList=xs.map (entryOfKey (tupleKind (dD P w)))/\(xs.map (·.1)).Nodup
 | .set S n=>h.SetOf (intKind P w) a S n
 | .ins C dx fs=>H dx=some (.own a)/\fs.length<=1000/\dx≠a/\h.get? a=some (PySem.W.instObj C dx) /\
   ∃ mA,h.Ns1 dx mA/\(∀ f,pU (fs.lookup f) (mA f))/\PySem.Within mA (fs.map (·.1))
 | .own _=>∃ o,h.get? a=some o
 | .xd fs=>∃ mA,h.Ns1 a mA/\∀ f,pU (fs.lookup f) (mA f)
 | .rng lo hi=>∃ t u v,h.get? a=some { cls := .type "range", data := .fields #[.int lo t,.int hi u,.int 1 v] }
 | .frz o u=>h.get? a=some o/\iD H h a u
 | .tbl ps=>h.get? a=some { cls := .none,data := .fields ps }
 | .met f x=>h.get? a=some (PySem.W.methodObj (.ref f) (.ref x))
 | .ext φ=>φ h/\(∃ o,h.get? a=some o)/\∀ h1 h2:Heap,φ h1->(∀ o,h1.get? a=some o->h2.get? a=some o)->φ h2
def HOk(H:Hp)(h:Heap):Prop:=∀ a o,H a=some o->iD P w H h a o
end
section
variable{P:Program}{w:World}{H H':Hp}{h h':Heap}{a:Addr}{o:HO}
theorem iD.lt(x:iD P w H h a o):a < h.objs.size:=by
 cases o with
 | lst xs=>obtain ⟨_,_,_,_,e⟩:=x;exact Heap.lt_size e
 | tup xs=>obtain ⟨_,_,_,p⟩:=x;exact p.lt
 | dK kvs=>obtain ⟨_,_,_,_,o,_,_,e,_⟩:=x;exact Heap.lt_size e
 | dT kvs=>obtain ⟨_,_,_,_,o,_,_,e,_⟩:=x;exact Heap.lt_size e
 | set S n=>obtain ⟨o,_,_,_,e,_⟩:=x;exact Heap.lt_size e
 | ins C dx fs=>obtain ⟨_,_,_,e,_⟩:=x;exact Heap.lt_size e
 | own y=>obtain ⟨_,e⟩:=x;exact Heap.lt_size e
 | xd fs=>obtain ⟨_,⟨_,_,_,e,_⟩,_⟩:=x;exact Heap.lt_size e
 | rng lo hi=>obtain ⟨_,_,_,e⟩:=x;exact Heap.lt_size e
 | frz ob u=>obtain ⟨e,_⟩:=x;exact Heap.lt_size e
 | tbl ps=>exact Heap.lt_size (show h.get? a=some _ from x)
 | met f y=>exact Heap.lt_size (show h.get? a=some _ from x)
 | ext φ=>obtain ⟨_,⟨_,e⟩,_⟩:=x;exact Heap.lt_size e
theorem Paired.mapP{α β:Type}{F G:α->β->Prop}:∀ {l₁:List α} {l₂:List β},Paired F l₁ l₂->(∀ a b,F a b->G a b)->Paired G l₁ l₂
 | _,_,.nil,_ => .nil
 | _,_,.cons r t,f => .cons (f _ _ r) (Paired.mapP t f)
theorem iD.stay(x:iD P w H h a o)(k:∀ b u,(b=a\/H b=some (.own a))->h.get? b=some u->h'.get? b=some u)
  (ho:∀ b,H b=some (.own a)->H' b=some (.own a)) (ht:∀ b xs,H b=some (.tup xs)->H' b=some (.tup xs)):iD P w H' h' a o:=by
 induction o with
 | lst xs=>obtain ⟨z,its,n,r,e⟩:=x;exact ⟨z,its,n,r,k _ _ (.inl rfl) e⟩
 | tup xs=>obtain ⟨z,its,r,ob,e,c⟩:=x;exact ⟨z,its,r,ob,k _ _ (.inl rfl) e,c⟩
 | dK kvs=>obtain ⟨z,y,vs,r,ob,es,ep,e,c⟩:=x;exact ⟨z,y,vs,r,ob,es,ep,k _ _ (.inl rfl) e,c⟩
 | dT kvs =>
  obtain ⟨z,y,xs,r,ob,es,ep,e,c⟩:=x
  exact ⟨z,y,xs,Paired.mapP r fun p q z=>⟨z.1,ht _ _ z.2.1,z.2.2⟩,ob,es,ep,k _ _ (.inl rfl) e,c⟩
 | set S n=>obtain ⟨ob,es,ep,t,e,c⟩:=x;exact ⟨ob,es,ep,t,k _ _ (.inl rfl) e,c⟩
 | ins C dx fs =>
  obtain ⟨d,z,ne,e,mA,⟨od,es,ep,e2,c⟩,r⟩:=x
  exact ⟨ho _ d,z,ne,k _ _ (.inl rfl) e,mA,⟨od,es,ep,k _ _ (.inr d) e2,c⟩,r⟩
 | own y=>obtain ⟨ob,e⟩:=x;exact ⟨ob,k _ _ (.inl rfl) e⟩
 | xd fs=>obtain ⟨mA,⟨od,es,ep,e,c⟩,r⟩:=x;exact ⟨mA,⟨od,es,ep,k _ _ (.inl rfl) e,c⟩,r⟩
 | rng lo hi=>obtain ⟨t,u,v,e⟩:=x;exact ⟨t,u,v,k _ _ (.inl rfl) e⟩
 | frz ob u ih=>obtain ⟨e,q⟩:=x;exact ⟨k _ _ (.inl rfl) e,ih q⟩
 | tbl ps =>
  have e:h.get? a=some { cls := .none,data := .fields ps }:=x
  show h'.get? a=some { cls := .none,data := .fields ps }
  exact k a _ (.inl rfl) e
 | met f y =>
  have e:h.get? a=some (PySem.W.methodObj (.ref f) (.ref y)):=x
  show h'.get? a=some (PySem.W.methodObj (.ref f) (.ref y))
  exact k a _ (.inl rfl) e
 | ext φ=>obtain ⟨p,⟨o,e⟩,st⟩:=x;exact ⟨st _ _ p fun o q=>k _ _ (.inl rfl) q,⟨o,k _ _ (.inl rfl) e⟩,st⟩
theorem HOk.lt(x:HOk P w H h)(e:H a=some o):a < h.objs.size:=(x a o e).lt
theorem HOk.fresh(x:HOk P w H h)(e:h.objs.size<=a):H a=none:=by
 cases q:H a with
 | none=>rfl
 | some u=>exact absurd (Nat.lt_of_lt_of_le (x.lt q) e) (Nat.lt_irrefl _)
theorem HOk.kept(x:HOk P w H h)(k:∀ b u,h.get? b=some u->h'.get? b=some u):HOk P w H h':=fun a o e =>
 (x a o e).stay (fun b u _ q=>k b u q) (fun _ q=>q) fun _ _ q=>q
theorem HOk.laid(x:HOk P w H h)(k:∀ b u,h.get? b=some u->h'.get? b=some u)(hp:h.objs.size<=a)(new:iD P w (upd H a o) h' a o):HOk P w (upd H a o) h':=fun b u e=>by
 have hn:=x.fresh hp
 by_cases hb:b=a
 ·subst hb;rw [cL] at e;cases e;exact new
 ·rw [bT hb] at e
  exact (x b u e).stay (fun c v _ q=>k c v q) (fun c q=>by rw [bT (bK q hn)];exact q) fun c xs q=>by rw [bT (bK q hn)];exact q
end
def Rd(H:Hp)(a:Addr)(u:HO):Prop:=H a=some u\/∃ o,H a=some (.frz o u)
theorem Rd.ok{P:Program}{w:World}{H:Hp}{h:Heap}{a:Addr}{u:HO}(r:Rd H a u)(x:HOk P w H h):iD P w H h a u:=by
 rcases r with r | ⟨o,r⟩
 ·exact x a u r
 ·obtain ⟨_,q⟩:=x a _ r
  exact q
def Mut:Option HO->Prop
 | some (.lst _)=>True
 | some (.dK _)=>True
 | some (.dT _)=>True
 | some (.set _ _)=>True
 | some (.ins _ _ _)=>True
 | some (.ext _)=>True
 | _=>False
section
variable{P:Program}{w:World}{H:Hp}{h h':Heap}{x e:Addr}{o':HO}
theorem HOk.write(ok:HOk P w H h)(mu:Mut (H x))(he:e=x\/H e=some (.own x))(k:∀ b u,b≠e->h.get? b=some u->h'.get? b=some u)(heo:∃ u,h'.get? e=some u)
  (new:iD P w (upd H x o') h' x o'):HOk P w (upd H x o') h':=fun b u q=>by
 have nown:∀ c y,H c=some (.own y)->c≠x:=fun c y r z=>by subst z;rw [r] at mu;exact mu
 have ntup:∀ c xs,H c=some (.tup xs)->c≠x:=fun c xs r z=>by subst z;rw [r] at mu;exact mu
 by_cases hb:b=x
 ·subst hb;rw [cL] at q;cases q;exact new
 ·rw [bT hb] at q
  by_cases hbe:b=e
  ·have q':H b=some (.own x):=by
    rcases he with z | z
    ·exact absurd (hbe.trans z) hb
    ·rw [hbe];exact z
   rw [q] at q';cases q'
   obtain ⟨v,hv⟩:=heo
   exact ⟨v,by rw [hbe];exact hv⟩
  ·refine (ok b u q).stay (fun c v hc r=>k c v ?_ r) (fun c r=>by rw [bT (nown c b r)];exact r) fun c xs r=>by rw [bT (ntup c xs r)];exact r
   rcases hc with rfl | hc
   ·exact hbe
   ·rintro rfl
    rcases he with z | z
    ·exact nown c b hc z
    ·rw [hc] at z;cases z;exact hb rfl
end
structure Un(fs ex:List Addr)(H H':Hp)(h h':Heap):Prop where
 keep:∀ b o,h.get? b=some o->H b=none->b ∉ fs->b ∉ ex->h'.get? b=some o
 slot:∀ b o,h.get? b=some o->H b=none->b∈fs->b ∉ ex->∃ sl,h'.get? b=some { o with slots:=sl }
 free:∀ b o,h.get? b=some o->H b=none->b ∉ ex->H' b=none
 there:∀ b o,h.get? b=some o->b ∉ ex->∃ o',h'.get? b=some o'
 tups:∀ b xs,H b=some (.tup xs)->H' b=some (.tup xs)
 frzs:∀ b o u,H b=some (.frz o u)->H' b=some (.frz o u)
 tbls:∀ b ps,H b=some (.tbl ps)->∃ more,H' b=some (.tbl (ps++more))
section
variable{fs fs' ex ex':List Addr}{H H1 H2:Hp}{h h1 h2 h':Heap}{a x e:Addr}{o:HO}
theorem Un.any(u:Un fs ex H H1 h h1){b:Addr}{ob:Obj}(q:h.get? b=some ob)(n:H b=none)(hx:b ∉ ex):∃ sl,h1.get? b=some { ob with slots:=sl }:=by
 by_cases hb:b∈fs
 ·exact u.slot b ob q n hb hx
 ·exact ⟨ob.slots,u.keep b ob q n hb hx⟩
theorem Un.kept(k:∀ b u,h.get? b=some u->h'.get? b=some u):Un fs ex H H h h' :=
 ⟨fun b ob q _ _ _=>k b ob q,fun b ob q _ _ _=>⟨ob.slots,k b ob q⟩,fun _ _ _ n _=>n,fun b ob q _=>⟨ob,k b ob q⟩,fun _ _ q=>q,fun _ _ _ q=>q,fun _ ps q=>⟨#[],by rw [q];simp⟩⟩
theorem Un.refl:Un fs ex H H h h:=Un.kept fun _ _ q=>q
theorem Un.laid(k:∀ b u,h.get? b=some u->h'.get? b=some u)(hp:h.objs.size<=a)(hn:H a=none):Un fs ex H (upd H a o) h h' where
 keep:=fun b u q _ _ _=>k b u q
 slot:=fun b u q _ _ _=>⟨u.slots,k b u q⟩
 free:=fun b u q n _=>by rw [bT (Nat.ne_of_lt (Nat.lt_of_lt_of_le (Heap.lt_size q) hp))];exact n
 there:=fun b u q _=>⟨u,k b u q⟩
 tups:=fun b xs q=>by rw [bT (bK q hn)];exact q
 frzs:=fun b u xs q=>by rw [bT (bK q hn)];exact q
 tbls:=fun b ps q=>⟨#[],by rw [bT (bK q hn),q];simp⟩
theorem Un.write(mu:Mut (H x))(he:e=x\/H e=some (.own x))(k:∀ b u,b≠e->h.get? b=some u->h'.get? b=some u)(heo:∃ u,h'.get? e=some u):Un fs ex H (upd H x o) h h':=by
 have hx:∀ b,H b=none->b≠x:=fun b n z=>by subst z;rw [n] at mu;exact mu
 have hb:∀ b,H b=none->b≠e:=fun b n z=>by
  subst z
  rcases he with r | r
  ·exact hx b n r
  ·rw [n] at r;cases r
 have hm:∀ b u,H b=some u->¬ Mut (some u)->b≠x:=fun b u q nm z=>by subst z;rw [q] at mu;exact nm mu
 refine ⟨fun b u q n _ _=>k b u (hb b n) q,fun b u q n _ _=>⟨u.slots,k b u (hb b n) q⟩,fun b u q n _=>by rw [bT (hx b n)];exact n,fun b u q _=>?_,
  fun b xs q=>by rw [bT (hm b _ q fun z=>z)];exact q,fun b u xs q=>by rw [bT (hm b _ q fun z=>z)];exact q,fun b ps q=>⟨#[],by rw [bT (hm b _ q fun z=>z),q];simp⟩⟩
 by_cases hbe:b=e
 ·subst hbe;exact heo
 ·exact ⟨u,k b u hbe q⟩
end
def trk(h:Heap)(H:Hp):List Addr:=(List.range h.objs.size).filter fun a=>(H a).isSome
def aDi(h:Heap)(H:Hp):Heap:=PySem.W.hideAll h (trk h H)
theorem aJy(h:Heap)(H:Hp):(aDi h H).objs.size=h.objs.size:=PySem.W.hideAll_size _ _
theorem aLq{h:Heap}{H:Hp}{b:Addr}{o:Obj}(e:h.get? b=some o)(n:H b=none):(aDi h H).get? b=some o :=
 PySem.W.hideAll_get _ e fun hm=>by
  have q:(H b).isSome=true:=(List.mem_filter.mp hm).2
  rw [n] at q;simp at q
theorem aP2{h:Heap}{H:Hp}{b:Addr}{o:Obj}(e:(aDi h H).get? b=some o):h.get? b=some o/\H b=none:=by
 have e':h.get? b=some o:=PySem.W.of_hideAll (trk h H) e
 refine ⟨e',?_⟩
 cases q:H b with
 | none=>rfl
 | some x =>
  have hm:b∈trk h H:=List.mem_filter.mpr ⟨List.mem_range.mpr (Heap.lt_size e'),by simp [q]⟩
  have z:(aDi h H).get? b=none:=PySem.W.hideAll_none (trk h H) hm
  rw [z] at e;cases e
def aP3(g h:Heap)(L:Addr):List (Addr × Obj):=(List.range h.objs.size).filterMap fun a=>if a=L\/(g.get? a).isSome=true then none else (h.get? a).map fun o=>(a,o)
def rest(g h:Heap)(L d:Addr):List (Addr × Obj):=(aP3 g h L).filter fun p=>decide (p.1≠d)
end L2
namespace L2
open PySem PySem.Spec PyProof.Rows
structure Mod(K:PySem.W.Frag)(mg:Str->Option Value)(base:Heap):Prop where
 kin:K.In base
 glob:base.Ns mainGlobals mg
 blt:∃ mb,base.Ns builtinsNs mb/\∀ x:Str,x ≠ "__name__" -> mb x=bootBuiltins x
 nolimit:base.NoLimit
structure Cx where
 prog:Program
 w:World
 K:PySem.W.Frag
 mg:Str->Option Value
 base:Heap
 A:Around
 N:List Str
 s₀:Shared
 H₀:Hp
 env:Env
 outer:List Env
 stack:List Env
 ex:List Addr
 fn:Str->Bool
 calm:Bool
 pn:List (Addr × Obj)
 xe:Value->Shared->Prop
def frs(l:List Env):List Addr:=l.filterMap (·.frame)
abbrev Cx.fs(X:Cx):List Addr:=frs X.outer
def Vis(sc:Scope)(x:Str):Prop:=sc.names.lookup x=some .local\/sc.names.lookup x=some .cell\/sc.names.lookup x=some .free
def Loc(sc:Scope)(x:Str):Prop:=sc.names.lookup x=some .local\/sc.names.lookup x=some .cell
def Look(env:Env)(h:Heap)(m:Str->Option Value)(x:Str)(u:Value):Prop :=
 (env.kindOf x=some .local/\m x=some u)\/((env.kindOf x=some .cell\/env.kindOf x=some .free)/\∃ c,env.cells.lookup x=some c/\h.IsCell c (some u))
structure Cx.Ok(X:Cx):Prop where
 mod:Mod X.K X.mg X.base
 kind:X.env.scope.kind = .function
 glob:X.env.globals=mainGlobals
 blt:X.env.builtins=builtinsNs
 above:X.s₀.heap.objs.size<=X.env.locals
 inj:∀ x y c,X.env.cells.lookup x=some c->X.env.cells.lookup y=some c->x=y
 has:∀ x,(X.env.kindOf x=some .cell\/X.env.kindOf x=some .free)->∃ c,X.env.cells.lookup x=some c
 cab:∀ x c,X.fn x=true->X.env.cells.lookup x=some c->X.s₀.heap.objs.size<=c
 hd:X.calm=true->X.A.handled=none
 frames:X.A.frames=some X.stack
 stk:X.stack=X.outer\/(X.stack=X.env :: X.outer/\X.env.frame=some X.env.locals)
 exf:∀ b∈X.ex,b≠X.env.locals/\∀ x c,X.env.cells.lookup x=some c->c≠b
 bs:∀ b o,X.base.get? b=some o->X.s₀.heap.get? b=some o/\X.H₀ b=none
 bsz:X.base.objs.size<=X.s₀.heap.objs.size
 noex:∀ b o,X.base.get? b=some o->b ∉ X.ex
 exfs:∀ b∈X.ex,b ∉ X.fs
 funs:X.s₀.heap.FunFrames X.base X.outer
 frf:∀ b∈X.fs,X.H₀ b=none
structure Inv(X:Cx)(pins:List (Addr × Obj))(σ:List (Option V))(H:Hp)(s:Shared):Prop where
 ok:X.Ok
 os:s.os=X.s₀.os
 bare:AllBare s.gens
 base:Un X.fs X.ex X.H₀ H X.s₀.heap s.heap
 loc:∃ m,s.heap.Ns X.env.locals m/\∀ (i:Nat) (x:Str) (v:V),X.N[i]?=some x->σ[i]?=some (some v)->Vis X.env.scope x->∃ u,RelV v u/\Look X.env s.heap m x u
 cell:∀ x c,X.env.cells.lookup x=some c->∃ v,s.heap.IsCell c v
 free:H X.env.locals=none
 freeC:∀ x c,X.env.cells.lookup x=some c->H c=none
 pin:∀ p∈X.pn++pins,s.heap.get? p.1=some p.2/\H p.1=none/\p.1≠X.env.locals/\p.1 ∉ X.fs/\∀ v,p.2.data ≠ .cell v
 hok:HOk X.prog X.w H s.heap
 len:σ.length=X.N.length
section
variable{X:Cx}{pins:List (Addr × Obj)}{σ:List (Option V)}{H H':Hp}{s:Shared}{h':Heap}
theorem Cx.Ok.nofr(ok:X.Ok){b:Addr}{o:Obj}(e:X.base.get? b=some o):b ∉ X.fs:=fun hb=>by
 have:=(ok.funs.mem hb).1
 rw [e] at this;cases this
theorem Inv.bs(I:Inv X pins σ H s):∀ b o,X.base.get? b=some o->s.heap.get? b=some o/\H b=none:=fun b o e =>
 ⟨I.base.keep b o (I.ok.bs b o e).1 (I.ok.bs b o e).2 (I.ok.nofr e) (I.ok.noex b o e),I.base.free b o (I.ok.bs b o e).1 (I.ok.bs b o e).2 (I.ok.noex b o e)⟩
theorem Inv.bk(I:Inv X pins σ H s):∀ b o,X.base.get? b=some o->s.heap.get? b=some o:=fun b o e=>(I.bs b o e).1
theorem Inv.mod(I:Inv X pins σ H s):Mod X.K X.mg X.base:=I.ok.mod
theorem Inv.kIn(I:Inv X pins σ H s):X.K.In s.heap:=I.ok.mod.kin.keeps I.bk
theorem Inv.lt(I:Inv X pins σ H s):X.env.locals < s.heap.objs.size:=let ⟨_,hn,_⟩:=I.loc;hn.lt
theorem Inv.sz(I:Inv X pins σ H s):X.s₀.heap.objs.size<=s.heap.objs.size:=Nat.le_trans I.ok.above (Nat.le_of_lt I.lt)
theorem Inv.nofs(I:Inv X pins σ H s){a:Addr}(h:s.heap.objs.size<=a):a ∉ X.fs:=fun hb=>by
 obtain ⟨_,o,ho,_⟩:=I.ok.funs.mem hb
 exact absurd (Nat.lt_of_lt_of_le (Heap.lt_size ho) (Nat.le_trans I.sz h)) (Nat.lt_irrefl _)
theorem Inv.cne(I:Inv X pins σ H s):∀ x c,X.env.cells.lookup x=some c->c≠X.env.locals:=fun x c e z=>by
 obtain ⟨v,o,ho,hd⟩:=I.cell x c e
 obtain ⟨m,⟨o',es,ep,ho',hd',_⟩,_⟩:=I.loc
 rw [z,ho'] at ho;cases ho;rw [hd'] at hd;cases hd
theorem Inv.funs(I:Inv X pins σ H s):s.heap.FunFrames X.base X.outer:=by
 have all:∀ (l:List Env),(∀ b∈frs l,b∈X.fs)->X.s₀.heap.FunFrames X.base l->s.heap.FunFrames X.base l:=by
  intro l
  induction l with
  | nil=>intro _ _;trivial
  | cons env r ih =>
   intro hs hl
   obtain ⟨hk,⟨L,o,hf,hn,ho,hd⟩,hr⟩:=hl
   have hL:L∈X.fs:=hs L (by unfold frs;rw [List.filterMap_cons,hf];exact List.mem_cons_self)
   obtain ⟨sl,e⟩:=I.base.slot L o ho (I.ok.frf L hL) hL fun z=>I.ok.exfs L z hL
   exact ⟨hk,⟨L,_,hf,hn,e,hd⟩,ih (fun b hb=>hs b (by unfold frs;rw [List.filterMap_cons,hf];exact List.mem_cons_of_mem _ hb)) hr⟩
 exact all X.outer (fun _ hb=>hb) I.ok.funs
theorem Inv.stack(I:Inv X pins σ H s):s.heap.FunFrames X.base X.stack:=by
 rcases I.ok.stk with e | ⟨e,hf⟩
 ·rw [e];exact I.funs
 ·rw [e]
  obtain ⟨m,hn,_⟩:=I.loc
  refine .cons (by rw [I.ok.kind];decide) hf hn ?_ I.funs
  exact Heap.get?_none_of_le (Nat.le_trans I.ok.bsz I.ok.above)
theorem Inv.stkSub(I:Inv X pins σ H s):∀ b∈frs X.stack,b∈X.env.locals :: X.fs:=fun b hb=>by
 rcases I.ok.stk with e | ⟨e,hf⟩
 ·rw [e] at hb;exact List.mem_cons_of_mem _ hb
 ·rw [e] at hb
  unfold frs at hb
  rw [List.filterMap_cons,hf] at hb
  exact hb
theorem Inv.stkFree(I:Inv X pins σ H s):∀ b∈frs X.stack,H b=none:=fun b hb=>by
 rcases List.mem_cons.mp (I.stkSub b hb) with e | hb
 ·rw [e];exact I.free
 ·obtain ⟨_,o,ho,_⟩:=I.ok.funs.mem hb
  exact I.base.free b o ho (I.ok.frf b hb) fun z=>I.ok.exfs b z hb
theorem Inv.step{g':Array GenState}{t':Nat}{d':Drawn}{ch:List Addr}(I:Inv X pins σ H s)
  (hch:∀ b∈ch,(b∈X.ex\/X.s₀.heap.objs.size<=b)/\b≠X.env.locals/\(∀ x c,X.env.cells.lookup x=some c->c≠b)/\∀ p∈X.pn++pins,p.1≠b)
  (keep:∀ b o,b≠X.env.locals->b ∉ X.fs->b ∉ ch->s.heap.get? b=some o->H b=none->h'.get? b=some o)
  (slot:∀ b o,b≠X.env.locals->b∈X.fs->b ∉ ch->s.heap.get? b=some o->H b=none->∃ sl,h'.get? b=some { o with slots:=sl }) (free:∀ b o,b ∉ ch->s.heap.get? b=some o->H b=none->H' b=none)
  (there:∀ b o,b ∉ ch->s.heap.get? b=some o->∃ o',h'.get? b=some o')
  (tups:∀ b xs,H b=some (.tup xs)->H' b=some (.tup xs)) (frzs:∀ b o u,H b=some (.frz o u)->H' b=some (.frz o u)) (tbls:∀ b ps,H b=some (.tbl ps)->∃ more,H' b=some (.tbl (ps++more)))
  (ns:∀ m,s.heap.Ns X.env.locals m->h'.Ns X.env.locals m) (hok:HOk X.prog X.w H' h') (hg:AllBare g') :
  Inv X pins σ H' { s with heap:=h',gens:=g',drawn:=d',toks:=t' }:=by
 have neL:∀ b o,X.s₀.heap.get? b=some o->b≠X.env.locals:=fun b o e=>Nat.ne_of_lt (Nat.lt_of_lt_of_le (Heap.lt_size e) I.ok.above)
 have neC:∀ b o,X.s₀.heap.get? b=some o->b ∉ X.ex->b ∉ ch:=fun b o e hx hb=>by
  rcases (hch b hb).1 with z | z
  ·exact hx z
  ·exact absurd (Nat.lt_of_lt_of_le (Heap.lt_size e) z) (Nat.lt_irrefl _)
 have cellK:∀ x c,X.env.cells.lookup x=some c->∀ v,s.heap.IsCell c v->h'.IsCell c v:=fun x c e v ⟨o,ho,hd⟩=>by
  have nch:c ∉ ch:=fun z=>(hch c z).2.2.1 x c e rfl
  by_cases hc:c∈X.fs
  ·obtain ⟨sl,q⟩:=slot c o (I.cne x c e) hc nch ho (I.freeC x c e)
   exact ⟨_,q,hd⟩
  ·exact ⟨o,keep c o (I.cne x c e) hc nch ho (I.freeC x c e),hd⟩
 refine ⟨I.ok,I.os,hg,⟨fun b o e n hb hx=>?_,fun b o e n hb hx=>?_,fun b o e n hx=>?_,fun b o e hx=>?_,fun b xs e=>tups b xs (I.base.tups b xs e),fun b o xs e=>frzs b o xs (I.base.frzs b o xs e),fun b ps e=>?_⟩,?_,fun x c e=>?_,?_,fun x c e=>?_,fun p hp=>?_,hok,I.len⟩
 ·exact keep b o (neL b o e) hb (neC b o e hx) (I.base.keep b o e n hb hx) (I.base.free b o e n hx)
 ·obtain ⟨sl,e1⟩:=I.base.slot b o e n hb hx
  obtain ⟨sl',e2⟩:=slot b _ (neL b o e) hb (neC b o e hx) e1 (I.base.free b o e n hx)
  exact ⟨sl',e2⟩
 ·obtain ⟨o',e1⟩:=I.base.there b o e hx
  exact free b o' (neC b o e hx) e1 (I.base.free b o e n hx)
 ·obtain ⟨o',e1⟩:=I.base.there b o e hx
  exact there b o' (neC b o e hx) e1
 ·obtain ⟨m1,e1⟩:=I.base.tbls b ps e
  obtain ⟨m2,e2⟩:=tbls b _ e1
  exact ⟨m1++m2,by rw [e2,Array.append_assoc]⟩
 ·obtain ⟨m,hn,hl⟩:=I.loc
  refine ⟨m,ns m hn,fun i x v e1 e2 e3=>?_⟩
  obtain ⟨u,r,l⟩:=hl i x v e1 e2 e3
  refine ⟨u,r,?_⟩
  rcases l with l | ⟨k,c,e,z⟩
  ·exact .inl l
  ·exact .inr ⟨k,c,e,cellK x c e _ z⟩
 ·obtain ⟨v,z⟩:=I.cell x c e
  exact ⟨v,cellK x c e v z⟩
 ·obtain ⟨m,⟨o,_,_,ho,_⟩,_⟩:=I.loc
  exact free _ o (fun z=>(hch _ z).2.1 rfl) ho I.free
 ·obtain ⟨v,o,ho,hd⟩:=I.cell x c e
  exact free c o (fun z=>(hch c z).2.2.1 x c e rfl) ho (I.freeC x c e)
 ·obtain ⟨e,n,ne,nf,d⟩:=I.pin p hp
  have nch:p.1 ∉ ch:=fun z=>(hch p.1 z).2.2.2 p hp rfl
  exact ⟨keep p.1 p.2 ne nf nch e n,free p.1 p.2 nch e n,ne,nf,d⟩
theorem Inv.un{t':Nat}(I:Inv X pins σ H s)(u:Un X.fs [] H H' s.heap h')(hok:HOk X.prog X.w H' h'):Inv X pins σ H' { s with heap:=h',toks:=t' }:=by
 obtain ⟨m,⟨o,es,ep,ho,r⟩,_⟩:=id I.loc
 obtain ⟨sl,hL⟩:=u.any ho I.free (by simp)
 exact I.step (g':=s.gens) (d':=s.drawn) (ch:=[]) (fun _ z=>nomatch z) (fun b o _ hb _ e n=>u.keep b o e n hb (by simp)) (fun b o _ hb _ e n=>u.slot b o e n hb (by simp)) (fun b o _ e n=>u.free b o e n (by simp)) (fun b o _ e=>u.there b o e (by simp)) u.tups u.frzs u.tbls (fun m' hm=>by
  obtain ⟨o',es',ep',ho',r'⟩:=hm
  rw [ho] at ho';cases ho'
  exact ⟨_,es',ep',hL,r'⟩) hok I.bare
theorem Inv.call{g':Array GenState}{t':Nat}{d':Drawn}{ch:List Addr}(I:Inv X pins σ H s)(u:Un (frs X.stack) ch H H' s.heap h')(hok:HOk X.prog X.w H' h')(hg:AllBare g')
  (hch:∀ b∈ch,(b∈X.ex\/X.s₀.heap.objs.size<=b)/\b≠X.env.locals/\(∀ x c,X.env.cells.lookup x=some c->c≠b)/\∀ p∈X.pn++pins,p.1≠b) :
  Inv X pins σ H' { s with heap:=h',gens:=g',drawn:=d',toks:=t' }:=by
 obtain ⟨m,⟨o,es,ep,ho,r⟩,_⟩:=id I.loc
 obtain ⟨sl,hL⟩:=u.any ho I.free fun z=>(hch _ z).2.1 rfl
 exact I.step (ch:=ch) hch (fun b o hL hb hc e n=>u.keep b o e n (fun z=>(List.mem_cons.mp (I.stkSub b z)).elim hL hb) hc) (fun b o _ _ hc e n=>u.any e n hc) (fun b o hc e n=>u.free b o e n hc) (fun b o hc e=>u.there b o e hc) u.tups u.frzs u.tbls (fun m' hm=>by
  obtain ⟨o',es',ep',ho',r'⟩:=hm
  rw [ho] at ho';cases ho'
  exact ⟨_,es',ep',hL,r'⟩) hok hg
theorem Inv.turned{t':Nat}{it:Addr}(I:Inv X pins σ H s)(k:∀ b o,b≠it->s.heap.get? b=some o->h'.get? b=some o)(hn:H it=none)(hL:it≠X.env.locals)
  (h1:it∈X.ex\/X.s₀.heap.objs.size<=it) (h2:∀ x c,X.env.cells.lookup x=some c->c≠it) (h3:∀ p∈X.pn++pins,p.1≠it):Inv X pins σ H { s with heap:=h',toks:=t' }:=by
 have nit:∀ b u,H b=some u->b≠it:=fun b u e z=>by rw [z,hn] at e;cases e
 refine I.step (g':=s.gens) (d':=s.drawn) (ch:=[it]) (fun b hb=>?_) (fun b o _ _ hc e _=>k b o (fun z=>hc (by simp [z])) e) (fun b o _ _ hc e _=>⟨o.slots,k b o (fun z=>hc (by simp [z])) e⟩) (fun _ _ _ _ n=>n)
  (fun b o hc e=>⟨o,k b o (fun z=>hc (by simp [z])) e⟩) (fun _ _ e=>e) (fun _ _ _ e=>e) (fun b ps e=>⟨#[],by rw [e];simp⟩) (fun m hm=>?_) (fun b u e=>?_) I.bare
 ·have e:b=it:=by simpa using hb
  subst e
  exact ⟨h1,hL,h2,h3⟩
 ·obtain ⟨o,es,ep,ho,r⟩:=hm
  exact ⟨o,es,ep,k _ o (Ne.symm hL) ho,r⟩
 ·refine (I.hok b u e).stay (fun c v hc q=>k c v ?_ q) (fun _ q=>q) fun _ _ q=>q
  rcases hc with z | z
  ·rw [z];exact nit b u e
  ·exact nit c _ z
theorem Inv.tok(I:Inv X pins σ H s)(t:Nat):Inv X pins σ H { s with toks:=t }:=I.un (h':=s.heap) (t':=t) Un.refl I.hok
theorem Inv.kept{t':Nat}(I:Inv X pins σ H s)(k:∀ b u,s.heap.get? b=some u->h'.get? b=some u):Inv X pins σ H { s with heap:=h',toks:=t' }:=I.un (Un.kept k) (I.hok.kept k)
theorem Inv.laid{a:Addr}{o:HO}{t':Nat}(I:Inv X pins σ H s)(k:∀ b u,s.heap.get? b=some u->h'.get? b=some u)(hp:s.heap.objs.size<=a)(new:iD X.prog X.w (upd H a o) h' a o) :
  Inv X pins σ (upd H a o) { s with heap:=h',toks:=t' }:=I.un (Un.laid k hp (I.hok.fresh hp)) (I.hok.laid k hp new)
theorem Inv.write{x e:Addr}{o:HO}{t':Nat}(I:Inv X pins σ H s)(mu:Mut (H x))(he:e=x\/H e=some (.own x))(k:∀ b u,b≠e->s.heap.get? b=some u->h'.get? b=some u)(heo:∃ u,h'.get? e=some u)
  (new:iD X.prog X.w (upd H x o) h' x o):Inv X pins σ (upd H x o) { s with heap:=h',toks:=t' }:=I.un (Un.write mu he k heo) (I.hok.write mu he k heo new)
theorem Inv.pins_of{pins':List (Addr × Obj)}(I:Inv X pins σ H s)(h:∀ p∈pins',s.heap.get? p.1=some p.2/\H p.1=none/\p.1≠X.env.locals/\p.1 ∉ X.fs/\∀ v,p.2.data ≠ .cell v):Inv X pins' σ H s :=
 ⟨I.ok,I.os,I.bare,I.base,I.loc,I.cell,I.free,I.freeC,fun p hp=>(List.mem_append.mp hp).elim (fun z=>I.pin p (List.mem_append_left _ z)) (h p),I.hok,I.len⟩
theorem aEz{N:List Str}(hN:N.Nodup){i j:Nat}{x:Str}(a:N[i]?=some x)(b:N[j]?=some x):i=j:=by
 obtain ⟨h1,e1⟩:=List.getElem?_eq_some_iff.mp a
 obtain ⟨h2,e2⟩:=List.getElem?_eq_some_iff.mp b
 exact (List.getElem_inj hN).mp (e1.trans e2.symm)
theorem aCj{M:Model}{A:Around}{E:Value->Shared->Prop}{i:Nat}{x:Str}{v:V}{u:Value}{Q:Unit->Shared->Prop}(I:Inv X pins σ H s)(hN:X.N.Nodup)(hi:X.N[i]?=some x)(hx:Loc X.env.scope x)(r:RelV v u)
  (h:∀ s',Inv X pins (σ.set i (some v)) H s'->(∃ a,Heap.SameBut a s.heap s'.heap/\(a=X.env.locals\/X.env.cells.lookup x=some a))->Q () s') (hf:X.fn x=true\/X.env.scope.names.lookup x=some .local:=by first | exact .inl rfl | exact .inr rfl | assumption):wpAny M A (storeName X.env x u) Q E s:=by
 obtain ⟨m,hn,hl⟩:=id I.loc
 have hcls:(X.env.scope.kind == .class||(X.env.scope.kind == .module&&X.env.locals != X.env.globals))=false:=by rw [I.ok.kind];rfl
 have hiσ:i < σ.length:=by rw [I.len];exact (List.getElem?_eq_some_iff.mp hi).1
 have cne:=I.cne
 have tracked:∀ {a:Addr} {h':Heap},(∃ o,s.heap.get? a=some o/\H a=none)->Heap.SameBut a s.heap h'->HOk X.prog X.w H h':=fun {a h'} ha hs b ob e=>by
  obtain ⟨_,_,hfree⟩:=ha
  refine (I.hok b ob e).stay (fun c w' hc q=>(hs.2 c ?_).trans q) (fun _ q=>q) fun _ _ q=>q
  rintro rfl
  rcases hc with rfl | hc
  ·rw [hfree] at e;cases e
  ·rw [hfree] at hc;cases hc
 rcases hx with hk | hk
 ·refine wpAny_storeName_local hk hn (fun h' hn' hs=>?_) hcls
  obtain ⟨oL,_,_,hoL,_⟩:=id hn
  refine h _ ⟨I.ok,I.os,I.bare,⟨fun b o e n hb hx=>?_,fun b o e n hb hx=>?_,I.base.free,fun b o e hx=>?_,I.base.tups,I.base.frzs,I.base.tbls⟩,⟨_,hn',fun j y v' e1 e2 e3=>?_⟩,fun y c e=>?_,I.free,I.freeC,fun p hp=>?_,tracked ⟨oL,hoL,I.free⟩ hs,by simpa using I.len⟩ ⟨_,hs,.inl rfl⟩
  ·exact (hs.2 b (Nat.ne_of_lt (Nat.lt_of_lt_of_le (Heap.lt_size e) I.ok.above))).trans (I.base.keep b o e n hb hx)
  ·obtain ⟨sl,e1⟩:=I.base.slot b o e n hb hx
   exact ⟨sl,(hs.2 b (Nat.ne_of_lt (Nat.lt_of_lt_of_le (Heap.lt_size e) I.ok.above))).trans e1⟩
  ·obtain ⟨o',e1⟩:=I.base.there b o e hx
   exact ⟨o',(hs.2 b (Nat.ne_of_lt (Nat.lt_of_lt_of_le (Heap.lt_size e) I.ok.above))).trans e1⟩
  ·by_cases hj:j=i
   ·subst hj
    rw [hi] at e1;cases e1
    rw [List.getElem?_set_self hiσ] at e2
    cases e2
    exact ⟨u,r,.inl ⟨hk,by simp⟩⟩
   ·rw [List.getElem?_set_ne (Ne.symm hj)] at e2
    obtain ⟨u',r',q⟩:=hl j y v' e1 e2 e3
    refine ⟨u',r',?_⟩
    rcases q with ⟨k,e⟩ | ⟨k,c,e,z⟩
    ·refine .inl ⟨k,?_⟩
     have:y≠x:=fun e=>hj (aEz hN e1 (e ▸ hi))
     simp [this,e]
    ·exact .inr ⟨k,c,e,z.sameBut hs (cne y c e)⟩
  ·obtain ⟨w',z⟩:=I.cell y c e
   exact ⟨w',z.sameBut hs (cne y c e)⟩
  ·obtain ⟨e,n,ne,nf,d⟩:=I.pin p hp
   exact ⟨(hs.2 p.1 ne).trans e,n,ne,nf,d⟩
 ·have hfn:X.fn x=true:=by
   rcases hf with z | z
   ·exact z
   ·rw [z] at hk;cases hk
  obtain ⟨c,hc⟩:=I.ok.has x (.inl hk)
  obtain ⟨w',z⟩:=I.cell x c hc
  refine wpAny_storeName_cell I.ok.kind hk hc z (fun h' hc' hs=>?_)
  obtain ⟨oc,hoc,hocd⟩:=id z
  refine h { s with heap:=h' } ⟨I.ok,I.os,I.bare,⟨fun b o e n hb hx=>?_,fun b o e n hb hx=>?_,I.base.free,fun b o e hx=>?_,I.base.tups,I.base.frzs,I.base.tbls⟩,⟨m,hn.sameBut hs (Ne.symm (cne x c hc)),fun j y v' e1 e2 e3=>?_⟩,fun y c' e=>?_,I.free,I.freeC,fun p hp=>?_,tracked ⟨oc,hoc,I.freeC x c hc⟩ hs,by simpa using I.len⟩ ⟨c,hs,.inr hc⟩
  ·exact (hs.2 b (Nat.ne_of_lt (Nat.lt_of_lt_of_le (Heap.lt_size e) (I.ok.cab x c hfn hc)))).trans (I.base.keep b o e n hb hx)
  ·obtain ⟨sl,e1⟩:=I.base.slot b o e n hb hx
   exact ⟨sl,(hs.2 b (Nat.ne_of_lt (Nat.lt_of_lt_of_le (Heap.lt_size e) (I.ok.cab x c hfn hc)))).trans e1⟩
  ·obtain ⟨o',e1⟩:=I.base.there b o e hx
   exact ⟨o',(hs.2 b (Nat.ne_of_lt (Nat.lt_of_lt_of_le (Heap.lt_size e) (I.ok.cab x c hfn hc)))).trans e1⟩
  ·by_cases hj:j=i
   ·subst hj
    rw [hi] at e1;cases e1
    rw [List.getElem?_set_self hiσ] at e2
    cases e2
    exact ⟨u,r,.inr ⟨.inl hk,c,hc,hc'⟩⟩
   ·rw [List.getElem?_set_ne (Ne.symm hj)] at e2
    obtain ⟨u',r',q⟩:=hl j y v' e1 e2 e3
    refine ⟨u',r',?_⟩
    rcases q with q | ⟨k,c',e,z'⟩
    ·exact .inl q
    ·refine .inr ⟨k,c',e,z'.sameBut hs ?_⟩
     rintro rfl
     exact hj (aEz hN e1 (I.ok.inj _ _ _ e hc ▸ hi))
  ·by_cases hcc:c'=c
   ·subst hcc;exact ⟨_,hc'⟩
   ·obtain ⟨w2,z2⟩:=I.cell y c' e
    exact ⟨w2,z2.sameBut hs hcc⟩
  ·obtain ⟨e,n,ne,nf,d⟩:=I.pin p hp
   refine ⟨(hs.2 p.1 ?_).trans e,n,ne,nf,d⟩
   intro q
   rw [q,hoc] at e
   have q':oc=p.2:=Option.some.inj e
   exact d w' (by rw [<-q'];exact hocd)
theorem store_ok{M:Model}{A:Around}{E:Value->Shared->Prop}{i:Nat}{x:Str}{v:V}{u:Value}{Q:Unit->Shared->Prop}(I:Inv X pins σ H s)(hN:X.N.Nodup)(hi:X.N[i]?=some x)(hx:Loc X.env.scope x)(r:RelV v u)
  (h:∀ s',Inv X pins (σ.set i (some v)) H s'->Q () s') (hf:X.fn x=true\/X.env.scope.names.lookup x=some .local:=by first | exact .inl rfl | exact .inr rfl | assumption):wpAny M A (storeName X.env x u) Q E s :=
 aCj I hN hi hx r (fun s' I' _=>h s' I') hf
theorem Inv.call'{s':Shared}{ch:List Addr}(I:Inv X pins σ H s)(ho:s'.os=s.os)(u:Un (frs X.stack) ch H H' s.heap s'.heap)(hok:HOk X.prog X.w H' s'.heap)(hg:AllBare s'.gens)
  (hch:∀ b∈ch,(b∈X.ex\/X.s₀.heap.objs.size<=b)/\b≠X.env.locals/\(∀ x c,X.env.cells.lookup x=some c->c≠b)/\∀ p∈X.pn++pins,p.1≠b):Inv X pins σ H' s':=by
 obtain ⟨h',g',d',t',o'⟩:=s'
 have e:o'=s.os:=ho
 subst e
 exact I.call (g':=g') (t':=t') (d':=d') u hok hg hch
end
abbrev XK:=Value->Option Addr->Hp->Prop
abbrev St:=List (Option V)
abbrev VK:=V->Hp->Prop
abbrev TE:=St->Hp->VK->Prop
abbrev TT:=St->Hp->(Bool->Hp->Prop)->Prop
abbrev TA:=St->Hp->(List V->Hp->Prop)->Prop
structure Ends where
 nx:St->Hp->Prop
 rt:VK
 bk:St->Hp->Prop:=fun _ _=>False
 ct:St->Hp->Prop:=fun _ _=>False
abbrev TS:=Ends->St->Hp->Prop
def EP(X:Cx)(pins:List (Addr × Obj))(σ:St)(Q:VK)(u:Value)(s':Shared):Prop:=∃ v H',Inv X pins σ H' s'/\RelV v u/\Q v H'
def TP(X:Cx)(pins:List (Addr × Obj))(σ:St)(Q:Bool->Hp->Prop)(b:Bool)(s':Shared):Prop:=∃ H',Inv X pins σ H' s'/\Q b H'
def AP(X:Cx)(pins:List (Addr × Obj))(σ:St)(Q:List V->Hp->Prop)(us:List Value)(s':Shared):Prop:=∃ vs H',Inv X pins σ H' s'/\Vals vs us/\Q vs H'
def SP(X:Cx)(pins:List (Addr × Obj))(D:Ends)(f:Flow)(s':Shared):Prop :=
 match f with
 | .next=>∃ σ' H',Inv X pins σ' H' s'/\D.nx σ' H'
 | .brk=>∃ σ' H',Inv X pins σ' H' s'/\D.bk σ' H'
 | .cont=>∃ σ' H',Inv X pins σ' H' s'/\D.ct σ' H'
 | .ret u=>∃ v σ' H',Inv X pins σ' H' s'/\RelV v u/\D.rt v H'
def PE(X:Cx)(e:Expr)(t:TE):Prop :=
 ∀ (pins:List (Addr × Obj)) (s:Shared) (σ:St) (H:Hp) (Q:VK),Inv X pins σ H s->t σ H Q->wpAny (model X.prog X.w) X.A (eval e X.env) (EP X pins σ Q) X.xe s
def PT(X:Cx)(e:Expr)(t:TT):Prop :=
 ∀ (pins:List (Addr × Obj)) (s:Shared) (σ:St) (H:Hp) (Q:Bool->Hp->Prop),Inv X pins σ H s->t σ H Q->wpAny (model X.prog X.w) X.A (isTrue e X.env (eval e X.env)) (TP X pins σ Q) X.xe s
def PW(X:Cx)(e:Expr)(t:TT):Prop :=
 ∀ (whole:Sem Value) (pins:List (Addr × Obj)) (s:Shared) (σ:St) (H:Hp) (Q:Bool->Hp->Prop),Inv X pins σ H s->t σ H Q->wpAny (model X.prog X.w) X.A (isTrue e X.env whole) (TP X pins σ Q) X.xe s
theorem PW.pt{X:Cx}{e:Expr}{t:TT}(h:PW X e t):PT X e t:=h _
def PA(X:Cx)(es:List Expr)(t:TA):Prop :=
 ∀ (pos:Pos) (pins:List (Addr × Obj)) (s:Shared) (σ:St) (H:Hp) (Q:List V->Hp->Prop),Inv X pins σ H s->t σ H Q->wpAny (model X.prog X.w) X.A (spliced (backTo pos (starEach es X.env))) (AP X pins σ Q) X.xe s
def PS(X:Cx)(st:Stmt)(t:TS):Prop :=
 ∀ (pins:List (Addr × Obj)) (s:Shared) (σ:St) (H:Hp) (D:Ends),Inv X pins σ H s->t D σ H->wpAny (model X.prog X.w) X.A (exec st X.env) (SP X pins D) X.xe s
def PSs(X:Cx)(st:List Stmt)(t:TS):Prop :=
 ∀ (pins:List (Addr × Obj)) (s:Shared) (σ:St) (H:Hp) (D:Ends),Inv X pins σ H s->t D σ H->wpAny (model X.prog X.w) X.A (execs st X.env) (SP X pins D) X.xe s
theorem thn{α:Type}{t:Sem α}{Q Q':α->Shared->Prop}{M:Model}{A:Around}{E:Value->Shared->Prop}{s:Shared}(h:wpAny M A t Q E s)(hQ:∀ a s,Q a s->Q' a s):wpAny M A t Q' E s:=wpAny_mono h hQ fun _ _ x=>x
end L2
namespace L2
open PySem PySem.Spec PyProof.Rows
section
variable{X:Cx}
def aWj(i:Nat):TE:=fun σ H Q=>∃ v,σ[i]?=some (some v)/\Q v H
def tC(v:V):TE:=fun _ H Q=>Q v H
theorem rO{i:Nat}{x:Str}{pos:Pos}(hN:X.N[i]?=some x)(hv:Vis X.env.scope x)(hd:(x==("__debug__" : Str))=false:=by decide)(hcd:(x==("__classdict__" : Str))=false:=by decide):PE X (.Name x pos) (aWj i):=by
 intro pins s σ H Q I h
 obtain ⟨v,e,h⟩:=h
 obtain ⟨m,hn,hl⟩:=I.loc
 obtain ⟨u,r,l⟩:=hl i x v hN e hv
 have fin:EP X pins σ Q u s:=⟨v,H,I,r,h⟩
 rcases l with ⟨hk,hm⟩ | ⟨hk,c,hc,hcell⟩
 ·exact wpAny_Name (wpAny_loadName_local I.ok.kind hk hn hm fin) hd
 ·rcases hk with hk | hk
  ·exact wpAny_Name (wpAny_loadName_cell I.ok.kind hk hc hcell fin) hd
  ·exact wpAny_Name (wpAny_loadName_free I.ok.kind hk hc hcell fin hcd) hd
theorem aT7{i j pos}:PE X (.Constant (.int i) j pos) (tC (.int i)):=fun _ _ _ H _ I h=>wpAny_Constant_int ⟨.int i,H,I.tok _,⟨_,rfl⟩,h⟩
theorem aWk{b j pos}:PE X (.Constant (.bool b) j pos) (tC (.bl b)):=fun _ _ _ H _ I h=>Constant_bool ⟨.bl b,H,I,rfl,h⟩
theorem aT8{j pos}:PE X (.Constant .none j pos) (tC .non):=fun _ _ _ H _ I h=>Constant_none ⟨.non,H,I,rfl,h⟩
theorem aT9{x j pos}:PE X (.Constant (.str x) j pos) (tC (.str x)):=fun _ _ _ H _ I h=>Calls.Constant_str ⟨.str x,H,I.tok _,⟨_,rfl⟩,h⟩
def Gl(X:Cx)(x:Str):Prop:=X.env.kindOf x=some .globalImplicit
theorem tH{E:Value->Shared->Prop}{pins:List (Addr × Obj)}{s:Shared}{σ:St}{H:Hp}{x:Str}{u:Value}{pos:Pos}{Q:Value->Shared->Prop}(I:Inv X pins σ H s)(hg:Gl X x)(hm:X.mg x=some u)(h:Q u s)
  (hd:(x==("__debug__" : Str))=false:=by decide):wpAny (model X.prog X.w) X.A (eval (.Name x pos) X.env) Q E s :=
 Calls.Name_function_global I.ok.kind hg (Calls.loadGlobal_global (by rw [I.ok.glob];exact I.mod.glob.keeps I.bk) hm h) hd
theorem xR{E:Value->Shared->Prop}{pins:List (Addr × Obj)}{s:Shared}{σ:St}{H:Hp}{x:Str}{u:Value}{pos:Pos}{Q:Value->Shared->Prop}(I:Inv X pins σ H s)(hg:Gl X x)(hm:X.mg x=none)(hv:bootBuiltins x=some u)(h:Q u s)
  (hn:x ≠ "__name__" := by decide) (hd:(x==("__debug__" : Str))=false:=by decide):wpAny (model X.prog X.w) X.A (eval (.Name x pos) X.env) Q E s:=by
 obtain ⟨mb,h1,h2⟩:=I.mod.blt
 exact Calls.Name_function_global I.ok.kind hg (Calls.loadGlobal_builtin (by rw [I.ok.glob];exact I.mod.glob.keeps I.bk) hm (by rw [I.ok.blt];exact h1.keeps I.bk) ((h2 x hn).trans hv) h) hd
theorem aI8{x:Str}{v:V}{u:Value}{pos:Pos}(hg:Gl X x)(hm:X.mg x=some u)(r:RelV v u)(hd:(x==("__debug__" : Str))=false:=by decide):PE X (.Name x pos) (tC v) :=
 fun _ _ _ H _ I h=>tH I hg hm ⟨v,H,I,r,h⟩ hd
theorem aP4{x:Str}{v:V}{u:Value}{pos:Pos}(hg:Gl X x)(hm:X.mg x=none)(hv:bootBuiltins x=some u)(r:RelV v u)(hn:x ≠ "__name__" := by decide)(hd:(x==("__debug__" : Str))=false:=by decide):PE X (.Name x pos) (tC v) :=
 fun _ _ _ H _ I h=>xR I hg hm hv ⟨v,H,I,r,h⟩ hn hd
variable{a b:Expr}{ta tb:TE}{pos:Pos}
def tB(t:TE):TT:=fun σ H Q=>t σ H fun x H1=>∃ c,x = .bl c/\Q c H1
theorem aTa{e:Expr}{t:TE}(h:PE X e t)(he:∀ whole,isTrue e X.env whole=(do let v <- whole;standAt e.pos;holding [v] (truthy v)):=by intro _;rfl):PT X e (tB t):=by
 intro pins s σ H Q I hw
 refine isTrue_plain (thn (h pins s σ H _ I hw) fun v s1 ⟨x,H1,I1,r1,q1⟩=>?_) (he _)
 obtain ⟨d,rfl,q⟩:=q1
 cases r1
 exact wpAny_truthy_bool ⟨H1,I1,q⟩
variable{tA tB':TT}{rest:List Expr}
def bA6(t u:TT):TT:=fun σ H Q=>t σ H fun c H1=>if c=true then u σ H1 Q else Q false H1
def tOr(t u:TT):TT:=fun σ H Q=>t σ H fun c H1=>if c=true then Q true H1 else u σ H1 Q
def bA7(t:TT):TT:=fun σ H Q=>t σ H fun c H1=>Q (!c) H1
theorem aP5(ha:PT X a tA):PW X (.BoolOp .And [a] pos) tA:=by
 intro wh pins s σ H Q I h
 refine isTrue_and (thn (ha pins s σ H Q I h) fun c s1 e=>?_)
 cases c with
 | true=>exact isTrue_and_nil e
 | false=>exact e
theorem aTb(ha:PT X a tA):PW X (.BoolOp .Or [a] pos) tA:=by
 intro wh pins s σ H Q I h
 refine isTrue_or (thn (ha pins s σ H Q I h) fun c s1 e=>?_)
 cases c with
 | false=>exact isTrue_or_nil e
 | true=>exact e
theorem aTc(ha:PT X a tA)(hb:PW X (.BoolOp .And (b :: rest) pos) tB'):PW X (.BoolOp .And (a :: b :: rest) pos) (bA6 tA tB'):=by
 intro wh pins s σ H Q I h
 refine isTrue_and (thn (ha pins s σ H _ I h) fun c s1 ⟨H1,I1,q1⟩=>?_)
 cases c with
 | true=>exact hb wh pins s1 σ H1 Q I1 q1
 | false=>exact ⟨H1,I1,q1⟩
theorem aWl(ha:PT X a tA)(hb:PW X (.BoolOp .Or (b :: rest) pos) tB'):PW X (.BoolOp .Or (a :: b :: rest) pos) (tOr tA tB'):=by
 intro wh pins s σ H Q I h
 refine isTrue_or (thn (ha pins s σ H _ I h) fun c s1 ⟨H1,I1,q1⟩=>?_)
 cases c with
 | true=>exact ⟨H1,I1,q1⟩
 | false=>exact hb wh pins s1 σ H1 Q I1 q1
theorem aTd(ha:PT X a tA):PT X (.UnaryOp .Not a pos) (bA7 tA):=by
 intro pins s σ H Q I h
 exact isTrue_not (ha pins s σ H (fun c H1=>Q (!c) H1) I h)
def aWm(ta tb:TE):TE:=fun σ H Q=>ta σ H fun x H1=>∃ c,x = .bl c/\if c=true then tb σ H1 Q else Q (.bl false) H1
def bA8(ta tb:TE):TE:=fun σ H Q=>ta σ H fun x H1=>∃ c,x = .bl c/\if c=true then Q (.bl true) H1 else tb σ H1 Q
def aWn(ta:TE):TE:=fun σ H Q=>ta σ H fun x H1=>∃ c,x = .bl c/\Q (.bl (!c)) H1
theorem aLr{op}{t:TE}(h:PE X a t):PE X (.BoolOp op [a] pos) t:=fun pins s σ H Q I hw=>BoolOp_one (h pins s σ H Q I hw)
theorem aTe(ha:PE X a ta)(hb:PE X (.BoolOp .And (b :: rest) pos) tb):PE X (.BoolOp .And (a :: b :: rest) pos) (aWm ta tb):=by
 intro pins s σ H Q I h
 refine BoolOp_and (thn (ha pins s σ H _ I h) fun v s1 ⟨x,H1,I1,r1,q1⟩=>?_)
 obtain ⟨c,rfl,q1⟩:=q1
 cases r1
 refine wpAny_truthy_bool ?_
 cases c with
 | true=>exact hb pins s1 σ H1 Q I1 q1
 | false=>exact ⟨.bl false,H1,I1,rfl,q1⟩
theorem aWo(ha:PE X a ta)(hb:PE X (.BoolOp .Or (b :: rest) pos) tb):PE X (.BoolOp .Or (a :: b :: rest) pos) (bA8 ta tb):=by
 intro pins s σ H Q I h
 refine BoolOp_or (thn (ha pins s σ H _ I h) fun v s1 ⟨x,H1,I1,r1,q1⟩=>?_)
 obtain ⟨c,rfl,q1⟩:=q1
 cases r1
 refine wpAny_truthy_bool ?_
 cases c with
 | false=>exact hb pins s1 σ H1 Q I1 q1
 | true=>exact ⟨.bl true,H1,I1,rfl,q1⟩
theorem aTf(ha:PE X a ta):PE X (.UnaryOp .Not a pos) (aWn ta):=by
 intro pins s σ H Q I h
 refine UnaryOp_ (thn (ha pins s σ H _ I h) fun v s1 ⟨x,H1,I1,r1,q1⟩=>?_)
 obtain ⟨c,rfl,q1⟩:=q1
 cases r1
 exact not_of (wpAny_truthy_bool ⟨.bl (!c),H1,I1,rfl,q1⟩)
end
end L2
namespace L2
open PySem PySem.Spec PyProof.Rows
def SqL(K:PySem.W.Frag)(H:Hp)(a:Addr)(xs:List V):Prop :=
 Rd H a (.lst xs) \/
  ∃ (o:Obj) (its:Array Value) (n:Nat),K.lookup a=some o/\o.cls = .type "list" /\ o.dict=none/\o.data = .seq its n/\its.size<=sizeLine/\Vals xs its.toList
def SqT(K:PySem.W.Frag)(H:Hp)(a:Addr)(xs:List V):Prop :=
 Rd H a (.tup xs) \/
  ∃ (o:Obj) (its:Array Value) (n:Nat),K.lookup a=some o/\o.cls = .type "tuple" /\ o.data = .seq its n/\its.size<=sizeLine/\Vals xs its.toList
def bA9:Value->Option V
 | .none=>some .non
 | .bool b=>some (.bl b)
 | .int i _=>some (.int i)
 | .str x _=>some (.str x)
 | .bytes b _=>some (.byt b)
 | .float b _=>some (.flt b)
 | .ref a=>some (.ref a)
 | .type n=>some (.ty n)
 | _=>none
theorem RelV.abs{x:V}{u:Value}(r:RelV x u):bA9 u=some x:=by
 cases x with
 | non=>cases r;rfl
 | bl _=>cases r;rfl
 | int _=>obtain ⟨t,rfl⟩:=r;rfl
 | str _=>obtain ⟨t,rfl⟩:=r;rfl
 | byt _=>obtain ⟨t,rfl⟩:=r;rfl
 | flt _=>obtain ⟨t,rfl⟩:=r;rfl
 | ref _=>cases r;rfl
 | ty _=>cases r;rfl
theorem RelV.inj{x y:V}{u:Value}(r:RelV x u)(q:RelV y u):x=y:=Option.some.inj (r.abs.symm.trans q.abs)
theorem Vals.inj:∀ {xs ys:List V} {us:List Value},Vals xs us->Vals ys us->xs=ys
 | _,_,_,.nil,.nil=>rfl
 | _,_,_,.cons r t,.cons r' t'=>by rw [r.inj r',Vals.inj t t']
section
variable{X:Cx}{pins:List (Addr × Obj)}{σ:St}{H:Hp}{s:Shared}{a:Addr}{xs ys:List V}
theorem SqL.of{K:PySem.W.Frag}(h:H a=some (.lst xs)):SqL K H a xs := .inl (.inl h)
theorem SqT.of{K:PySem.W.Frag}(h:H a=some (.tup xs)):SqT K H a xs := .inl (.inl h)
theorem Inv.list(I:Inv X pins σ H s)(h:SqL X.K H a xs):∃ its:List Value,Vals xs its/\PlainL s.heap a its.toArray/\xs.length<=sizeLine:=by
 rcases h with h | ⟨o,its,n,hk,hc,hd,hs,hz,r⟩
 ·obtain ⟨z,its,n,r,e⟩:=h.ok I.hok
  exact ⟨its,r,⟨_,n,e,rfl,rfl,rfl⟩,z⟩
 ·refine ⟨its.toList,r,⟨o,n,I.kIn a o hk,hc,hd,by simpa using hs⟩,?_⟩
  have e:=r.length
  simp only [Array.length_toList] at e
  omega
theorem Inv.tuple(I:Inv X pins σ H s)(h:SqT X.K H a xs):∃ its:List Value,Vals xs its/\IsTup s.heap a its.toArray/\xs.length<=sizeLine:=by
 rcases h with h | ⟨o,its,n,hk,hc,hs,hz,r⟩
 ·obtain ⟨z,its,r,p⟩:=h.ok I.hok
  exact ⟨its,r,p,z⟩
 ·refine ⟨its.toList,r,⟨o,I.kIn a o hk,hc,n,by simpa using hs⟩,?_⟩
  have e:=r.length
  simp only [Array.length_toList] at e
  omega
theorem Inv.list_inj(I:Inv X pins σ H s)(h:SqL X.K H a xs)(h':SqL X.K H a ys):xs=ys:=by
 obtain ⟨its,r,⟨o,n,e,_,_,d⟩,_⟩:=I.list h
 obtain ⟨its',r',⟨o',n',e',_,_,d'⟩,_⟩:=I.list h'
 rw [e] at e';cases e'
 rw [d] at d'
 injection d' with d1 _
 have:its=its':=by simpa using congrArg Array.toList d1
 subst this
 exact r.inj r'
theorem Inv.tuple_inj(I:Inv X pins σ H s)(h:SqT X.K H a xs)(h':SqT X.K H a ys):xs=ys:=by
 obtain ⟨its,r,⟨o,e,_,n,d⟩,_⟩:=I.tuple h
 obtain ⟨its',r',⟨o',e',_,n',d'⟩,_⟩:=I.tuple h'
 rw [e] at e';cases e'
 rw [d] at d'
 injection d' with d1 _
 have:its=its':=by simpa using congrArg Array.toList d1
 subst this
 exact r.inj r'
end
abbrev Cx.wish(X:Cx)(E:Value->Shared->Prop):Cx:={ X with xe:=E }
abbrev Cx.nox(X:Cx):Cx:=X.wish fun _ _=>False
theorem Cx.Ok.wish{X:Cx}(ok:X.Ok)(E:Value->Shared->Prop):(X.wish E).Ok :=
 ⟨ok.mod,ok.kind,ok.glob,ok.blt,ok.above,ok.inj,ok.has,ok.cab,ok.hd,ok.frames,ok.stk,ok.exf,ok.bs,ok.bsz,ok.noex,ok.exfs,ok.funs,ok.frf⟩
theorem Cx.Ok.unwish{X:Cx}{E:Value->Shared->Prop}(ok:(X.wish E).Ok):X.Ok :=
 ⟨ok.mod,ok.kind,ok.glob,ok.blt,ok.above,ok.inj,ok.has,ok.cab,ok.hd,ok.frames,ok.stk,ok.exf,ok.bs,ok.bsz,ok.noex,ok.exfs,ok.funs,ok.frf⟩
section
variable{X:Cx}{pins:List (Addr × Obj)}{σ:St}{H:Hp}{s:Shared}{E:Value->Shared->Prop}
theorem Inv.wish(I:Inv X pins σ H s)(E:Value->Shared->Prop):Inv (X.wish E) pins σ H s:=⟨I.ok.wish E,I.os,I.bare,I.base,I.loc,I.cell,I.free,I.freeC,I.pin,I.hok,I.len⟩
theorem Inv.unwish(I:Inv (X.wish E) pins σ H s):Inv X pins σ H s:=⟨I.ok.unwish,I.os,I.bare,I.base,I.loc,I.cell,I.free,I.freeC,I.pin,I.hok,I.len⟩
theorem SP.unwish{D:Ends}{f:Flow}{s':Shared}(h:SP (X.wish E) pins D f s'):SP X pins D f s':=by
 cases f with
 | next=>obtain ⟨σ',H',I,q⟩:=h;exact ⟨σ',H',I.unwish,q⟩
 | brk=>obtain ⟨σ',H',I,q⟩:=h;exact ⟨σ',H',I.unwish,q⟩
 | cont=>obtain ⟨σ',H',I,q⟩:=h;exact ⟨σ',H',I.unwish,q⟩
 | ret u=>obtain ⟨v,σ',H',I,r,q⟩:=h;exact ⟨v,σ',H',I.unwish,r,q⟩
theorem PSs.nox{st:List Stmt}{t:TS}(h:PSs X.nox st t):PSs X st t:=fun pins s σ H D I hw =>
 wpAny_mono (h pins s σ H D (I.wish _) hw) (fun _ _ q=>q.unwish) fun _ _ z=>False.elim z
end
section
variable{X:Cx}{st:Stmt}{rest:List Stmt}{t u:TS}{e:Expr}{te:TE}{pos:Pos}
def aWp:TS:=fun D σ H=>D.nx σ H
def bAa(t u:TS):TS:=fun D σ H=>t { D with nx:=u D } σ H
theorem aI9:PSs X [] aWp:=fun _ _ σ H _ I h=>wpAny_execs_nil ⟨σ,H,I,h⟩
theorem aAl(h1:PS X st t)(h2:PSs X rest u):PSs X (st :: rest) (bAa t u):=by
 intro pins s σ H D I h
 refine wpAny_execs_cons (thn (h1 pins s σ H { D with nx:=u D } I h) fun f s1 q=>?_)
 cases f with
 | next =>
  obtain ⟨σ',H',I',q⟩:=q
  exact h2 pins s1 σ' H' D I' q
 | ret v=>exact q
 | brk=>exact q
 | cont=>exact q
theorem aDj(h1:PS X st t):PSs X [st] t:=by
 intro pins s σ H D I h
 refine wpAny_execs_cons (thn (h1 pins s σ H D I h) fun f s1 q=>?_)
 cases f with
 | next=>exact wpAny_execs_nil q
 | ret v=>exact q
 | brk=>exact q
 | cont=>exact q
theorem Inv.quiet{pins:List (Addr × Obj)}{σ:St}{H:Hp}{s:Shared}(I:Inv X pins σ H s):interactive X.env=false:=by simp [interactive,I.ok.kind]
def aWq(te:TE):TS:=fun D σ H=>te σ H fun _ H1=>D.nx σ H1
theorem aP6(he:PE X e te)(hs:swapsWith e none pos.line X.env=pure false:=by rfl):PS X (.Expr e pos) (aWq te):=by
 intro pins s σ H D I h
 exact wpAny_Expr_any (thn (he pins s σ H _ I h) fun v s1 ⟨x,H1,I1,r1,q1⟩=>⟨σ,H1,I1,q1⟩) I.quiet hs
def bAb(te:TE):TS:=fun D σ H=>te σ H D.rt
theorem aLs(he:PE X e te):PS X (.Return (some e) pos) (bAb te):=by
 intro pins s σ H D I h
 exact wpAny_Return_some (thn (he pins s σ H _ I h) fun v s1 ⟨x,H1,I1,r1,q1⟩=>⟨x,σ,H1,I1,r1,q1⟩)
def bAc(c:TT)(t u:TS):TS:=fun D σ H=>c σ H fun b H1=>if b=true then t D σ H1 else u D σ H1
theorem aRw{c:Expr}{a b:List Stmt}{tc:TT}(hc:PT X c tc)(ha:PSs X a t)(hb:PSs X b u):PS X (.If c a b pos) (bAc tc t u):=by
 intro pins s σ H D I h
 refine wpAny_If (thn (hc pins s σ H _ I h) fun d s1 ⟨H1,I1,q1⟩=>?_)
 cases d with
 | true=>exact ha pins s1 σ H1 D I1 q1
 | false=>exact hb pins s1 σ H1 D I1 q1
end
abbrev TG:=V->St->Hp->(St->Hp->Prop)->Prop
abbrev TGs:=List V->St->Hp->(St->Hp->Prop)->Prop
def PG(X:Cx)(target:Expr)(t:TG):Prop :=
 ∀ (pins:List (Addr × Obj)) (s:Shared) (σ:St) (H:Hp) (v:V) (u:Value) (Q:St->Hp->Prop),Inv X pins σ H s->RelV v u->t v σ H Q ->
  wpAny (model X.prog X.w) X.A (assign target X.env u) (fun _ s'=>∃ σ' H',Inv X pins σ' H' s'/\Q σ' H') X.xe s
def PGs(X:Cx)(ts:List Expr)(t:TGs):Prop :=
 ∀ (pins:List (Addr × Obj)) (s:Shared) (σ:St) (H:Hp) (vs:List V) (us:List Value) (Q:St->Hp->Prop),Inv X pins σ H s->Vals vs us->t vs σ H Q ->
  wpAny (model X.prog X.w) X.A (assignInOrder ((assignEach ts X.env).map (·.2)) us) (fun _ s'=>∃ σ' H',Inv X pins σ' H' s'/\Q σ' H') X.xe s
abbrev aTg:=V->V->V->Hp->(Hp->Prop)->Prop
def aTh(X:Cx)(t:aTg):Prop :=
 ∀ (pins:List (Addr × Obj)) (s:Shared) (σ:St) (H:Hp) (o i v:V) (ov iv u:Value) (Q:Hp->Prop),Inv X pins σ H s->RelV o ov->RelV i iv->RelV v u->t o i v H Q ->
  wpAny (model X.prog X.w) X.A (setItem ov iv u) (fun _ s'=>∃ H',Inv X pins σ H' s'/\Q H') X.xe s
section
variable{X:Cx}{pos:Pos}
def aRx(i:Nat):TG:=fun v σ H Q=>Q (σ.set i (some v)) H
theorem aP7{i:Nat}{x:Str}(hN:X.N.Nodup)(hi:X.N[i]?=some x)(hx:Loc X.env.scope x)(hf:X.fn x=true\/X.env.scope.names.lookup x=some .local:=by first | exact .inl rfl | exact .inr rfl | assumption):PG X (.Name x pos) (aRx i):=by
 intro pins s σ H v u Q I r h
 exact wpAny_assign_Name (store_ok I hN hi hx r (fun s' I'=>⟨_,H,I',h⟩) hf)
def bAd:TGs:=fun vs σ H Q=>vs=[]/\Q σ H
def aWr(t:TG)(u:TGs):TGs:=fun vs σ H Q=>∃ v r,vs=v :: r/\t v σ H fun σ' H'=>u r σ' H' Q
theorem aP8:PGs X [] bAd:=by
 intro pins s σ H vs us Q I r h
 obtain ⟨e,h⟩:=h
 subst e
 cases r
 exact assignInOrder_nil ⟨σ,H,I,h⟩
theorem aLt{e:Expr}{es:List Expr}{t:TG}{u:TGs}(h1:PG X e t)(h2:PGs X es u)
  (hs:(assignEach (e :: es) X.env).map (·.2)=assign e X.env :: (assignEach es X.env).map (·.2):=by rfl):PGs X (e :: es) (aWr t u):=by
 intro pins s σ H vs us Q I r h
 obtain ⟨v,vr,e1,h⟩:=h
 subst e1
 cases r with
 | cons r rr =>
  rw [hs]
  refine assignInOrder_cons (thn (h1 pins s σ H _ _ _ I r h) fun _ s1 ⟨σ1,H1,I1,q1⟩=>?_)
  exact h2 pins s1 σ1 H1 _ _ Q I1 rr q1
def bAe(K:PySem.W.Frag)(n:Nat)(t:TGs):TG:=fun v σ H Q=>∃ a xs,v = .ref a/\SqT K H a xs/\xs.length=n/\t xs σ H Q
theorem aTi{es:List Expr}{k:Nat}{t:TGs}{n:Nat}(hc:X.calm=true)(h:PGs X es t)
  (hn:(assignEach es X.env).length=n:=by rfl) (hst:(assignEach es X.env).findIdx? (·.1)=none:=by rfl):PG X (.Tuple es k pos) (bAe X.K n t):=by
 intro pins s σ H v u Q I r hw
 obtain ⟨a,xs,e1,hq,hl,hw⟩:=hw
 subst e1
 cases r
 obtain ⟨its,rv,ht,hz⟩:=I.tuple hq
 refine assign_Tuple_tuple (I.ok.hd hc) ht (by simp [hn,<-hl,rv.length]) hst fun h' hx=>?_
 have I1:Inv X pins σ H { s with heap:=h' }:=I.kept (t':=s.toks) fun b o e=>hx b o (Nat.ne_of_lt (Heap.lt_size e)) e
 exact h pins _ σ H xs _ Q I1 (by simpa using rv) hw
def bAf(to ti:TE)(t:aTg):TG:=fun v σ H Q=>to σ H fun o H1=>ti σ H1 fun i H2=>t o i v H2 fun H3=>Q σ H3
theorem aLu{o i:Expr}{to ti:TE}{t:aTg}(ho:PE X o to)(hi:PE X i ti)(hs:aTh X t)
  (ha:∀ v,assign (.Subscript o i pos) X.env v=(do
   let ov <- holding [v] (eval o X.env)
   let iv <- holding [v,ov] (eval i X.env)
   standAt pos
   holding [v,ov,iv] (setItem ov iv v)
   release [v,ov,iv] []):=by intro _;rfl):PG X (.Subscript o i pos) (bAf to ti t):=by
 intro pins s σ H v u Q I r h
 rw [ha]
 refine wpAny_bind (wpAny_holding (thn (ho pins s σ H _ I h) fun ov s1 ⟨x,H1,I1,r1,q1⟩=>?_))
 refine wpAny_bind (wpAny_holding (thn (hi pins s1 σ H1 _ I1 q1) fun iv s2 ⟨y,H2,I2,r2,q2⟩=>?_))
 refine wpAny_bind (wpAny_standAt (wpAny_bind (wpAny_holding (thn (hs pins s2 σ H2 x y v ov iv u _ I2 r1 r2 r q2) fun _ s3 ⟨H3,I3,q3⟩=>?_))))
 exact wpAny_release ⟨σ,H3,I3,q3⟩
def aWs(te:TE)(g:TG):TS:=fun D σ H=>te σ H fun x H1=>g x σ H1 D.nx
theorem aGl{tg e:Expr}{te:TE}{g:TG}(he:PE X e te)(hg:PG X tg g)(hs:swapsWithSole [tg] e pos.line X.env=pure false:=by rfl)(hw:swappedStores [tg] e X.env=pure none:=by rfl)
  (h1:(assignEach [tg] X.env).map (·.2)=[assign tg X.env]:=by rfl):PS X (.Assign [tg] e pos) (aWs te g):=by
 intro pins s σ H D I h
 refine wpAny_Assign_stores (thn (he pins s σ H _ I h) fun v s1 ⟨x,H1,I1,r1,q1⟩=>?_) hs hw
 rw [h1]
 exact thn (hg pins s1 σ H1 x v _ I1 r1 q1) fun _ s2 q=>q
theorem aAm{i:Nat}{x:Str}{e:Expr}{te:TE}{pos':Pos}(hN:X.N.Nodup)(hi:X.N[i]?=some x)(hx:Loc X.env.scope x)(he:PE X e te)(hs:swapsWith e (some (.Name x pos')) pos.line X.env=pure false:=by rfl)(hf:X.fn x=true\/X.env.scope.names.lookup x=some .local:=by first | exact .inl rfl | exact .inr rfl | assumption) :
  PS X (.Assign [.Name x pos'] e pos) (aWs te (aRx i)):=by
 intro pins s σ H D I h
 refine wpAny_Assign_Name (thn (he pins s σ H _ I h) fun v s1 ⟨y,H1,I1,r1,q1⟩=>?_) hs
 exact store_ok I1 hN hi hx r1 (fun s2 I2=>⟨_,H1,I2,q1⟩) hf
end
section
variable{X:Cx}{pos:Pos}
def aTj(c:TT)(tb:TS):TS:=fun D σ H=>∃ W:Nat->St->Hp->Prop,(∃ m,W m σ H)/\∀ m σ H,W m σ H ->
 c σ H fun b H1=>if b=true then ∃ N:St->Hp->Prop,(∀ σ' H',N σ' H'->∃ m',m' < m/\W m' σ' H')/\tb { D with nx:=N,ct:=N,bk:=D.nx } σ H1 else D.nx σ H1
theorem aLv{c:Expr}{body:List Stmt}{tc:TT}{tb:TS}(hp:PassesOwn (model X.prog X.w) X.A X.env X.xe)(hc:PT X c tc)(hb:PSs X body tb):PS X (.While c body [] pos) (aTj tc tb):=by
 intro pins s σ H D I h
 obtain ⟨W,⟨m0,w0⟩,turn⟩:=h
 refine wpAny_While (codeAny_whileLoop (fun n s'=>∃ σ' H',Inv X pins σ' H' s'/\W n σ' H') ?_ m0 ⟨σ,H,I,w0⟩)
 rintro n s1 ⟨σ1,H1,I1,w1⟩
 refine wpAny_passesOwn hp (thn (hc pins s1 σ1 H1 _ I1 (turn n σ1 H1 w1)) fun b s2 ⟨H2,I2,q2⟩=>?_)
 cases b with
 | true =>
  obtain ⟨N,hN,q2⟩:=q2
  rw [if_pos rfl]
  refine wpAny_passesOwn hp (thn (hb pins s2 σ1 H2 _ I2 q2) fun f s3 q3=>?_)
  cases f with
  | next =>
   obtain ⟨σ3,H3,I3,n3⟩:=q3
   obtain ⟨m',hm,w3⟩:=hN σ3 H3 n3
   exact ⟨m',hm,σ3,H3,I3,w3⟩
  | cont =>
   obtain ⟨σ3,H3,I3,n3⟩:=q3
   obtain ⟨m',hm,w3⟩:=hN σ3 H3 n3
   exact ⟨m',hm,σ3,H3,I3,w3⟩
  | brk=>exact q3
  | ret v=>exact q3
 | false =>
  rw [if_neg Bool.false_ne_true]
  exact wpAny_execs_nil ⟨σ1,H2,I2,q2⟩
end
structure It where
 go:Nat->Hp->Prop
 yld:Nat->Hp->V->Hp->Prop
 stop:Nat->Hp->Prop
def vQ(X:Cx)(pins:List (Addr × Obj))(H:Hp)(b:Addr):Prop :=
 H b=none/\b≠X.env.locals/\b ∉ X.fs/\(b∈X.ex\/X.s₀.heap.objs.size<=b)/\(∀ x c,X.env.cells.lookup x=some c->c≠b)/\∀ p∈X.pn++pins,p.1≠b
theorem Inv.fpOk{X:Cx}{pins:List (Addr × Obj)}{σ:St}{H H':Hp}{s:Shared}{b:Addr}(I:Inv X pins σ H s)(hb:s.heap.objs.size<=b)(hn:H' b=none):vQ X pins H' b:=by
 refine ⟨hn,Nat.ne_of_gt (Nat.lt_of_lt_of_le I.lt hb),I.nofs hb,.inr (Nat.le_trans I.sz hb),fun x c e z=>?_,fun p hp z=>?_⟩
 ·obtain ⟨v,q⟩:=I.cell x c e
  exact absurd (Nat.lt_of_lt_of_le q.lt (by rw [z];exact hb)) (Nat.lt_irrefl _)
 ·exact absurd (Nat.lt_of_lt_of_le (Heap.lt_size (I.pin p hp).1) (by rw [z];exact hb)) (Nat.lt_irrefl _)
structure Turn(P:Program)(w:World)(K:PySem.W.Frag)(tg:Expr)(J:It)(fp:List Addr)(it:Addr)(tn:Nat->Heap->Prop):Prop where
 mem:it∈fp
 obj:∀ i h,tn i h->∀ b∈fp,∃ o,h.get? b=some o/\∀ v,o.data ≠ .cell v
 keep:∀ i h h',tn i h->(∀ b∈fp,∀ o,h.get? b=some o->h'.get? b=some o)->tn i h'
 item:∀ (X:Cx),X.prog=P->X.w=w->X.K=K->X.calm=true->∀ (i:Nat) (pins:List (Addr × Obj)) (s:Shared) (σ:St) (H:Hp) (E:Value->Shared->Prop),Inv X pins σ H s->(∀ b∈fp,vQ X pins H b)->tn i s.heap->J.go i H ->
  wpAny (model P w) X.A (pyNext (.ref it)) (fun r s1=>∃ u,r=some u /\
   wpAny (model P w) X.A (letOwnedTupleGo tg (.ref it) u) (fun _ s2=>∃ x H',Inv X pins σ H' s2/\RelV x u/\J.yld i H x H'/\tn (i+1) s2.heap/\∀ b∈fp,H' b=none) E s1) E s
 done:∀ (X:Cx),X.prog=P->X.w=w->X.K=K->X.calm=true->∀ (i:Nat) (pins:List (Addr × Obj)) (s:Shared) (σ:St) (H:Hp) (E:Value->Shared->Prop),Inv X pins σ H s->(∀ b∈fp,vQ X pins H b)->tn i s.heap->J.stop i H ->
  wpAny (model P w) X.A (pyNext (.ref it)) (fun r s1=>r=none/\Inv X pins σ H s1) E s
 self:∀ (A:Around) (i:Nat) (s:Shared) (Q:Value->Shared->Prop) (E:Value->Shared->Prop),tn i s.heap->Q (.ref it) s->wpAny (model P w) A (pyIter (.ref it)) Q E s
abbrev TI:=St->Hp->(It->Hp->Prop)->Prop
def PIE(X:Cx)(pins:List (Addr × Obj))(σ:St)(tg:Expr)(R:It->Hp->Prop)(itv:Value)(s2:Shared):Prop :=
 ∃ (it:Addr) (fp:List Addr) (tn:Nat->Heap->Prop) (J:It) (H':Hp),itv = .ref it/\Inv X pins σ H' s2/\Turn X.prog X.w X.K tg J fp it tn/\tn 0 s2.heap/\(∀ b∈fp,vQ X pins H' b)/\R J H'
def PI(X:Cx)(tg iter:Expr)(wi:TI):Prop :=
 ∀ (pins:List (Addr × Obj)) (s:Shared) (σ:St) (H:Hp) (R:It->Hp->Prop),Inv X pins σ H s->wi σ H R ->
  wpAny (model X.prog X.w) X.A (eval iter X.env) (fun v s1=>wpAny (model X.prog X.w) X.A (pyIter v) (PIE X pins σ tg R) X.xe s1) X.xe s
theorem aIa{M:Model}{A:Around}{E:Value->Shared->Prop}{s:Shared}{tg:Expr}{it:Addr}{u:Value}{o:Obj}{n:String}{vs:Array Value}{Q:Unit->Shared->Prop}(ho:s.heap.get? it=some o)(hc:o.cls = .type n)(hd:o.data = .fields vs)
  (hn:["enumerate", "zip", "dict_itemiterator", "dict_reverseitemiterator", "odict_iterator", "itertools.zip_longest", "itertools.pairwise"].contains n=false) (hQ:Q () s):wpAny M A (letOwnedTupleGo tg (.ref it) u) Q E s:=by
 unfold letOwnedTupleGo
 cases tg<;>first
  | exact wpAny_pure hQ
  | (cases u<;>first
    | exact wpAny_pure hQ
    | (refine wpAny_bind (wpAny_load ho ?_)
       rw [hc,hd]
       show wpAny M A (if (["enumerate", "zip", "dict_itemiterator", "dict_reverseitemiterator", "odict_iterator", "itertools.zip_longest", "itertools.pairwise"].contains n&&vs[0]?==some (rawInt _))=true then _ else _) Q E s
       rw [if_neg (by intro h;rw [hn,Bool.false_and] at h;cases h)]
       exact wpAny_pure hQ))
def Itl(K:PySem.W.Frag)(a:Addr):It :=
 ⟨fun i H=>∃ xs x,SqL K H a xs/\xs[i]?=some x,fun i H x H'=>H'=H/\∀ xs,SqL K H a xs->xs[i]?=some x,fun i H=>∃ xs,SqL K H a xs/\xs.length<=i⟩
def Itt(K:PySem.W.Frag)(a:Addr):It :=
 ⟨fun i H=>∃ xs x,SqT K H a xs/\xs[i]?=some x,fun i H x H'=>H'=H/\∀ xs,SqT K H a xs->xs[i]?=some x,fun i H=>∃ xs,SqT K H a xs/\xs.length<=i⟩
def Itr(lo:Int)(n:Nat):It:=⟨fun i _=>i < n,fun i H x H'=>H'=H/\x = .int (lo+i),fun i _=>n<=i⟩
theorem aJz{P:Program}{w:World}{K:PySem.W.Frag}{tg:Expr}(a it:Addr):Turn P w K tg (Itl K a) [it] it (fun i h=>h.IsListIter it a i) where
 mem:=by simp
 obj:=fun i h st b hb=>by
  have e:b=it:=by simpa using hb
  subst e
  obtain ⟨o,e,c,d⟩:=st
  exact ⟨o,e,fun v z=>by rw [d] at z;cases z⟩
 keep:=fun i h h' st k=>st.at fun o e=>k it (by simp) o e
 item:=by
  intro X hP hw hK hc i pins s σ H E I hf st hg
  subst hP hw hK
  obtain ⟨xs,x,hq,hx⟩:=hg
  obtain ⟨its,rv,p,hz⟩:=I.list hq
  obtain ⟨u,hu,ru⟩:=rv.get hx
  obtain ⟨f0,f1,f2,f3,f4,f5⟩:=hf it (by simp)
  refine wpAny_pyNext_list_item st p.isList (x:=u) (by simpa using hu) fun h' st' sb=>?_
  have I1:Inv X pins σ H { s with heap:=h' }:=I.turned (t':=s.toks) (fun b o hb e=>(sb.2 b hb).trans e) f0 f1 f3 f4 f5
  obtain ⟨o,e,c,d⟩:=id st'
  exact ⟨u,rfl,aIa (s:={ s with heap:=h' }) e c d (by decide) ⟨x,H,I1,ru,⟨rfl,fun ys hy=>by rw [I.list_inj hy hq];exact hx⟩,st',fun b hb=>(hf b hb).1⟩⟩
 done:=by
  intro X hP hw hK hc i pins s σ H E I hf st hg
  subst hP hw hK
  obtain ⟨xs,hq,hx⟩:=hg
  obtain ⟨its,rv,p,hz⟩:=I.list hq
  obtain ⟨f0,f1,f2,f3,f4,f5⟩:=hf it (by simp)
  have hl:=rv.length
  exact wpAny_pyNext_list_end (I.ok.hd hc) st p.isList (by simp;omega) fun h' eb=>⟨rfl,I.turned (t':=s.toks) (fun b o hb e=>eb b o hb e) f0 f1 f3 f4 f5⟩
 self:=fun _ _ _ _ _ st h=>wpAny_pyIter_listiter st h
theorem aGm{P:Program}{w:World}{K:PySem.W.Frag}{tg:Expr}(a it:Addr):Turn P w K tg (Itt K a) [it] it (fun i h=>h.IsTupleIter it a i) where
 mem:=by simp
 obj:=fun i h st b hb=>by
  have e:b=it:=by simpa using hb
  subst e
  obtain ⟨o,e,c,d⟩:=st
  exact ⟨o,e,fun v z=>by rw [d] at z;cases z⟩
 keep:=fun i h h' st k=>st.at fun o e=>k it (by simp) o e
 item:=by
  intro X hP hw hK hc i pins s σ H E I hf st hg
  subst hP hw hK
  obtain ⟨xs,x,hq,hx⟩:=hg
  obtain ⟨its,rv,p,hz⟩:=I.tuple hq
  obtain ⟨u,hu,ru⟩:=rv.get hx
  obtain ⟨f0,f1,f2,f3,f4,f5⟩:=hf it (by simp)
  refine wpAny_pyNext_tuple_item st (show s.heap.IsTuple a its.toArray from p) (x:=u) (by simpa using hu) fun h' st' sb=>?_
  have I1:Inv X pins σ H { s with heap:=h' }:=I.turned (t':=s.toks) (fun b o hb e=>(sb.2 b hb).trans e) f0 f1 f3 f4 f5
  obtain ⟨o,e,c,d⟩:=id st'
  exact ⟨u,rfl,aIa (s:={ s with heap:=h' }) e c d (by decide) ⟨x,H,I1,ru,⟨rfl,fun ys hy=>by rw [I.tuple_inj hy hq];exact hx⟩,st',fun b hb=>(hf b hb).1⟩⟩
 done:=by
  intro X hP hw hK hc i pins s σ H E I hf st hg
  subst hP hw hK
  obtain ⟨xs,hq,hx⟩:=hg
  obtain ⟨its,rv,p,hz⟩:=I.tuple hq
  obtain ⟨f0,f1,f2,f3,f4,f5⟩:=hf it (by simp)
  have hl:=rv.length
  exact wpAny_pyNext_tuple_end (I.ok.hd hc) st (show s.heap.IsTuple a its.toArray from p) (by simp;omega) fun h' eb=>⟨rfl,I.turned (t':=s.toks) (fun b o hb e=>eb b o hb e) f0 f1 f3 f4 f5⟩
 self:=fun _ _ _ _ _ st h=>wpAny_pyIter_tupleiter st h
theorem aGn{P:Program}{w:World}{K:PySem.W.Frag}{tg:Expr}(it:Addr)(lo:Int)(n:Nat):Turn P w K tg (Itr lo n) [it] it (fun i h=>IsRangeIter h it (lo+(i:Nat) * 1) ((n:Int) - (i:Nat)) 1) where
 mem:=by simp
 obj:=fun i h st b hb=>by
  have e:b=it:=by simpa using hb
  subst e
  exact ⟨_,st,fun v z=>by
   have z':Data.fields _=Data.cell v:=z
   cases z'⟩
 keep:=fun i h h' st k=>k it (by simp) _ st
 item:=by
  intro X hP hw hK hc i pins s σ H E I hf st hg
  subst hP hw hK
  obtain ⟨f0,f1,f2,f3,f4,f5⟩:=hf it (by simp)
  have W:=Walks.range (prog:=X.prog) (w:=X.w) (I.ok.hd hc) it lo 1 n
  refine W.item i s _ _ hg st fun v h' tk hv st' kk=>?_
  obtain ⟨t,rfl⟩:=hv
  have I1:Inv X pins σ H { s with heap:=h',toks:=tk }:=I.turned (fun b o hb e=>kk b o (by simpa using hb) e) f0 f1 f3 f4 f5
  refine ⟨_,rfl,aIa (s:={ s with heap:=h',toks:=tk }) (n := "range_iterator") st' rfl rfl (by decide) ⟨.int (lo+i),H,I1,⟨t,?_⟩,⟨rfl,rfl⟩,st',fun b hb=>(hf b hb).1⟩⟩
  rw [Int.mul_one]
 done:=by
  intro X hP hw hK hc i pins s σ H E I hf st hg
  subst hP hw hK
  obtain ⟨f0,f1,f2,f3,f4,f5⟩:=hf it (by simp)
  exact wpAny_pyNext_range_end (I.ok.hd hc) st (by have:n<=i:=hg;omega) fun h' eb=>⟨rfl,I.turned (t':=s.toks) (fun b o hb e=>eb b o hb e) f0 f1 f3 f4 f5⟩
 self:=fun _ _ _ _ _ st h=>wpAny_pyIter_rangeiter st h
end L2
namespace L2
open PySem PySem.Spec PyProof.Rows
section
variable{X:Cx}{tg:Expr}
theorem aF0{pins:List (Addr × Obj)}{σ:St}{H:Hp}{s:Shared}{R:It->Hp->Prop}{E:Value->Shared->Prop}{lo hi:Int}{t u v:Tok}{tk:Nat}(I:Inv X pins σ H s)(h1 : -(2 ^ 62)<=lo)(h2:lo < 2 ^ 62)(h3 : -(2 ^ 62)<=hi)(h4:hi < 2 ^ 62)
  (q:R (Itr lo (hi - lo).toNat) H):wpAny (model X.prog X.w) X.A (pyIter (.ref s.heap.objs.size)) (PIE X pins σ tg R) E { s with heap:=s.heap.push { cls := .type "range", data := .fields #[.int lo t,.int hi u,.int 1 v] },toks:=tk }:=by
 refine wpAny_pyIter_range (IsRange.new ..) (small_one h1 h2 h3 h4) ?_
 have I1:Inv X pins σ H { s with heap:=s.heap.push { cls := .type "range", data := .fields #[.int lo t,.int hi u,.int 1 v] },toks:=tk }:=I.kept fun b o e=>Heap.get?_push_of_some _ e
 refine ⟨(s.heap.push { cls := .type "range", data := .fields #[.int lo t,.int hi u,.int 1 v] }).objs.size,[(s.heap.push { cls := .type "range", data := .fields #[.int lo t,.int hi u,.int 1 v] }).objs.size],_,_,H,rfl,
  I1.kept (t':=tk) fun b o e=>Heap.get?_push_of_some _ e,aGn _ lo (hi - lo).toNat,?_,fun b hb=>?_,q⟩
 ·have e1:lo+((0:Nat):Int) * 1=lo:=by simp
  have e2:(((hi - lo).toNat:Nat):Int) - ((0:Nat):Int)=Builtin.Range.rangeSize lo hi 1:=by rw [rangeSize_one];split<;>omega
  show IsRangeIter _ _ (lo+((0:Nat):Int) * 1) ((((hi - lo).toNat:Nat):Int) - ((0:Nat):Int)) 1
  rw [e1,e2]
  exact Heap.get?_push_size _ rfl
 ·have e:b=(s.heap.push { cls := .type "range", data := .fields #[.int lo t,.int hi u,.int 1 v] }).objs.size:=by simpa using hb
  subst e
  exact I1.fpOk (Nat.le_refl _) (I1.hok.fresh (Nat.le_refl _))
def aWt(ta:TA):TI:=fun σ H R=>ta σ H fun vs H1=>∃ j:Int,vs=[.int j] /\ -(2 ^ 62)<=j/\j < 2 ^ 62/\R (Itr 0 j.toNat) H1
def aWu(ta:TA):TI:=fun σ H R=>ta σ H fun vs H1=>∃ i j:Int,vs=[.int i,.int j]/\(-(2 ^ 62)<=i/\i < 2 ^ 62 /\ -(2 ^ 62)<=j/\j < 2 ^ 62)/\R (Itr i (j - i).toNat) H1
theorem aK0{a:Expr}{ta:TA}{p pos:Pos}(hg:Gl X "range")(hm:X.mg "range" = none)(ha:PA X [a] ta)(hs:starEach [a] X.env=[(false,eval a X.env)]:=by rfl):PI X tg (.Call (.Name "range" p) [a] [] pos) (aWt ta):=by
 intro pins s σ H R I h
 refine Call_ (xR I hg hm boot_range (PyProof.Rows.callWith_type1 (thn (ha pos pins s σ H _ I h) fun us s1 ⟨vs,H1,I1,r1,q1⟩=>?_) hs rfl))
 obtain ⟨j,e,q1,q2,q⟩:=q1
 subst e
 cases r1 with
 | cons r rr =>
  cases rr
  obtain ⟨t,rfl⟩:=r
  exact call_range_1 (aF0 I1 (by omega) (by omega) q1 q2 (by simpa using q))
theorem aK1{a b:Expr}{ta:TA}{p pos:Pos}(hg:Gl X "range")(hm:X.mg "range" = none)(ha:PA X [a,b] ta)(hs:starEach [a,b] X.env=[(false,eval a X.env),(false,eval b X.env)]:=by rfl)(hs2:starEach [b] X.env=[(false,eval b X.env)]:=by rfl) :
  PI X tg (.Call (.Name "range" p) [a,b] [] pos) (aWu ta):=by
 intro pins s σ H R I h
 refine Call_ (xR I hg hm boot_range (PyProof.Rows.callWith_type1 (thn (ha pos pins s σ H _ I h) fun us s1 ⟨vs,H1,I1,r1,q1⟩=>?_) (by rw [hs,hs2]) (by rw [hs2];rfl)))
 obtain ⟨i,j,e,⟨q1,q2,q3,q4⟩,q⟩:=q1
 subst e
 cases r1 with
 | cons r rr =>
  cases rr with
  | cons r' rr =>
   cases rr
   obtain ⟨t,rfl⟩:=r
   obtain ⟨t',rfl⟩:=r'
   exact call_range_2 (aF0 I1 q1 q2 q3 q4 q)
def bAg(wi:TI)(g:TG)(tb:TS):TS:=fun D σ H=>wi σ H fun J H1=>∃ W:Nat->Nat->St->Hp->Prop,(∃ m,W 0 m σ H1)/\∀ i m σ H,W i m σ H ->
 (J.stop i H/\D.nx σ H)\/(J.go i H/\∃ N:St->Hp->Prop,(∀ σ' H',N σ' H'->∃ m',m' < m/\W (i+1) m' σ' H')/\∀ x H',J.yld i H x H'->g x σ H' fun σ2 H2=>tb { D with nx:=N,ct:=N,bk:=D.nx } σ2 H2)
def aDk(fp:List Addr)(h:Heap):List (Addr × Obj):=fp.filterMap fun b=>(h.get? b).map fun o=>(b,o)
theorem pW{fp:List Addr}{h:Heap}{b:Addr}{o:Obj}(hb:b∈fp)(e:h.get? b=some o):(b,o)∈aDk fp h:=List.mem_filterMap.mpr ⟨b,hb,by rw [e];rfl⟩
theorem aK2{fp:List Addr}{h:Heap}{p:Addr × Obj}(hp:p∈aDk fp h):p.1∈fp/\h.get? p.1=some p.2:=by
 obtain ⟨b,hb,e⟩:=List.mem_filterMap.mp hp
 cases q:h.get? b with
 | none=>rw [q] at e;cases e
 | some o =>
  rw [q] at e
  have e':(b,o)=p:=Option.some.inj e
  subst e'
  exact ⟨hb,q⟩
theorem Inv.pinned{pins:List (Addr × Obj)}{σ:St}{H:Hp}{s:Shared}{fp:List Addr}(I:Inv X pins σ H s)(hf:∀ b∈fp,vQ X pins H b)(ho:∀ b∈fp,∃ o,s.heap.get? b=some o/\∀ v,o.data ≠ .cell v):Inv X (pins++aDk fp s.heap) σ H s :=
 I.pins_of fun p hp=>(List.mem_append.mp hp).elim (fun z=>I.pin p (List.mem_append_right _ z)) fun z=>by
  obtain ⟨hb,e⟩:=aK2 z
  obtain ⟨f0,f1,f2,_⟩:=hf p.1 hb
  obtain ⟨o,e',d⟩:=ho p.1 hb
  rw [e] at e';cases e'
  exact ⟨e,f0,f1,f2,d⟩
theorem Inv.unpinned{pins pl:List (Addr × Obj)}{σ:St}{H:Hp}{s:Shared}(I:Inv X (pins++pl) σ H s):Inv X pins σ H s:=I.pins_of fun p hp=>I.pin p (List.mem_append_right _ (List.mem_append_left _ hp))
theorem aTk{iter:Expr}{body:List Stmt}{wi:TI}{g:TG}{tb:TS}{pos:Pos}(hp:PassesOwn (model X.prog X.w) X.A X.env X.xe)(hc:X.calm=true)(hi:PI X tg iter wi)(hg:PG X tg g)(hb:PSs X body tb)
  (hs:∀ x,foldedSetIterable iter X.env x=pure x:=by intro _;rfl):PS X (.For tg iter body [] pos) (bAg wi g tb):=by
 intro pins s σ H D I h
 refine wpAny_For (thn (hi pins s σ H _ I h) fun v s1 h1=>thn h1 fun itv s2 h2=>?_) hs
 obtain ⟨it,fp,tn,J,H2,e,I2,T,st2,f2,W,⟨m0,w0⟩,turn⟩:=h2
 subst e
 have stat:∀ {H':Hp},(∀ b∈fp,H' b=none)->∀ b∈fp,vQ X pins H' b:=fun hn b hb=>⟨hn b hb,(f2 b hb).2⟩
 refine codeAny_forLoop_any (fun n s'=>∃ i σ' H',Inv X pins σ' H' s'/\tn i s'.heap/\(∀ b∈fp,H' b=none)/\W i n σ' H') ?_ m0 ⟨0,σ,H2,I2,st2,fun b hb=>(f2 b hb).1,w0⟩
 rintro n s3 ⟨i,σ3,H3,I3,st3,fr3,w3⟩
 rcases turn i n σ3 H3 w3 with ⟨stop,qn⟩ | ⟨go,N,hN,step⟩
 ·refine wpAny_passesOwn hp (thn (T.done X rfl rfl rfl hc i pins s3 σ3 H3 X.xe I3 (stat fr3) st3 stop) fun r s4 ⟨hr,I4⟩=>?_)
  subst hr
  exact wpAny_execs_nil ⟨σ3,H3,I4,qn⟩
 ·refine wpAny_passesOwn hp (thn (T.item X rfl rfl rfl hc i pins s3 σ3 H3 X.xe I3 (stat fr3) st3 go) fun r s4 ⟨u,hr,h4⟩=>?_)
  subst hr
  refine wpAny_passesOwn hp (thn h4 fun _ s5 ⟨x,H5,I5,r5,y5,st5,fr5⟩=>?_)
  have I5':=I5.pinned (stat fr5) (T.obj _ _ st5)
  refine wpAny_passesOwn hp (thn (hg _ s5 σ3 H5 x u _ I5' r5 (step x H5 y5)) fun _ s6 ⟨σ6,H6,I6,q6⟩=>?_)
  refine wpAny_passesOwn hp (thn (hb _ s6 σ6 H6 _ I6 q6) fun f s7 q7=>?_)
  have again:∀ {σ7:St} {H7:Hp},Inv X (pins++aDk fp s5.heap) σ7 H7 s7->N σ7 H7->∃ m,m < n/\∃ i σ' H',Inv X pins σ' H' s7/\tn i s7.heap/\(∀ b∈fp,H' b=none)/\W i m σ' H':=fun {σ7 H7} I7 n7=>by
   obtain ⟨m',hm,w7⟩:=hN σ7 H7 n7
   refine ⟨m',hm,i+1,σ7,H7,I7.unpinned,T.keep _ _ _ st5 fun b hb o e=>(I7.pin (b,o) (List.mem_append_right _ (List.mem_append_right _ (pW hb e)))).1,fun b hb=>?_,w7⟩
   obtain ⟨o,e,d⟩:=T.obj _ _ st5 b hb
   exact (I7.pin (b,o) (List.mem_append_right _ (List.mem_append_right _ (pW hb e)))).2.1
  cases f with
  | next=>obtain ⟨σ7,H7,I7,n7⟩:=q7;exact again I7 n7
  | cont=>obtain ⟨σ7,H7,I7,n7⟩:=q7;exact again I7 n7
  | brk=>obtain ⟨σ7,H7,I7,q7⟩:=q7;exact ⟨σ7,H7,I7.unpinned,q7⟩
  | ret v=>obtain ⟨x7,σ7,H7,I7,r7,q7⟩:=q7;exact ⟨x7,σ7,H7,I7.unpinned,r7,q7⟩
end
end L2
namespace L2
open PySem PySem.Spec PyProof.Rows
abbrev R2:=V->V->Hp->VK->Prop
def OpR(X:Cx)(f:Value->Value->Sem Value)(r:R2):Prop :=
 ∀ (pins:List (Addr × Obj)) (s:Shared) (σ:St) (H:Hp) (x y:V) (v u:Value) (Q:VK),Inv X pins σ H s->RelV x v->RelV y u->r x y H Q ->
  wpAny (model X.prog X.w) X.A (f v u) (EP X pins σ Q) X.xe s
def UnR(X:Cx)(f:Value->Sem Value)(r:V->Hp->VK->Prop):Prop :=
 ∀ (pins:List (Addr × Obj)) (s:Shared) (σ:St) (H:Hp) (x:V) (v:Value) (Q:VK),Inv X pins σ H s->RelV x v->r x H Q ->
  wpAny (model X.prog X.w) X.A (f v) (EP X pins σ Q) X.xe s
def nR(X:Cx)(f:Value)(r:List V->Hp->VK->Prop):Prop :=
 ∀ (pins:List (Addr × Obj)) (s:Shared) (σ:St) (H:Hp) (xs:List V) (us:List Value) (Q:VK),Inv X pins σ H s->Vals xs us->r xs H Q ->
  wpAny (model X.prog X.w) X.A (call f us) (EP X pins σ Q) X.xe s
def tOp(r:R2)(ta tb:TE):TE:=fun σ H Q=>ta σ H fun x H1=>tb σ H1 fun y H2=>r x y H2 Q
def tUn(r:V->Hp->VK->Prop)(ta:TE):TE:=fun σ H Q=>ta σ H fun x H1=>r x H1 Q
def rI(C:Int->Int->Prop)(g:Int->Int->V):R2:=fun x y H Q=>∃ i j,x = .int i/\y = .int j/\C i j/\Q (g i j) H
def rI0(g:Int->Int->V):R2:=fun x y H Q=>∃ i j,x = .int i/\y = .int j/\Q (g i j) H
def rU(g:Int->V):V->Hp->VK->Prop:=fun x H Q=>∃ i,x = .int i/\Q (g i) H
section
variable{X:Cx}{a b c:Expr}{ta tb tc:TE}{pos:Pos}
theorem aTl(ha:PE X a ta)(hb:PE X b tb){pins:List (Addr × Obj)}{s:Shared}{σ:St}{H:Hp}{R:V->V->Hp->Prop}(I:Inv X pins σ H s)
  (h:ta σ H fun x H1=>tb σ H1 fun y H2=>R x y H2) {Q:Value->Shared->Prop} {f:Value->Value->Sem Value}
  (hf:∀ v u s2 x y H2,Inv X pins σ H2 s2->RelV x v->RelV y u->R x y H2->wpAny (model X.prog X.w) X.A (f v u) Q X.xe s2) :
  wpAny (model X.prog X.w) X.A (eval a X.env) (fun v s₁=>wpAny (model X.prog X.w) X.A (eval b X.env) (fun u s₂=>wpAny (model X.prog X.w) X.A (f v u) Q X.xe s₂) X.xe s₁) X.xe s:=by
 refine thn (ha pins s σ H _ I h) fun v s1 ⟨x,H1,I1,r1,q1⟩=>?_
 refine thn (hb pins s1 σ H1 _ I1 q1) fun u s2 ⟨y,H2,I2,r2,q2⟩=>?_
 exact hf v u s2 x y H2 I2 r1 r2 q2
theorem aWv{op:Operator}{r:R2}(ho:OpR X (binaryOp op) r)(ha:PE X a ta)(hb:PE X b tb):PE X (.BinOp a op b pos) (tOp r ta tb):=by
 intro pins s σ H Q I h
 exact wpAny_BinOp (aTl ha hb I h fun v u s2 x y H2 I2 rx ry q=>ho pins s2 σ H2 x y v u Q I2 rx ry q)
theorem aWw{op:UnaryOp}{r:V->Hp->VK->Prop}(ho:UnR X (unaryOp op) r)(ha:PE X a ta):PE X (.UnaryOp op a pos) (tUn r ta):=by
 intro pins s σ H Q I h
 exact UnaryOp_ (thn (ha pins s σ H _ I h) fun v s1 ⟨x,H1,I1,r1,q1⟩=>ho pins s1 σ H1 x v Q I1 r1 q1)
theorem opI{f:Value->Value->Sem Value}{C:Int->Int->Prop}{g:Int->Int->Int}
  (rule:∀ (i j:Int) (t u:Tok) (s:Shared) (Q:Value->Shared->Prop) (E:Value->Shared->Prop),C i j->Q (.int (g i j) s.toks) { s with toks:=s.toks+1 }->wpAny (model X.prog X.w) X.A (f (.int i t) (.int j u)) Q E s) :
  OpR X f (rI C fun i j => .int (g i j)):=by
 intro pins s σ H x y v u Q I rx ry h
 obtain ⟨i,j,rfl,rfl,hc,q⟩:=h
 obtain ⟨t,rfl⟩:=rx
 obtain ⟨t',rfl⟩:=ry
 exact rule i j t t' s _ _ hc ⟨.int (g i j),H,I.tok _,⟨_,rfl⟩,q⟩
theorem aP9{f:Value->Value->Sem Value}{g:Int->Int->Int}
  (rule:∀ (i j:Int) (t u:Tok) (s:Shared) (Q:Value->Shared->Prop) (E:Value->Shared->Prop),Q (.int (g i j) s.toks) { s with toks:=s.toks+1 }->wpAny (model X.prog X.w) X.A (f (.int i t) (.int j u)) Q E s) :
  OpR X f (rI0 fun i j => .int (g i j)):=by
 intro pins s σ H x y v u Q I rx ry h
 obtain ⟨i,j,rfl,rfl,q⟩:=h
 obtain ⟨t,rfl⟩:=rx
 obtain ⟨t',rfl⟩:=ry
 exact rule i j t t' s _ _ ⟨.int (g i j),H,I.tok _,⟨_,rfl⟩,q⟩
theorem aPa{f:Value->Value->Sem Value}{g:Int->Int->Bool}
  (rule:∀ (i j:Int) (t u:Tok) (s:Shared) (Q:Value->Shared->Prop) (E:Value->Shared->Prop),Q (.bool (g i j)) s->wpAny (model X.prog X.w) X.A (f (.int i t) (.int j u)) Q E s) :
  OpR X f (rI0 fun i j => .bl (g i j)):=by
 intro pins s σ H x y v u Q I rx ry h
 obtain ⟨i,j,rfl,rfl,q⟩:=h
 obtain ⟨t,rfl⟩:=rx
 obtain ⟨t',rfl⟩:=ry
 exact rule i j t t' s _ _ ⟨.bl (g i j),H,I,rfl,q⟩
def bAh(i j:Int):Prop:=0 < j/\j < 1073741824
def aWx(i j:Int):Prop:=0<=j/\j<=1000000/\i.natAbs < 2 ^ 64
def aLw(i j:Int):Prop:=(-(2 ^ 64) < i/\i < 2 ^ 64)\/(-(2 ^ 64) < j/\j < 2 ^ 64)
theorem aLw.ok{i j:Int}(h:aLw i j):IntMulOk i j:=by
 rcases h with ⟨h1,h2⟩ | ⟨h1,h2⟩
 ·exact .of_left (intBits_le_64 h1 h2)
 ·exact .of_right (intBits_le_64 h1 h2)
theorem aGo(k:Nat):(0:Int)<=2 ^ k:=by
 rw [two_pow_cast]
 exact Int.natCast_nonneg _
theorem aTm:OpR X (binaryOp .Add) (rI0 fun i j => .int (i+j)):=aP9 fun _ _ _ _ _ _ _ q=>add_int q
theorem aTn:OpR X (binaryOp .Sub) (rI0 fun i j => .int (i - j)):=aP9 fun _ _ _ _ _ _ _ q=>sub_int q
theorem aTo:OpR X (binaryOp .Mult) (rI aLw fun i j => .int (i * j)):=opI fun _ _ _ _ _ _ _ hc q=>mul_int q hc.ok
theorem aPb:OpR X (binaryOp .FloorDiv) (rI bAh fun i j => .int (i / j)):=opI fun i j _ _ _ _ _ hc q=>by
 have h1:(0:Int) < j:=hc.1
 have h2:j < 1073741824:=hc.2
 exact floordiv_int (by omega) (by rw [Int.fdiv_eq_ediv_of_nonneg i (by omega)];exact q) (.inl (PyProof.noPylong_small (by omega)))
theorem aTp:OpR X (binaryOp .Mod) (rI (fun _ j=>0 < j) fun i j => .int (i % j)):=opI fun i j _ _ _ _ _ hc q=>by
 have h1:(0:Int) < j:=hc
 exact mod_int' (by omega) (by rw [Int.fmod_eq_emod_of_nonneg i (by omega)];exact q)
theorem aTq:OpR X (binaryOp .Pow) (rI aWx fun i j => .int (i ^ j.toNat)):=opI fun _ _ _ _ _ _ _ hc q=>pow_int_small hc.1 hc.2.1 hc.2.2 q
theorem aTr:OpR X (binaryOp .LShift) (rI aWx fun i j => .int (i * 2 ^ j.toNat)):=opI fun _ _ _ _ _ _ _ hc q=>lshift_int_small hc.1 hc.2.1 hc.2.2 q
theorem aTs:OpR X (binaryOp .RShift) (rI (fun _ j=>0<=j) fun i j => .int (i / 2 ^ j.toNat)):=opI fun i j _ _ _ _ _ hc q =>
 rshift_int hc (by rw [Int.fdiv_eq_ediv_of_nonneg i (aGo _)];exact q)
theorem aTt:OpR X (binaryOp .BitAnd) (rI0 fun i j => .int (Builtin.bitAnd i j)):=aP9 fun _ _ _ _ _ _ _ q=>and_int q
theorem aWy:OpR X (binaryOp .BitOr) (rI0 fun i j => .int (Builtin.bitOr i j)):=aP9 fun _ _ _ _ _ _ _ q=>or_int q
theorem unI{f:Value->Sem Value}{g:Int->Int}
  (rule:∀ (i:Int) (t:Tok) (s:Shared) (Q:Value->Shared->Prop) (E:Value->Shared->Prop),Q (.int (g i) s.toks) { s with toks:=s.toks+1 }->wpAny (model X.prog X.w) X.A (f (.int i t)) Q E s) :
  UnR X f (rU fun i => .int (g i)):=by
 intro pins s σ H x v Q I rx h
 obtain ⟨i,rfl,q⟩:=h
 obtain ⟨t,rfl⟩:=rx
 exact rule i t s _ _ ⟨.int (g i),H,I.tok _,⟨_,rfl⟩,q⟩
theorem aTu:UnR X (unaryOp .USub) (rU fun i => .int (-i)):=unI fun _ _ _ _ _ q=>neg_int q
end
section
variable{X:Cx}{a b c:Expr}{ta tb tc:TE}{pos:Pos}
theorem aGp{pins:List (Addr × Obj)}{σ:St}{H:Hp}{s:Shared}{Q:VK}{k k':Bool}(I:Inv X pins σ H s)(q:Q (.bl k) H)(e:k=k'):EP X pins σ Q (.bool k') s:=by
 subst e
 exact ⟨.bl k,H,I,rfl,q⟩
theorem aIb:OpR X (compareOp .Lt) (rI0 fun i j => .bl (decide (i < j))):=aPa fun _ _ _ _ _ _ _ q=>lt_int q
theorem aRy:OpR X (compareOp .LtE) (rI0 fun i j => .bl (decide (i<=j))):=aPa fun _ _ _ _ _ _ _ q=>le_int q
theorem aIc:OpR X (compareOp .Gt) (rI0 fun i j => .bl (decide (j < i))):=aPa fun _ _ _ _ _ _ _ q=>gt_int q
theorem aLx:OpR X (compareOp .GtE) (rI0 fun i j => .bl (decide (j<=i))):=aPa fun _ _ _ _ _ _ _ q=>ge_int q
theorem aK3:OpR X (compareOp .In) (fun x y H Q=>∃ i j,x = .str i/\y = .str j/\Q (.bl (!(Builtin.Str.occurrences j i 0 j.length 1).isEmpty)) H):=by
 intro pins s σ H x y v u Q I rx ry h
 obtain ⟨i,j,rfl,rfl,q⟩:=h
 obtain ⟨t,rfl⟩:=rx
 obtain ⟨t',rfl⟩:=ry
 exact in_str (aGp I q rfl)
theorem aPc:OpR X (compareOp .IsNot) (fun x y H Q=>y = .non/\Q (.bl (!decide (x = .non))) H):=by
 intro pins s σ H x y v u Q I rx ry h
 obtain ⟨rfl,q⟩:=h
 cases ry
 refine isnot_none_gen (aGp I q ?_)
 cases x<;>first
  | (cases rx;rfl)
  | (obtain ⟨t,rfl⟩:=rx;rfl)
theorem aDl:OpR X (compareOp .NotIn) (fun x y H Q=>∃ i j,x = .str i/\y = .str j/\Q (.bl (!(!(Builtin.Str.occurrences j i 0 j.length 1).isEmpty))) H):=by
 intro pins s σ H x y v u Q I rx ry h
 obtain ⟨i,j,rfl,rfl,q⟩:=h
 obtain ⟨t,rfl⟩:=rx
 obtain ⟨t',rfl⟩:=ry
 exact notIn_str (aGp I q rfl)
theorem OpR.or{f:Value->Value->Sem Value}{r r':R2}(h:OpR X f r)(h':OpR X f r'):OpR X f (fun x y H Q=>r x y H Q\/r' x y H Q):=by
 intro pins s σ H x y v u Q I rx ry q
 rcases q with q | q
 ·exact h pins s σ H x y v u Q I rx ry q
 ·exact h' pins s σ H x y v u Q I rx ry q
theorem bZ(b:Expr){op:CmpOp}(h:op ≠ .In:=by decide)(h2:op ≠ .NotIn:=by decide):behindInMarks op b=false:=by
 have e1:(op==CmpOp.In)=false:=by cases op<;>first | rfl | exact absurd rfl h
 have e2:(op==CmpOp.NotIn)=false:=by cases op<;>first | rfl | exact absurd rfl h2
 cases b<;>simp [behindInMarks,e1,e2]
theorem aPd{op:CmpOp}{r:R2}(ho:OpR X (compareOp op) r)(ha:PE X a ta)(hb:PE X b tb)(hm:behindInMarks op b=false):PE X (.Compare a [op] [b] pos) (tOp r ta tb):=by
 intro pins s σ H Q I h
 exact wpAny_Compare1 (aTl ha hb I h fun v u s2 x y H2 I2 rx ry q=>ho pins s2 σ H2 x y v u Q I2 rx ry q) hm
def aWz(t:TE):TT:=fun σ H Q=>t σ H fun x H'=>∃ k,x = .bl k/\Q k H'
theorem aPe{op:CmpOp}{r:R2}(ho:OpR X (compareOp op) r)(ha:PE X a ta)(hb:PE X b tb)(hm:behindInMarks op b=false):PT X (.Compare a [op] [b] pos) (aWz (tOp r ta tb)):=by
 intro pins s σ H Q I h
 refine wpAny_isTrue_Compare1 (thn (ha pins s σ H _ I h) fun v s1 ⟨x,H1,I1,r1,q1⟩=>thn (hb pins s1 σ H1 _ I1 q1) fun u s2 ⟨y,H2,I2,r2,q2⟩ =>
  thn (ho pins s2 σ H2 x y v u _ I2 r1 r2 q2) fun c s3 ⟨z,H3,I3,r3,k,e,q3⟩=>?_) hm
 subst e
 cases r3
 exact wpAny_truthy_bool ⟨H3,I3,q3⟩
theorem xT:(sizeLine:Nat) < 2 ^ 63:=by rw [sizeLine_eq];decide
theorem aGq:OpR X (binaryOp .Add) (fun x y H Q=>∃ i j,x = .str i/\y = .str j/\i.length+j.length<=sizeLine/\Q (.str (i++j)) H):=by
 intro pins s σ H x y v u Q I rx ry h
 obtain ⟨i,j,rfl,rfl,hz,q⟩:=h
 obtain ⟨t,rfl⟩:=rx
 obtain ⟨t',rfl⟩:=ry
 exact add_str (fun t' tk=>⟨.str (i++j),H,I.tok _,⟨_,rfl⟩,q⟩) hz
theorem vals1{x:V}{us:List Value}(r:Vals [x] us):∃ u,us=[u]/\RelV x u:=by
 cases r with
 | cons r1 r2=>cases r2;exact ⟨_,rfl,r1⟩
end
end L2
namespace L2
open PySem PySem.Spec PyProof.Rows
structure ObjM(h:Heap)(x dx C:Addr)(mA:Str->Option Value):Prop where
 obj:h.get? x=some (PySem.W.instObj C dx)
 ns:h.Ns1 dx mA
 ne:dx≠x
theorem aK4{h:Heap}{dx:Addr}{mA:Str->Option Value}(n:h.Ns1 dx mA):∃ od,h.get? dx=some od/\∀ name,PySem.W.lookIn name od=some (mA name):=by
 obtain ⟨o,es,ep,ho,hd,hk,_,hm⟩:=n
 refine ⟨o,ho,fun name=>?_⟩
 have e:=hm name
 unfold nsFind findBy at e
 rw [<-Array.find?_toList] at e
 unfold PySem.W.lookIn
 rw [hd]
 dsimp only
 split
 ·rename_i y q
  rw [q] at e
  exact congrArg some e
 ·rename_i q
  rw [q] at e
  have a:es.toList.any (·.refKey)=false:=by
   rw [List.any_eq_false]
   intro y hy
   obtain ⟨z,t,hkey⟩:=hk y (Array.mem_toList_iff.mp hy)
   simp [DictEntry.refKey,hkey]
  have a':¬ es.toList.any (·.refKey)=true:=by rw [a];exact Bool.false_ne_true
  rw [if_neg a']
  exact congrArg some e
theorem ObjM.look{h:Heap}{x dx C:Addr}{mA:Str->Option Value}(I:ObjM h x dx C mA):∃ od,PySem.W.InstAt h x (PySem.W.instObj C dx) C (some od)/\∀ name,PySem.W.lookIn name od=some (mA name) :=
 let ⟨od,ho,hl⟩:=aK4 I.ns
 ⟨od,⟨I.obj,rfl,rfl,ho⟩,hl⟩
section
variable{prog:Program}{w:World}{A:Around}{E:Value->Shared->Prop}{s:Shared}{K:PySem.W.Frag}{x dx C f:Addr}{mA:Str->Option Value}{name:Str}{v:Value}
theorem aPf{expr:Bool}{Q:Value->Shared->Prop}(X:K.In s.heap)(I:ObjM s.heap x dx C mA)(hg:PySem.W.plainGet K C name=true)(hh:PySem.W.hasDictIn K C=true)
  (ha:PySem.W.findIn K (.ref C) name=some none) (hv:mA name=some v) (hv':PySem.W.handedIn v=true) (h:Q v { s with toks:=s.toks+1 }) :
  wpAny (model prog w) A (getAttr (.ref x) name expr) Q E s:=by
 obtain ⟨od,J,hl⟩:=I.look
 exact PySem.W.get_value X J (PySem.W.plainGet_of hg).1 (PySem.W.findObj_own hh ha rfl (by rw [hl,hv])) hv' h
theorem aLy{pl:Sem Bool}{Q:Value × List Value->Shared->Prop}(X:K.In s.heap)(I:ObjM s.heap x dx C mA)(hg:PySem.W.plainGet K C name=true)
  (hf:PySem.W.findIn K (.ref C) name=some (some (.ref f))) (ht:PySem.W.isFn K (.ref f)=true) (hv:mA name=none) (h:Q (.ref f,[.ref x]) s) :
  wpAny (model prog w) A (getMethod (.ref x) name pl) Q E s:=by
 obtain ⟨od,J,hl⟩:=I.look
 exact PySem.W.method_fn X J (PySem.W.plainGet_of hg).1 (PySem.W.plainGet_of hg).2 hf (beq_iff_eq.mp ht) (by show (PySem.W.lookIn name od).map (·.isSome)=some false;rw [hl,hv];rfl) h
theorem aPg{ns:List Str}{Q:Unit->Shared->Prop}(X:K.In s.heap)(I:ObjM s.heap x dx C mA)
  (hs:PySem.W.findIn K (.ref C) "__setattr__" = some (some (.builtin "object.__setattr__"))) (hp:PySem.W.plainOver K C=true) (ht:PySem.W.takerIn K C name=some none) (hh:PySem.W.hasDictIn K C=true)
  (hw:PySem.Within mA ns) (hsz:ns.length<=sizeLine)
  (h:∀ h',ObjM h' x dx C (fun y=>if y=name then some v else mA y)->Heap.SameBut dx s.heap h'->Q () { s with heap:=h',toks:=s.toks+2 }) :
  wpAny (model prog w) A (setAttr (.ref x) name v) Q E s:=by
 obtain ⟨od,J,hl⟩:=I.look
 refine PySem.W.set_plain X J hs (PySem.W.osa_open (s:={ s with toks:=s.toks+1 }) (r:=none) X J hp ht fun b=>?_)
 obtain ⟨cd,hc,hd'⟩:=PySem.W.any_some hh
 have hx:s.heap.get? x=some ⟨.ref C,some dx,.plain, #[]⟩:=I.obj
 refine wpAny_bind (wpAny_pure (wpAny_bind (wpAny_bind (wpAny_loadPart hx (wpAny_bind (PySem.W.Looks.here (s:={ s with toks:=s.toks+1 }) (PySem.W.looks_clsIn X hc) ?_))))))
 rw [hd']
 refine wpAny_pure (a:=some dx) (wpAny_bind (wpAny_pure (wpAny_bind ?_)))
 refine wpAny_nsSet1 (s:={ s with toks:=s.toks+1 }) I.ns fun h' hn2 hs2=>?_
 obtain ⟨oD,esD,epD,hoD,hdD,hcD⟩:=hn2.count (PySem.Within.cons name v hw)
 refine wpAny_bind (wpAny_lookBehind hoD (by rw [hdD];exact pastItsLine_dict (Nat.le_trans hcD (by rw [List.length_cons];omega))) ?_)
 exact wpAny_pure (h _ ⟨(hs2.2 _ (Ne.symm I.ne)).trans I.obj,hn2,I.ne⟩ hs2)
theorem aLz{R:Result->Shared->Prop}{vs:List Value}{kw:List (Str × Value)}(X:K.In s.heap)(hm:PySem.W.makesIn K C=true)
  (hi:PySem.W.findIn K (.ref C) "__init__" = some (some (.ref f))) (hf:PySem.W.typeIn K (.ref f)=some (.type "function"))
  (h:codeAny (model prog w) (A.under (.builtin "type.__call__" ⟨.ref C :: vs,kw⟩)) (.call (.ref f) ⟨.ref (s.heap.objs.size+1) :: vs,kw⟩) (PySem.W.InitBack (s.heap.objs.size+1) R)
   { s with heap:=(s.heap.push PySem.W.emptyDict).push (PySem.W.instObj C s.heap.objs.size) }) :
  codeAny (model prog w) A (.call (.ref C) ⟨vs,kw⟩) R s:=by
 obtain ⟨hh,g,d,t,os⟩:=s
 exact PySem.W.make_core (PySem.W.makes_of X hm) (PySem.W.looks_findIn X hi) (fun self=>PySem.W.bind_fn X self hf) (.inl rfl) h
end
def rF(f:Str)(v:V):List (Str × V)->List (Str × V)
 | []=>[(f,v)]
 | (g,x) :: r=>if g=f then (g,v) :: r else (g,x) :: rF f v r
theorem zE(f g:Str)(v:V):∀ fs:List (Str × V),(rF f v fs).lookup g=if g=f then some v else fs.lookup g
 | []=>by
  show List.lookup g [(f,v)]=_
  by_cases h:g=f
  ·have hb:(g==f)=true:=beq_iff_eq.mpr h
   simp only [List.lookup,hb,if_pos h]
  ·have hb:(g==f)=false:=beq_eq_false_iff_ne.mpr h
   simp only [List.lookup,hb,if_neg h]
 | (k,x) :: r=>by
  have ih:=zE f g v r
  rw [show rF f v ((k,x) :: r)=(if k=f then (k,v) :: r else (k,x) :: rF f v r) from rfl]
  by_cases hk:k=f
  ·rw [if_pos hk]
   by_cases h:g=k
   ·have hb:(g==k)=true:=beq_iff_eq.mpr h
    simp only [List.lookup,hb,if_pos (h.trans hk)]
   ·have hb:(g==k)=false:=beq_eq_false_iff_ne.mpr h
    simp only [List.lookup,hb,if_neg (fun e:g=f=>h (e.trans hk.symm))]
  ·rw [if_neg hk]
   by_cases h:g=k
   ·have hb:(g==k)=true:=beq_iff_eq.mpr h
    simp only [List.lookup,hb,if_neg (fun e:g=f=>hk (h.symm.trans e))]
   ·have hb:(g==k)=false:=beq_eq_false_iff_ne.mpr h
    simp only [List.lookup,hb]
    exact ih
theorem xU(f:Str)(v:V):∀ fs:List (Str × V),f∈(rF f v fs).map (·.1)/\∀ g,g∈fs.map (·.1)->g∈(rF f v fs).map (·.1)
 | []=>⟨by simp [rF],fun g h=>by simp at h⟩
 | (k,x) :: r=>by
  obtain ⟨i1,i2⟩:=xU f v r
  rw [show rF f v ((k,x) :: r)=(if k=f then (k,v) :: r else (k,x) :: rF f v r) from rfl]
  by_cases hk:k=f
  ·rw [if_pos hk]
   subst hk
   exact ⟨by simp,fun g h=>by simpa using h⟩
  ·rw [if_neg hk]
   refine ⟨?_,fun g h=>?_⟩
   ·rw [List.map_cons]
    exact List.mem_cons_of_mem _ i1
   ·rw [List.map_cons] at h ⊢
    rcases List.mem_cons.mp h with e | e
    ·exact List.mem_cons.mpr (.inl e)
    ·exact List.mem_cons_of_mem _ (i2 g e)
theorem zF(f:Str)(v:V):∀ fs:List (Str × V),(rF f v fs).length<=fs.length+1
 | []=>by simp [rF]
 | (k,x) :: r=>by
  have ih:=zF f v r
  rw [show rF f v ((k,x) :: r)=(if k=f then (k,v) :: r else (k,x) :: rF f v r) from rfl]
  by_cases hk:k=f
  ·rw [if_pos hk,List.length_cons,List.length_cons];omega
  ·rw [if_neg hk,List.length_cons,List.length_cons];omega
theorem pU.some_of{v:V}{o:Option Value}(r:pU (some v) o):∃ u,o=some u/\RelV v u:=by
 cases o with
 | none=>exact (show False from r).elim
 | some u=>exact ⟨u,rfl,r⟩
theorem pU.none_of{o:Option Value}(r:pU none o):o=none:=by
 cases o with
 | none=>rfl
 | some u=>exact (show False from r).elim
theorem aK5{v:V}{u:Value}(r:RelV v u):PySem.W.handedIn u=true:=by
 cases v with
 | non=>cases (show u=Value.none from r);rfl
 | bl b=>cases (show u=Value.bool b from r);rfl
 | int i=>obtain ⟨t,e⟩:=(show ∃ t,u=Value.int i t from r);cases e;rfl
 | str x=>obtain ⟨t,e⟩:=(show ∃ t,u=Value.str x t from r);cases e;rfl
 | byt b=>obtain ⟨t,e⟩:=(show ∃ t,u=Value.bytes b t from r);cases e;rfl
 | flt b=>obtain ⟨t,e⟩:=(show ∃ t,u=Value.float b t from r);cases e;rfl
 | ref a=>cases (show u=Value.ref a from r);rfl
 | ty n=>cases (show u=Value.type n from r);rfl
section
variable{P:Program}{w:World}{H H':Hp}{h h':Heap}{a C dx:Addr}{fs fs':List (Str × V)}
theorem aDm(hok:HOk P w H h)(e:H a=some (.ins C dx fs)):∃ mA,ObjM h a dx C mA/\(∀ f,pU (fs.lookup f) (mA f))/\PySem.Within mA (fs.map (·.1))/\fs.length<=1000/\H dx=some (.own a):=by
 obtain ⟨d,z,ne,ob,mA,n,r,q⟩:=(show iD P w H h a (.ins C dx fs) from hok a _ e)
 exact ⟨mA,⟨ob,n,ne⟩,r,q,z,d⟩
end
structure Cls(K:PySem.W.Frag)(C:Addr):Prop where
 pg:PySem.W.plainGet K C Str.empty=true
 hd:PySem.W.hasDictIn K C=true
 po:PySem.W.plainOver K C=true
 sa:PySem.W.findIn K (.ref C) "__setattr__" = some (some (.builtin "object.__setattr__"))
theorem Cls.get{K:PySem.W.Frag}{C:Addr}(c:Cls K C)(f:Str):PySem.W.plainGet K C f=true:=c.pg
def eX(K:PySem.W.Frag)(C:Addr)(f:Str):Prop:=PySem.W.findIn K (.ref C) f=some none
theorem eX.taker{K:PySem.W.Frag}{C:Addr}{f:Str}(n:eX K C f):PySem.W.takerIn K C f=some none:=by
 unfold PySem.W.takerIn
 rw [show PySem.W.findIn K (.ref C) f=some none from n]
 rfl
structure Meth(K:PySem.W.Frag)(C:Addr)(m:Str)(f:Addr):Prop where
 at_:PySem.W.findIn K (.ref C) m=some (some (.ref f))
 fn:PySem.W.isFn K (.ref f)=true
 kp:PySem.W.keepIn K (.ref f)=true
section
variable{X:Cx}{pins:List (Addr × Obj)}{σ:St}{H:Hp}{s:Shared}{a C dx:Addr}{fs:List (Str × V)}{f:Str}{v:V}{A:Around}{E:Value->Shared->Prop}
theorem aGr{b:Bool}{Q:Value->Shared->Prop}(I:Inv X pins σ H s)(e:H a=some (.ins C dx fs))(c:Cls X.K C)(n:eX X.K C f)(l:fs.lookup f=some v)
  (h:∀ u s',Inv X pins σ H s'->RelV v u->Q u s'):wpAny (model X.prog X.w) A (getAttr (.ref a) f b) Q E s:=by
 obtain ⟨mA,O,r,_,_,_⟩:=aDm I.hok e
 obtain ⟨u,hu,ru⟩:=pU.some_of (v:=v) (o:=mA f) (by rw [<-l];exact r f)
 exact aPf I.kIn O (c.get f) c.hd n hu (aK5 ru) (h u _ (I.tok _) ru)
theorem aGs{m:Str}{g:Addr}{pl:Sem Bool}{Q:Value × List Value->Shared->Prop}(I:Inv X pins σ H s)(e:H a=some (.ins C dx fs))(c:Cls X.K C)(k:Meth X.K C m g)(l:fs.lookup m=none)
  (h:Q (.ref g,[.ref a]) s):wpAny (model X.prog X.w) A (getMethod (.ref a) m pl) Q E s:=by
 obtain ⟨mA,O,r,_,_,_⟩:=aDm I.hok e
 have hn:mA m=none:=pU.none_of (by rw [<-l];exact r m)
 exact aLy I.kIn O (c.get m) k.at_ k.fn hn h
theorem aGt{y:V}{u:Value}{Q:Unit->Shared->Prop}(I:Inv X pins σ H s)(e:H a=some (.ins C dx fs))(c:Cls X.K C)(n:eX X.K C f)(hl:fs.length < 1000)(ry:RelV y u)
  (h:∀ s',Inv X pins σ (upd H a (.ins C dx (rF f y fs))) s'->Q () s'):wpAny (model X.prog X.w) A (setAttr (.ref a) f u) Q E s:=by
 obtain ⟨mA,O,r,wi,_,ho⟩:=aDm I.hok e
 have hz:(fs.map (·.1)).length<=sizeLine:=by rw [List.length_map,sizeLine_eq];omega
 refine aPg I.kIn O c.sa c.po n.taker c.hd wi hz fun h' O' sb=>h _ ?_
 have hd:∃ o,h'.get? dx=some o:=let ⟨o,_,_,e',_⟩:=O'.ns;⟨o,e'⟩
 refine I.write (x:=a) (e:=dx) (by rw [e];exact True.intro) (.inr ho) (fun b q hb z=>(sb.2 b hb).trans z) hd ?_
 refine ⟨by rw [bT O.ne];exact ho,?_,O.ne,O'.obj,_,O'.ns,fun g=>?_,fun g hg=>?_⟩
 ·have:=zF f y fs;omega
 ·show pU ((rF f y fs).lookup g) (if g=f then some u else mA g)
  rw [zE]
  by_cases q:g=f
  ·rw [if_pos q,if_pos q];exact ry
  ·rw [if_neg q,if_neg q];exact r g
 ·by_cases q:g=f
  ·rw [q];exact (xU f y fs).1
  ·refine (xU f y fs).2 g (wi g fun z=>hg ?_)
   show (if g=f then some u else mA g)=none
   rw [if_neg q];exact z
theorem Inv.made(I:Inv X pins σ H s):Inv X pins σ (upd (upd H s.heap.objs.size (.own (s.heap.objs.size+1))) (s.heap.objs.size+1) (.ins C s.heap.objs.size []))
  { s with heap:=(s.heap.push PySem.W.emptyDict).push (PySem.W.instObj C s.heap.objs.size) }:=by
 have e1:(s.heap.push PySem.W.emptyDict).get? s.heap.objs.size=some PySem.W.emptyDict:=Heap.get?_push_size s.heap rfl
 have e2:((s.heap.push PySem.W.emptyDict).push (PySem.W.instObj C s.heap.objs.size)).get? (s.heap.objs.size+1)=some (PySem.W.instObj C s.heap.objs.size):=by
  have:=Heap.get?_push_size (s.heap.push PySem.W.emptyDict) (o:=PySem.W.instObj C s.heap.objs.size) rfl
  rwa [Heap.size_push] at this
 have e3:(s.heap.push PySem.W.emptyDict).Ns s.heap.objs.size (fun _=>none):=⟨PySem.W.emptyDict, #[],_,e1,rfl,(fun e he=>absurd he (by simp)),fun _=>rfl⟩
 have I1:=I.laid (a:=s.heap.objs.size) (o := .own (s.heap.objs.size+1)) (h':=s.heap.push PySem.W.emptyDict) (t':=s.toks) (fun b u q=>Heap.get?_push_of_some _ q) (Nat.le_refl _) ⟨_,e1⟩
 refine I1.laid (a:=s.heap.objs.size+1) (o := .ins C s.heap.objs.size []) (t':=s.toks) (fun b u q=>Heap.get?_push_of_some _ q) (Nat.le_of_eq (Heap.size_push _ _)) ?_
 have ne:s.heap.objs.size≠s.heap.objs.size+1:=Nat.ne_of_lt (Nat.lt_succ_self _)
 refine ⟨by rw [bT ne,cL],Nat.zero_le _,ne,e2,fun _=>none,(Heap.Ns1.of_empty e3).at fun o q=>Heap.get?_push_of_some _ q,fun _=>True.intro,fun y hy=>absurd rfl hy⟩
theorem aPh{prog:Program}{w:World}{env:Env}{e:Expr}{f:Str}{pos:Pos}{s:Shared}{Q:Value->Shared->Prop}(hb:attributeBase e f env (eval e env)=eval e env)
  (h:wpAny (model prog w) A (eval e env) (fun o s₁=>wpAny (model prog w) A (getAttr o f true) Q E s₁) E s):wpAny (model prog w) A (eval (.Attribute e f pos) env) Q E s :=
 Attribute_any_ h (by rw [arm_eval_Attribute,hb])
end
def bAi(K:PySem.W.Frag)(ta:TE)(f:Str):TE:=fun σ H Q=>ta σ H fun x H1=>∃ a C dx fs v,x = .ref a/\H1 a=some (.ins C dx fs)/\Cls K C/\eX K C f/\fs.lookup f=some v/\Q v H1
def bAj(K:PySem.W.Frag)(ta tv:TE)(f:Str):TS:=fun D σ H=>tv σ H fun y H1=>ta σ H1 fun x H2=>∃ a C dx fs,x = .ref a/\H2 a=some (.ins C dx fs)/\Cls K C/\eX K C f/\fs.length < 1000 /\
 D.nx σ (upd H2 a (.ins C dx (rF f y fs)))
section
variable{X:Cx}{o e value:Expr}{f:Str}{pos pos' tpos:Pos}{ta tv:TE}
theorem aTv(he:PE X e ta)(hb:attributeBase e f X.env (eval e X.env)=eval e X.env):PE X (.Attribute e f pos) (bAi X.K ta f):=by
 intro pins s σ H Q I h
 refine aPh hb (thn (he pins s σ H _ I h) fun u s1 ⟨x,H1,I1,rx,a,C,dx,fs,v,ex,ea,c,n,l,q⟩=>?_)
 subst ex
 obtain rfl:u=Value.ref a:=rx
 exact aGr I1 ea c n l fun u' s2 I2 ru=>⟨v,H1,I2,ru,q⟩
theorem aTw(ha:PE X o ta)(hv:PE X value tv)(hs:swapsWith value (some (.Attribute o f pos')) pos.line X.env=pure false):PS X (.Assign [.Attribute o f pos'] value pos) (bAj X.K ta tv f):=by
 intro pins s σ H D I h
 refine plainObj_wpAny_Assign_Attribute (thn (hv pins s σ H _ I h) fun u s1 ⟨y,H1,I1,ry,q⟩=>thn (ha pins s1 σ H1 _ I1 q) fun ov s2 ⟨x,H2,I2,rx,a,C,dx,fs,ex,ea,c,n,l,q2⟩=>?_) hs
 subst ex
 obtain rfl:ov=Value.ref a:=rx
 exact aGt I2 ea c n l ry fun s3 I3=>⟨σ,_,I3,q2⟩
end
section
variable{X:Cx}{pins:List (Addr × Obj)}{σ:St}{H:Hp}{s:Shared}{A:Around}{E:Value->Shared->Prop}{Q:Value->Shared->Prop}{c:Value}{b:Bool}
inductive TyOf (K:PySem.W.Frag) (H:Hp):V->Value->Prop where
 | non:TyOf K H .non (.type "NoneType")
 | bl (x:Bool):TyOf K H (.bl x) (.type "bool")
 | int (i:Int):TyOf K H (.int i) (.type "int")
 | str (x:Str):TyOf K H (.str x) (.type "str")
 | flt (x:UInt64):TyOf K H (.flt x) (.type "float")
 | lst {a:Addr} {xs:List V} (e:H a=some (.lst xs)):TyOf K H (.ref a) (.type "list")
 | frz {a:Addr} {o:Obj} {xs:List V} (e:H a=some (.frz o (.lst xs))):TyOf K H (.ref a) (.type "list")
 | tup {a:Addr} {xs:List V} (e:H a=some (.tup xs)):TyOf K H (.ref a) (.type "tuple")
 | dK {a:Addr} {kvs:List (Key × V)} (e:H a=some (.dK kvs)):TyOf K H (.ref a) (.type "dict")
 | dT {a:Addr} {kvs:List (List Key × V)} (e:H a=some (.dT kvs)):TyOf K H (.ref a) (.type "dict")
 | ins {a C dx:Addr} {fs:List (Str × V)} (e:H a=some (.ins C dx fs)) (cl:Cls K C) (ha:PySem.W.findIn K (.ref C) "__class__" = some (some (.builtin "object.__class__")))
   (hn:PySem.W.specialIn K (.builtin "object.__class__") "__get__" = some (some (.builtin "getset_descriptor.__get__"))) (htk:PySem.W.takesIn K (.builtin "object.__class__")=some true)
   (hm:PySem.W.mroIn K C (.type "object")=some true):TyOf K H (.ref a) (.ref C)
end
end L2
namespace L2
open PySem PySem.Spec PyProof.Rows
structure Room(k:Nat)(A:Around):Prop where
 hd:A.handled=none
 dp:A.depth+3 * k+5 < recursionLimit
 un:A.units+16 * k+200 < cLine
theorem Room.mono{j k:Nat}{A:Around}(r:Room k A)(h:j<=k):Room j A:=⟨r.hd,by have:=r.dp;omega,by have:=r.un;omega⟩
theorem Room.deeper{k:Nat}{A:Around}(r:Room (k+1) A)(env:Env):Room k (A.deeper env) :=
 ⟨r.hd,by have:=r.dp;show A.depth+1+3 * k+5 < _;omega,by have:=r.un;show A.units+3+16 * k+200 < _;omega⟩
theorem aGu{A:Around}{C:Addr}{us:List Value}{kw:List (Str × Value)}:(A.under (.builtin "type.__call__" ⟨.ref C :: us,kw⟩)).depth=A.depth+1:=by
 first | rfl | simp [Around.under,Code.weight,Code.isCreation,Code.isGuard,Code.isCaller,Code.frames,Code.isFrame,guardIds]
theorem aGv{A:Around}{C:Addr}{us:List Value}{kw:List (Str × Value)}:(A.under (.builtin "type.__call__" ⟨.ref C :: us,kw⟩)).units=A.units+1:=by
 first | rfl | simp [Around.under,Code.cUnits,Code.frames,Code.isFrame]
theorem Room.make{k:Nat}{A:Around}(r:Room (k+1) A)(C:Addr)(us:List Value)(kw:List (Str × Value)):Room k (A.under (.builtin "type.__call__" ⟨.ref C :: us,kw⟩)) :=
 ⟨r.hd,by have:=r.dp;rw [aGu];omega,by have:=r.un;rw [aGv];omega⟩
theorem Room.depth{k:Nat}{A:Around}(r:Room k A):A.depth < recursionLimit:=by have:=r.dp;omega
theorem Room.units{k:Nat}{A:Around}(r:Room k A):A.units+64 < cLine:=by have:=r.un;omega
def bAk:TA:=fun _ H Q=>Q [] H
def aX0(ta:TE)(tr:TA):TA:=fun σ H Q=>ta σ H fun x H1=>tr σ H1 fun xs H2=>Q (x :: xs) H2
section
variable{X:Cx}{e:Expr}{es:List Expr}{te:TE}{t:TA}{pos:Pos}
theorem mR:PA X [] bAk:=fun _ _ _ _ H Q I h=>Calls.spliced_nil ⟨[],H,I,.nil,h⟩
theorem fW(ha:PE X e te)(hr:PA X es t)(hs:starEach (e :: es) X.env=(false,eval e X.env) :: starEach es X.env:=by rfl):PA X (e :: es) (aX0 te t):=by
 intro pos pins s σ H Q I h
 rw [hs]
 show wpAny _ _ (spliced ((false,eval e X.env) :: backTo pos (starEach es X.env))) _ _ s
 refine Calls.spliced_cons (thn (ha pins s σ H _ I h) fun u s1 ⟨x,H1,I1,r1,q1⟩=>?_)
 exact thn (hr pos pins s1 σ H1 _ I1 q1) fun us s2 ⟨xs,H2,I2,r2,q2⟩=>⟨x :: xs,H2,I2,.cons r1 r2,q2⟩
def bAl(t:TA):TE:=fun σ H Q=>t σ H fun xs H1=>xs.length<=sizeLine/\∀ p,H1 p=none->Q (.ref p) (upd H1 p (.tup xs))
def bAm(t:TA):TE:=fun σ H Q=>t σ H fun xs H1=>xs.length<=sizeLine/\∀ p,H1 p=none->Q (.ref p) (upd H1 p (.lst xs))
theorem aTx{x1}(h:PA X es t):PE X (.Tuple es x1 pos) (bAl t):=by
 intro pins s σ H Q I hq
 refine wpAny_Tuple_spliced (thn (h pos pins s σ H _ I hq) fun us s1 ⟨xs,H1,I1,r,z,q⟩=>⟨by rw [<-r.length];exact z,?_⟩)
 have hf:H1 s1.heap.objs.size=none:=I1.hok.fresh (Nat.le_refl _)
 refine ⟨.ref s1.heap.objs.size,upd H1 s1.heap.objs.size (.tup xs),I1.laid (t':=s1.toks) (fun b u e=>Heap.get?_push_of_some _ e) (Nat.le_refl _) ?_,rfl,q _ hf⟩
 exact ⟨z,us,r,⟨_,Heap.get?_push_size _ rfl,rfl,_,rfl⟩⟩
theorem aM0(h:PA X es t):PE X (.List es pos) (bAm t):=by
 intro pins s σ H Q I hq
 refine wpAny_List_spliced (thn (h pos pins s σ H _ I hq) fun us s1 ⟨xs,H1,I1,r,z,q⟩=>⟨by rw [<-r.length];exact z,?_⟩)
 have hf:H1 s1.heap.objs.size=none:=I1.hok.fresh (Nat.le_refl _)
 refine ⟨.ref s1.heap.objs.size,upd H1 s1.heap.objs.size (.lst xs),I1.laid (t':=s1.toks) (fun b u e=>Heap.get?_push_of_some _ e) (Nat.le_refl _) ?_,rfl,q _ hf⟩
 exact ⟨z,us,0,r,Heap.get?_push_size _ rfl⟩
end
abbrev Sp:=List V->Hp->VK->XK->Prop
abbrev CXT:=List Env->Hp->Shared->XK->Value->Shared->Prop
structure Env0(P:Program)(w:World)(K:PySem.W.Frag)(mg:Str->Option Value)(base:Heap)(A:Around)(outer:List Env)(s:Shared)(H:Hp):Prop where
 frames:A.frames=some outer
 mod:Mod K mg base
 bs:∀ b o,base.get? b=some o->s.heap.get? b=some o/\H b=none
 bsz:base.objs.size<=s.heap.objs.size
 funs:s.heap.FunFrames base outer
 frf:∀ b∈frs outer,H b=none
 hok:HOk P w H s.heap
 bare:AllBare s.gens
def CE(outer:List Env)(P:Program)(w:World)(H:Hp)(s:Shared)(Q:VK)(u:Value)(s':Shared):Prop :=
 ∃ v H',s'.os=s.os/\AllBare s'.gens/\Un (frs outer) [] H H' s.heap s'.heap/\HOk P w H' s'.heap/\RelV v u/\Q v H'
def CR(CX:CXT)(outer:List Env)(P:Program)(w:World)(H:Hp)(s:Shared)(Q:VK)(E:XK)(r:Result)(s':Shared):Prop :=
 match r with
 | .ok (.ret u)=>CE outer P w H s Q u s'
 | .ok _=>False
 | .error e=>CX outer H s E e s'
structure FnOk(P:Program)(w:World)(K:PySem.W.Frag)(mg:Str->Option Value)(base:Heap)(CX:CXT)(k:Nat)(f:Addr)(fd:FuncData)(ps:List Str)(sp:Sp):Prop where
 len:∀ vs H Q E,sp vs H Q E->vs.length=ps.length
 run:∀ (A:Around) (outer:List Env) (s:Shared) (H:Hp) (args:Args) (us:List Value) (vs:List V) (Q:VK) (E:XK),Room k A->Env0 P w K mg base A outer s H->BindsTo s fd args (ps.zip us)->Vals vs us->sp vs H Q E ->
  codeAny (model P w) A (.call (.ref f) args) (CR CX outer P w H s Q E) s
theorem Env0.make{P:Program}{w:World}{K:PySem.W.Frag}{mg:Str->Option Value}{base:Heap}{A:Around}{outer:List Env}{s:Shared}{H:Hp}(e:Env0 P w K mg base A outer s H)(C:Addr)(us:List Value)(kw:List (Str × Value)) :
  Env0 P w K mg base (A.under (.builtin "type.__call__" ⟨.ref C :: us,kw⟩)) outer s H:=⟨by first | exact e.frames | (simpa [Around.under,Code.envs,Code.isFrame,pushEnvs] using e.frames),e.mod,e.bs,e.bsz,e.funs,e.frf,e.hok,e.bare⟩
section
variable{X:Cx}{pins:List (Addr × Obj)}{σ:St}{H:Hp}{s s':Shared}
theorem Inv.env0(I:Inv X pins σ H s):Env0 X.prog X.w X.K X.mg X.base X.A X.stack s H :=
 ⟨I.ok.frames,I.ok.mod,I.bs,Nat.le_trans I.ok.bsz I.sz,I.stack,I.stkFree,I.hok,I.bare⟩
theorem Inv.after{Q:VK}{u:Value}(I:Inv X pins σ H s)(h:CE X.stack X.prog X.w H s Q u s'):EP X pins σ Q u s':=by
 obtain ⟨v,H',os,bare,un,hok,r,q⟩:=h
 obtain ⟨hh,g,d,t,os'⟩:=s'
 obtain rfl:os'=s.os:=os
 exact ⟨v,H',I.call (h':=hh) (g':=g) (d':=d) (t':=t) (ch:=[]) un hok bare (fun b z=>absurd z (by simp)),r,q⟩
end
def aX1(sp:Sp)(dvs:List V)(E:XK)(t:TA):TE:=fun σ H Q=>t σ H fun vs H1=>sp (vs++dvs) H1 Q E
def aX2(C:Addr)(m:Str)(sp:Sp)(dvs:List V)(E:XK)(ta:TE)(t:TA):TE:=fun σ H Q=>ta σ H fun x H1=>∃ a dx fs,x = .ref a/\H1 a=some (.ins C dx fs)/\fs.lookup m=none /\
 t σ H1 fun vs H2=>sp (x :: (vs++dvs)) H2 Q E
def aX3(C:Addr)(sp:Sp)(dvs:List V)(E:XK)(t:TA):TE:=fun σ H Q=>t σ H fun vs H1=>∀ x dx,H1 x=none->H1 dx=none->dx≠x ->
 sp (.ref x :: (vs++dvs)) (upd (upd H1 dx (.own x)) x (.ins C dx [])) (fun v H2=>v = .non/\Q (.ref x) H2) E
def Binds(K:PySem.W.Frag)(fd:FuncData)(ps:List Str)(ds:List Value):Prop :=
 ∀ (s:Shared) (us:List Value),K.In s.heap->(us++ds).length=ps.length->BindsTo s fd ⟨us,[]⟩ (ps.zip (us++ds))
theorem Binds.all{K:PySem.W.Frag}{fd:FuncData}{ps:List Str}(h:∀ us:List Value,us.length=ps.length->bindArgs fd ⟨us,[]⟩=pure (ps.zip us)):Binds K fd ps []:=fun s us _ hl=>by
 rw [List.append_nil] at hl ⊢
 exact .of_eq (h us hl)
def xV(CX:CXT)(X:Cx)(E:XK):Prop:=∀ (pins:List (Addr × Obj)) (σ:St) (H:Hp) (s:Shared) (e:Value) (s':Shared),Inv X pins σ H s->CX X.stack H s E e s'->X.xe e s'
section
variable{X:Cx}{CX:CXT}{k:Nat}{f C:Addr}{fd:FuncData}{ps:List Str}{sp:Sp}{dvs:List V}{ds:List Value}{E:XK}{x m:Str}{p pos apos:Pos}{e o:Expr}{es:List Expr}{ta:TE}{t:TA}
theorem aM1{pins:List (Addr × Obj)}{σ:St}{H:Hp}{s:Shared}{Q:VK}{us:List Value}{vs:List V}(F:FnOk X.prog X.w X.K X.mg X.base CX k f fd ps sp)(hr:Room k X.A)(hb:Binds X.K fd ps ds)(hd:Vals dvs ds)(hx:xV CX X E)
  (I:Inv X pins σ H s) (r:Vals vs us) (h:sp (vs++dvs) H Q E):wpAny (model X.prog X.w) X.A (call (.ref f) us) (EP X pins σ Q) X.xe s:=by
 have r2:Vals (vs++dvs) (us++ds):=r.append hd
 have hl:(us++ds).length=ps.length:=by rw [<-r2.length];exact F.len _ _ _ _ h
 refine wpAny_call (codeAny_mono (F.run X.A X.stack s H ⟨us,[]⟩ (us++ds) (vs++dvs) Q E hr I.env0 (hb s us I.kIn hl) r2 h) fun r s' hq=>?_)
 cases r with
 | error e=>exact hx pins σ H s e s' I hq
 | ok fl =>
  cases fl with
  | ret u=>exact I.after hq
  | next=>exact False.elim hq
  | brk=>exact False.elim hq
  | cont=>exact False.elim hq
theorem aPi(F:FnOk X.prog X.w X.K X.mg X.base CX k f fd ps sp)(hr:Room k X.A)(hg:Gl X x)(hm:X.mg x=some (.ref f))(hk:PySem.W.keepIn X.K (.ref f)=true)(hb:Binds X.K fd ps ds)(hd:Vals dvs ds)(hx:xV CX X E)
  (ha:PA X (e :: es) t) (hdb:(x==("__debug__" : Str))=false:=by decide) (he:starEach (e :: es) X.env=(false,eval e X.env) :: starEach es X.env:=by rfl) (hpl:(backTo pos (starEach es X.env)).any (·.1)=false:=by rfl) :
  PE X (.Call (.Name x p) (e :: es) [] pos) (aX1 sp dvs E t):=by
 intro pins s σ H Q I h
 refine wpAny_Call_Name_kw (tH I hg hm ?_ hdb)
 refine PySem.W.callWith_K (h₀:=X.base) I.ok.mod.kin hk (thn (ha pos pins s σ H _ I h) fun us s1 ⟨vs,H1,I1,r,q⟩=>⟨I1.kIn,?_⟩) he hpl
 exact aM1 F hr hb hd hx I1 r q
theorem aPj{pl:Sem Bool}(he:PE X o ta)(c:Cls X.K C)(hm:Meth X.K C m f)(F:FnOk X.prog X.w X.K X.mg X.base CX k f fd ps sp)(hr:Room k X.A)(hb:Binds X.K fd ps ds)(hd:Vals dvs ds)(hx:xV CX X E)(ha:PA X (e :: es) t)
  (hst:starEach (e :: es) X.env=(false,eval e X.env) :: starEach es X.env:=by rfl) (hpl:(backTo pos (starEach es X.env)).any (·.1)=false:=by rfl)
  (ht:eval (.Call (.Attribute o m apos) (e :: es) [] pos) X.env=(do
   let ov <- eval o X.env
   standAt apos.atName
   let (f,first) <- holding [ov] (getMethod ov m pl)
   callWith pos f first (backTo pos (starEach (e :: es) X.env)) (backToKw pos (keywordEach [] X.env))):=by rfl) :
  PE X (.Call (.Attribute o m apos) (e :: es) [] pos) (aX2 C m sp dvs E ta t):=by
 intro pins s σ H Q I h
 refine PySem.W.methodCall_KW (pl:=pl) (thn (he pins s σ H _ I h) fun u s1 ⟨x,H1,I1,rx,a,dx,fs,ex,ea,l,q⟩=>?_) ht
 subst ex
 obtain rfl:u=Value.ref a:=rx
 refine aGs I1 ea c hm l ?_
 refine PySem.W.callWith_K (first:=[.ref a]) (h₀:=X.base) I.ok.mod.kin hm.kp (thn (ha pos pins s1 σ H1 _ I1 q) fun us s2 ⟨vs,H2,I2,r,q2⟩=>⟨I2.kIn,?_⟩) hst hpl
 exact aM1 (us := .ref a :: us) (vs := .ref a :: vs) F hr hb hd hx I2 (.cons rfl r) q2
structure Mk(K:PySem.W.Frag)(C f:Addr):Prop where
 makes:PySem.W.makesIn K C=true
 init:PySem.W.findIn K (.ref C) "__init__" = some (some (.ref f))
 fn:PySem.W.isFn K (.ref f)=true
 kp:PySem.W.keepIn K (.ref C)=true
theorem aM2{pins:List (Addr × Obj)}{σ:St}{H:Hp}{s:Shared}{Q:VK}{us:List Value}{vs:List V}(M:Mk X.K C f)(F:FnOk X.prog X.w X.K X.mg X.base CX k f fd ps sp)(hr:Room (k+1) X.A)(hb:Binds X.K fd ps ds)(hd:Vals dvs ds)
  (hx:xV CX X E) (I:Inv X pins σ H s) (r:Vals vs us)
  (h:∀ x dx,H x=none->H dx=none->dx≠x->sp (.ref x :: (vs++dvs)) (upd (upd H dx (.own x)) x (.ins C dx [])) (fun v H2=>v = .non/\Q (.ref x) H2) E) :
  wpAny (model X.prog X.w) X.A (call (.ref C) us) (EP X pins σ Q) X.xe s:=by
 have hq:=h (s.heap.objs.size+1) s.heap.objs.size (I.hok.fresh (Nat.le_succ _)) (I.hok.fresh (Nat.le_refl _)) (Nat.ne_of_lt (Nat.lt_succ_self _))
 have I2:=Inv.made (C:=C) I
 have r2:Vals (V.ref (s.heap.objs.size+1) :: (vs++dvs)) (Value.ref (s.heap.objs.size+1) :: (us++ds)) := .cons rfl (r.append hd)
 have hl:(Value.ref (s.heap.objs.size+1) :: us++ds).length=ps.length:=by
  have e:=r2.length
  rw [F.len _ _ _ _ hq] at e
  exact e.symm
 refine wpAny_call (aLz (f:=f) I.kIn M.makes M.init (beq_iff_eq.mp M.fn) (codeAny_mono (F.run _ X.stack _ _ ⟨Value.ref (s.heap.objs.size+1) :: us,[]⟩ (Value.ref (s.heap.objs.size+1) :: (us++ds)) _ _ E (hr.make C us [])
  (I2.env0.make C us []) (hb _ (Value.ref (s.heap.objs.size+1) :: us) I2.kIn hl) r2 hq) fun r s' hq' => ?_))
 cases r with
 | error e=>exact hx pins σ _ _ e s' I2 hq'
 | ok fl =>
  cases fl with
  | ret u =>
   obtain ⟨v,H',I3,rv,ev,q3⟩:=I2.after hq'
   subst ev
   exact ⟨rv,⟨V.ref (s.heap.objs.size+1),H',I3,rfl,q3⟩⟩
  | next=>exact False.elim hq'
  | brk=>exact False.elim hq'
  | cont=>exact False.elim hq'
theorem aPk(M:Mk X.K C f)(F:FnOk X.prog X.w X.K X.mg X.base CX k f fd ps sp)(hr:Room (k+1) X.A)(hg:Gl X x)(hm:X.mg x=some (.ref C))(hb:Binds X.K fd ps ds)(hd:Vals dvs ds)(hx:xV CX X E)
  (ha:PA X (e :: es) t) (hdb:(x==("__debug__" : Str))=false:=by decide) (he:starEach (e :: es) X.env=(false,eval e X.env) :: starEach es X.env:=by rfl) (hpl:(backTo pos (starEach es X.env)).any (·.1)=false:=by rfl) :
  PE X (.Call (.Name x p) (e :: es) [] pos) (aX3 C sp dvs E t):=by
 intro pins s σ H Q I h
 refine wpAny_Call_Name_kw (tH I hg hm ?_ hdb)
 refine PySem.W.callWith_K (h₀:=X.base) I.ok.mod.kin M.kp (thn (ha pos pins s σ H _ I h) fun us s1 ⟨vs,H1,I1,r,q⟩=>⟨I1.kIn,?_⟩) he hpl
 exact aM2 M F hr hb hd hx I1 r q
end
section
variable{X:Cx}{CX:CXT}{k:Nat}{f C:Addr}{fd:FuncData}{ps ks:List Str}{sp:Sp}{E:XK}{x m:Str}{p pos apos kpos:Pos}{e o:Expr}{es:List Expr}{kws:List Keyword}{te ta:TE}{t tk:TA}{nm:Option Str}
variable{g:List Value->List Value->List Value}{gV:List V->List V->List V}
end
structure FnScope(N P:List Str)(sc:Scope):Prop where
 kind:sc.kind = .function
 co:sc.isCoroutine=false
 gen:sc.isGenerator=false
 nd:N.Nodup
 pre:N.take P.length=P
 par:∀ x∈P,sc.names.lookup x=some .local\/sc.names.lookup x=some .cell
 nofree:∀ y∈sc.names,y.2 ≠ .free
theorem aCk{kindOf:Str->Option NameKind}{x:Str}:∀ {binds:List (Str × Value)} {m:Str->Option Value},(∀ v,(x,v) ∉ binds)->bindL kindOf binds m x=m x
 | [],_,_=>rfl
 | (n,v) :: r,m,h=>by
  unfold bindL
  rw [aCk fun w hw=>h w (List.mem_cons_of_mem _ hw)]
  split
  ·have:x≠n:=by rintro rfl;exact h v List.mem_cons_self
   simp [this]
  ·rfl
theorem aCl{kindOf:Str->Option NameKind}{x:Str}:∀ {binds:List (Str × Value)} {m:Str->Option Value},(∀ v,(x,v) ∉ binds)->bindC kindOf binds m x=m x
 | [],_,_=>rfl
 | (n,v) :: r,m,h=>by
  unfold bindC
  rw [aCl fun w hw=>h w (List.mem_cons_of_mem _ hw)]
  split
  ·rfl
  ·have:x≠n:=by rintro rfl;exact h v List.mem_cons_self
   simp [this]
theorem aCm{kindOf:Str->Option NameKind}{x:Str}{v:Value}:∀ {P:List Str} {vs:List Value} {i:Nat} {m:Str->Option Value},P.Nodup->P[i]?=some x->vs[i]?=some v->kindOf x=some .local ->
  bindL kindOf (P.zip vs) m x=some v
 | [],_,_,_,_,h,_,_=>by simp at h
 | _ :: _,[],_,_,_,_,h,_=>by simp at h
 | p :: P,w :: vs,0,m,nd,h1,h2,hk=>by
  simp at h1 h2;subst h1;subst h2
  show bindL kindOf ((p,w) :: P.zip vs) m p=_
  unfold bindL
  rw [aCk fun v hv=>(List.nodup_cons.mp nd).1 (List.of_mem_zip hv).1,if_pos hk]
  simp
 | p :: P,w :: vs,i+1,m,nd,h1,h2,hk=>by
  show bindL kindOf ((p,w) :: P.zip vs) m x=_
  unfold bindL
  exact aCm (i:=i) (List.nodup_cons.mp nd).2 (by simpa using h1) (by simpa using h2) hk
theorem aCn{kindOf:Str->Option NameKind}{x:Str}{v:Value}:∀ {P:List Str} {vs:List Value} {i:Nat} {m:Str->Option Value},P.Nodup->P[i]?=some x->vs[i]?=some v->kindOf x≠some .local ->
  bindC kindOf (P.zip vs) m x=some v
 | [],_,_,_,_,h,_,_=>by simp at h
 | _ :: _,[],_,_,_,_,h,_=>by simp at h
 | p :: P,w :: vs,0,m,nd,h1,h2,hk=>by
  simp at h1 h2;subst h1;subst h2
  show bindC kindOf ((p,w) :: P.zip vs) m p=_
  unfold bindC
  rw [aCl fun v hv=>(List.nodup_cons.mp nd).1 (List.of_mem_zip hv).1,if_neg hk]
  simp
 | p :: P,w :: vs,i+1,m,nd,h1,h2,hk=>by
  show bindC kindOf ((p,w) :: P.zip vs) m x=_
  unfold bindC
  exact aCn (i:=i) (List.nodup_cons.mp nd).2 (by simpa using h1) (by simpa using h2) hk
def start(N:List Str)(vs:List V):St:=vs.map some++List.replicate (N.length - vs.length) none
def xW(CX:CXT)(P:Program)(w:World)(K:PySem.W.Frag)(mg:Str->Option Value)(base:Heap)(N:List Str)(qual:Str)(scope:Scope)(f:Addr)(cd:Value)(A:Around)(outer:List Env)(s:Shared)(H:Hp)(E:XK):Cx where
 prog:=P
 w:=w
 K:=K
 mg:=mg
 base:=base
 A:=A.deeper (envOfC qual scope s.heap.objs.size f cd)
 N:=N
 s₀:=s
 H₀:=H
 env:=envOfC qual scope s.heap.objs.size f cd
 outer:=outer
 stack:=envOfC qual scope s.heap.objs.size f cd :: outer
 ex:=[]
 calm:=true
 fn:=fun _=>true
 pn:=[]
 xe:=fun e s'=>wpAny (model P w) (A.deeper (envOfC qual scope s.heap.objs.size f cd)) (leaving (envOfC qual scope s.heap.objs.size f cd) e) (fun _ s''=>CX outer H s E e s'') (fun e' s''=>CX outer H s E e' s'') s'
theorem aF1{sc:Scope}{n:Nat}{x:Str}(h:sc.names.lookup x=some .cell):∃ c,(cellsFrom n sc.names []).lookup x=some c:=by
 have q:=PySem.W.cellsFrom_some sc.names n [] (.inl h)
 exact Option.isSome_iff_exists.mp q
theorem aK6{CX:CXT}{P:Program}{w:World}{K:PySem.W.Frag}{mg:Str->Option Value}{base:Heap}{N ps:List Str}{qual:Str}{scope:Scope}{f:Addr}{cd:Value}{A:Around}{outer:List Env}{s s1:Shared}{H:Hp}{E:XK}{us:List Value}{vs:List V}
  (S:FnScope N ps scope) (hd:A.handled=none) (e0:Env0 P w K mg base A outer s H) (hl:vs.length=ps.length) (r:Vals vs us)
  (x:InCallC s s.heap.objs.size (bindL (envOfC qual scope s.heap.objs.size f cd).kindOf (ps.zip us) fun _=>none) (cellsFrom (s.heap.objs.size+1) scope.names []) (bindC (envOfC qual scope s.heap.objs.size f cd).kindOf (ps.zip us) fun _=>none) s1) :
  Inv (xW CX P w K mg base N qual scope f cd A outer s H E) [] (start N vs) H s1:=by
 have hpl:ps.length<=N.length:=by have:=congrArg List.length S.pre;rw [List.length_take] at this;omega
 obtain ⟨h1,tk,rfl,hk⟩:=x.done
 have noA:∀ b:Addr,b ∉ (xW CX P w K mg base N qual scope f cd A outer s H E).ex:=fun b z=>absurd (show b∈([]:List Addr) from z) (by simp)
 refine ⟨⟨e0.mod,S.kind,rfl,rfl,Nat.le_refl _,fun y z c h1 h2=>?_,fun y hy=>?_,fun y c _ h=>?_,fun _=>hd,Around.frames_deeper e0.frames,.inr ⟨rfl,rfl⟩,fun b z=>absurd z (noA b),e0.bs,e0.bsz,fun b _ _=>noA b,fun b z=>absurd z (noA b),e0.funs,e0.frf⟩,
  rfl,e0.bare,Un.kept hk,⟨_,x.toInCall.ns,fun i y v h1 h2 h3=>?_⟩,fun y c h=>⟨_,x.cell y c h⟩,e0.hok.fresh (Nat.le_refl _),fun y c h=>?_,fun p hp=>absurd (show p∈([]:List (Addr × Obj)) from hp) (by simp),e0.hok.kept hk,?_⟩
 ·exact name_of_addr x.apart (PySem.mem_of_lookup h1) (PySem.mem_of_lookup h2)
 ·have hy:scope.names.lookup y=some .cell\/scope.names.lookup y=some .free:=hy
  rcases hy with hy | hy
  ·exact aF1 hy
  ·exact absurd rfl (S.nofree _ (PySem.mem_of_lookup hy))
 ·exact Nat.le_of_lt (x.above y c (PySem.mem_of_lookup h))
 ·have hi:i < vs.length:=by
   unfold start at h2
   by_cases hi:i < vs.length
   ·exact hi
   ·rw [List.getElem?_append_right (by simpa using hi)] at h2
    rw [List.getElem?_replicate] at h2
    split at h2<;>cases h2
  have ha:vs[i]?=some v:=by
   unfold start at h2
   rw [List.getElem?_append_left (by simpa using hi),List.getElem?_map] at h2
   cases e:vs[i]? with
   | none=>rw [e] at h2;cases h2
   | some a=>rw [e] at h2;cases h2;rfl
  obtain ⟨u,hu,rv⟩:=r.get ha
  have hp:ps[i]?=some y:=by
   rw [<-S.pre,List.getElem?_take_of_lt (by omega)];exact h1
  have ndP:ps.Nodup:=by rw [<-S.pre];exact S.nd.sublist (List.take_sublist _ _)
  refine ⟨u,rv,?_⟩
  rcases S.par y (List.mem_of_getElem? hp) with k | k
  ·exact .inl ⟨k,aCm ndP hp hu k⟩
  ·obtain ⟨c,e⟩:=aF1 (n:=s.heap.objs.size+1) k
   refine .inr ⟨.inl k,c,e,?_⟩
   have q:=x.cell y c e
   rw [aCn ndP hp hu (by show scope.names.lookup y≠_;rw [k];decide)] at q
   exact q
 ·exact e0.hok.fresh (Nat.le_of_lt (x.above y c (PySem.mem_of_lookup h)))
 ·unfold start
  show _=N.length
  rw [List.length_append,List.length_map,List.length_replicate]
  omega
theorem aM3{CX:CXT}{P:Program}{w:World}{K:PySem.W.Frag}{mg:Str->Option Value}{base:Heap}{k:Nat}{f:Addr}{name qual:Str}{params:Arguments}{body:List Stmt}{scope:Scope}{dV kV doc pm cdv ct oc:Value}{an od:Option Addr}
  {osl:Array (Option Value)} {N ps:List Str} {sp:Sp} (lk:K.lookup f=some ⟨oc,od,.func (PySem.W.fnOf name qual params body scope dV kV doc pm an cdv ct),osl⟩) (hcd:PySem.W.codeIn K cdv qual=true) (S:FnScope N ps scope)
  (len:∀ vs H Q E,sp vs H Q E->vs.length=ps.length)
  (hbody:∀ (A:Around) (outer:List Env) (s:Shared) (H:Hp) (vs:List V) (Q:VK) (E:XK),Room k (A.deeper (envOfC qual scope s.heap.objs.size f cdv))->sp vs H Q E ->
   ∃ t,PSs (xW CX P w K mg base N qual scope f cdv A outer s H E) body t/\t { nx:=fun _ H'=>Q .non H',rt:=Q } (start N vs) H) :
  FnOk P w K mg base CX (k+1) f (PySem.W.fnOf name qual params body scope dV kV doc pm an cdv ct) ps sp:=by
 refine ⟨len,fun A outer s H args us vs Q E hr e0 hb r hsp=>?_⟩
 have hl:=len _ _ _ _ hsp
 have KX:K.In s.heap:=e0.mod.kin.keeps fun b o e=>(e0.bs b o e).1
 have lim:s.heap.NoLimit:=e0.mod.nolimit.keeps fun b o e=>(e0.bs b o e).1
 have hkind:∀ y∈ps.zip us,scope.names.lookup y.1=some .local\/(scope.names.lookup y.1=some .cell/\((cellsFrom (s.heap.objs.size+1) scope.names []).lookup y.1).isSome=true):=fun ⟨n,v⟩ hy=>by
  rcases S.par n (List.of_mem_zip hy).1 with q | q
  ·exact .inl q
  ·exact .inr ⟨q,PySem.W.cellsFrom_some _ _ _ (.inl q)⟩
 refine codeAny_call_function hr.depth (KX _ _ lk) rfl S.co S.gen rfl (PySem.W.codeRec_of KX hcd) (hb _ _ _ _ ?_)
 refine wpAny_newFunctionEnv_cells S.kind hkind fun env he s1 x=>?_
 subst he
 refine ⟨lim.keeps x.toInCall.keep,codeAny_func ?_⟩
 obtain ⟨t,ht,hq⟩:=hbody A outer s H vs Q E (hr.deeper _) hsp
 have I:Inv (xW CX P w K mg base N qual scope f cdv A outer s H E) [] (start N vs) H s1:=aK6 S hr.hd e0 hl r x
 refine wpAny_mono (ht [] s1 (start N vs) H _ I hq) (fun fl s' hs=>?_) fun e s' hs=>hs
 have fin:∀ {σ':St} {H':Hp} {v:V} {u:Value},Inv (xW CX P w K mg base N qual scope f cdv A outer s H E) [] σ' H' s'->RelV v u->Q v H'->CE outer P w H s Q u s' :=
  fun {σ' H' v u} J rv q=>⟨v,H',J.os,J.bare,J.base,J.hok,rv,q⟩
 cases fl with
 | ret u =>
  obtain ⟨v,σ',H',J,rv,q⟩:=hs
  exact fin J rv q
 | next =>
  obtain ⟨σ',H',J,q⟩:=hs
  exact fin (v:=V.non) (u:=Value.none) J rfl q
 | brk =>
  obtain ⟨_,_,_,q⟩:=hs
  exact False.elim q
 | cont =>
  obtain ⟨_,_,_,q⟩:=hs
  exact False.elim q
end L2
namespace L2
open PySem PySem.Spec PyProof.Rows
section
variable{X:Cx}{x:Str}{p pos:Pos}{e:Expr}{es:List Expr}{t:TA}{id T:String}{r:List V->Hp->VK->Prop}
def tCB(r:List V->Hp->VK->Prop)(t:TA):TE:=fun σ H Q=>t σ H fun vs H1=>r vs H1 Q
theorem vR(hc:nR X (.builtin id) r)(hg:Gl X x)(hm:X.mg x=none)(hv:bootBuiltins x=some (.builtin id))(ha:PA X (e :: es) t)(hn:x ≠ "__name__" := by decide)(hdb:(x==("__debug__" : Str))=false:=by decide)
  (he:starEach (e :: es) X.env=(false,eval e X.env) :: starEach es X.env:=by rfl) (hpl:(backTo pos (starEach es X.env)).any (·.1)=false:=by rfl):PE X (.Call (.Name x p) (e :: es) [] pos) (tCB r t):=by
 intro pins s σ H Q I h
 refine wpAny_Call_Name_kw (xR I hg hm hv ?_ hn hdb)
 exact PyProof.Rows.callWith_builtin1 (thn (ha pos pins s σ H _ I h) fun us s1 ⟨vs,H1,I1,r1,q1⟩=>hc pins s1 σ H1 vs us Q I1 r1 q1) he hpl
theorem aCo(hc:nR X (.type T) r)(hg:Gl X x)(hm:X.mg x=none)(hv:bootBuiltins x=some (.type T))(ha:PA X (e :: es) t)(hn:x ≠ "__name__" := by decide)(hdb:(x==("__debug__" : Str))=false:=by decide)
  (he:starEach (e :: es) X.env=(false,eval e X.env) :: starEach es X.env:=by rfl) (hpl:(backTo pos (starEach es X.env)).any (·.1)=false:=by rfl):PE X (.Call (.Name x p) (e :: es) [] pos) (tCB r t):=by
 intro pins s σ H Q I h
 refine wpAny_Call_Name_kw (xR I hg hm hv ?_ hn hdb)
 exact PyProof.Rows.callWith_type1 (thn (ha pos pins s σ H _ I h) fun us s1 ⟨vs,H1,I1,r1,q1⟩=>hc pins s1 σ H1 vs us Q I1 r1 q1) he hpl
end
end L2
namespace HT
open PySem PyProof.Rows
section
open PySem.SeqAt
open PySem.AutoSeq1 (wpAny_loadPart')
open PySem.MeetsSeq PySem.MeetsSeq2 PySem.MeetsSeq3
end
section
variable{prog:Program}{w:World}{A:Around}{E:Value->Shared->Prop}{s:Shared}
def sIx(n d:Nat):Option Int->Nat
 | none=>d
 | some v=>if v < 0 then (v+(n:Int)).toNat else min v.toNat n
end
end HT
namespace L2
open PySem PySem.Spec PyProof.Rows
abbrev TO:=St->Hp->(Option Int->Hp->Prop)->Prop
def PO(X:Cx)(e:Option Expr)(t:TO):Prop :=
 ∀ (pins:List (Addr × Obj)) (s:Shared) (σ:St) (H:Hp) (Q:Option Int->Hp->Prop),Inv X pins σ H s->t σ H Q ->
  wpAny (model X.prog X.w) X.A (evalPart e X.env) (fun u s'=>∃ o H',Inv X pins σ H' s'/\IsPart u o/\Q o H') X.xe s
def aPl:TO:=fun _ H Q=>Q none H
def aX4(t:TE):TO:=fun σ H Q=>t σ H fun x H1=>∃ i,x = .int i/\Q (some i) H1
section
variable{X:Cx}{e:Expr}{te:TE}{lo hi:Option Expr}{tl th:TO}{pos p2:Pos}
theorem aPm:PO X none aPl:=by
 intro pins s σ H Q I h
 rw [evalPart_none]
 exact wpAny_pure ⟨none,H,I,.none,h⟩
theorem aPn(h:PE X e te):PO X (some e) (aX4 te):=by
 intro pins s σ H Q I hw
 rw [evalPart_some]
 refine thn (h pins s σ H _ I hw) fun u s1 ⟨x,H1,I1,r1,q1⟩=>?_
 obtain ⟨i,rfl,q⟩:=q1
 obtain ⟨t,rfl⟩:=r1
 exact ⟨some i,H1,I1,.int i t,q⟩
def SlR(X:Cx)(r:V->Option Int->Option Int->Hp->VK->Prop):Prop :=
 ∀ (pins:List (Addr × Obj)) (s:Shared) (σ:St) (H:Hp) (x:V) (v vl vu:Value) (lo hi:Option Int) (sl:Addr) (Q:VK),Inv X pins σ H s->RelV x v->s.heap.IsSliceOf sl vl vu .none->IsPart vl lo->IsPart vu hi->r x lo hi H Q ->
  ∃ T id,typeLookup (.type T) "__getitem__" = pure (some (.builtin id))/\s.TypeIs v T/\wpAny (model X.prog X.w) X.A (getItem v (.ref sl)) (EP X pins σ Q) X.xe s
theorem SlR.or{r r':V->Option Int->Option Int->Hp->VK->Prop}(h:SlR X r)(h':SlR X r'):SlR X (fun x lo hi H Q=>r x lo hi H Q\/r' x lo hi H Q):=by
 intro pins s σ H x v vl vu lo hi sl Q I rx hs pl pu q
 rcases q with q | q
 ·exact h pins s σ H x v vl vu lo hi sl Q I rx hs pl pu q
 ·exact h' pins s σ H x v vl vu lo hi sl Q I rx hs pl pu q
def tSl(r:V->Option Int->Option Int->Hp->VK->Prop)(te:TE)(tl th:TO):TE:=fun σ H Q=>te σ H fun x H1=>tl σ H1 fun l H2=>th σ H2 fun u H3=>r x l u H3 Q
theorem aM4{r:V->Option Int->Option Int->Hp->VK->Prop}(hr:SlR X r)(he:PE X e te)(hl:PO X lo tl)(hu:PO X hi th):PE X (.Subscript e (.Slice lo hi none p2) pos) (tSl r te tl th):=by
 intro pins s σ H Q I h
 refine Subscript_ (thn (he pins s σ H _ I h) fun v s1 ⟨x,H1,I1,r1,q1⟩=>?_)
 refine wpAny_Slice (thn (hl pins s1 σ H1 _ I1 q1) fun vl s2 ⟨l,H2,I2,pl,q2⟩=>thn (hu pins s2 σ H2 _ I2 q2) fun vu s3 ⟨u,H3,I3,pu,q3⟩=>?_)
 rw [evalPart_none]
 refine wpAny_pure ?_
 have I4:Inv X pins σ H3 { s3 with heap:=s3.heap.push { cls := .type "slice", data := .fields #[vl,vu,.none] } }:=I3.kept (t':=s3.toks) fun b ob q=>Heap.get?_push_of_some _ q
 obtain ⟨T,id,hT,ht,hg⟩:=hr pins { s3 with heap:=s3.heap.push { cls := .type "slice", data := .fields #[vl,vu,.none] } } σ H3 x v vl vu l u s3.heap.objs.size Q I4 r1 (Heap.IsSliceOf.new ..) pl pu q3
 show wpAny (model X.prog X.w) X.A (subscriptTail e (.Slice lo hi none p2) v (.ref s3.heap.objs.size)) (EP X pins σ Q) X.xe { s3 with heap:=s3.heap.push { cls := .type "slice", data := .fields #[vl,vu,.none] } }
 exact tail_any (ops:=[.ref s3.heap.objs.size,v]) ht hT hg (by with_unfolding_all rfl)
def aK7(xs:List V)(lo hi:Option Int):List V:=(xs.drop (HT.sIx xs.length 0 lo)).take (HT.sIx xs.length xs.length hi - HT.sIx xs.length 0 lo)
theorem aF2(xs:List V)(lo hi:Option Int):(aK7 xs lo hi).length<=xs.length:=by
 unfold aK7
 rw [List.length_take,List.length_drop]
 omega
end
end L2
namespace L2
open PySem PySem.Spec PyProof.Rows
def ixN(n:Nat)(i:Int):Option Nat:=if 0<=i then (if i < n then some i.toNat else none) else if -(n:Int)<=i then some (i+n).toNat else none
def atI{α:Type}(xs:List α)(i:Int):Option α:=(ixN xs.length i).bind fun j=>xs[j]?
theorem aIe{n:Nat}{i:Int}{j:Nat}(h:ixN n i=some j):seqIndex? i n=some j/\j < n /\ -(n:Int)<=i/\i < n:=by
 unfold ixN at h
 by_cases h0:0<=i
 ·rw [if_pos h0] at h
  by_cases h1:i < n
  ·rw [if_pos h1] at h
   have e:i.toNat=j:=Option.some.inj h
   exact ⟨by rw [seqIndex_of h0 h1,e],by omega,by omega,h1⟩
  ·rw [if_neg h1] at h;cases h
 ·rw [if_neg h0] at h
  by_cases h1 : -(n:Int)<=i
  ·rw [if_pos h1] at h
   have e:(i+n).toNat=j:=Option.some.inj h
   exact ⟨by rw [seqIndex_neg (by omega) h1,e],by omega,h1,by omega⟩
  ·rw [if_neg h1] at h;cases h
theorem aDn{α:Type}{xs:List α}{i:Int}{v:α}(h:atI xs i=some v):∃ j,seqIndex? i xs.length=some j/\xs[j]?=some v/\j < xs.length /\ -(xs.length:Int)<=i/\i < xs.length:=by
 unfold atI at h
 cases e:ixN xs.length i with
 | none=>rw [e] at h;cases h
 | some j =>
  rw [e] at h
  obtain ⟨h1,h2,h3,h4⟩:=aIe e
  exact ⟨j,h1,h,h2,h3,h4⟩
theorem atI_nat{α:Type}{xs:List α}{j:Nat}{v:α}(h:xs[j]?=some v):atI xs (j:Int)=some v:=by
 have hj:j < xs.length:=(List.getElem?_eq_some_iff.mp h).1
 have e:ixN xs.length (j:Int)=some j:=by
  unfold ixN
  rw [if_pos (by omega),if_pos (by omega)];simp
 unfold atI;rw [e];exact h
def aIf(b:Expr):Prop:=∀ o i,subscripted b false o i=operate [o,i] (getItem o i)
def IxR(X:Cx)(r:R2):Prop :=
 ∀ (value slice:Expr) (pins:List (Addr × Obj)) (s:Shared) (σ:St) (H:Hp) (x y:V) (v u:Value) (Q:VK),Inv X pins σ H s->RelV x v->RelV y u->r x y H Q ->
  subscripted slice false v u=operate [v,u] (getItem v u)->wpAny (model X.prog X.w) X.A (subscriptTail value slice v u) (EP X pins σ Q) X.xe s
def MtR(X:Cx)(id:String)(r:V->List V->Hp->VK->Prop):Prop :=
 ∀ (pins:List (Addr × Obj)) (s:Shared) (σ:St) (H:Hp) (x:V) (xs:List V) (v:Value) (us:List Value) (Q:VK),Inv X pins σ H s->RelV x v->Vals xs us->r x xs H Q ->
  wpAny (model X.prog X.w) X.A (call (.builtin id) (v :: us)) (EP X pins σ Q) X.xe s
section
variable{X:Cx}{a b:Expr}{ta tb:TE}{pos:Pos}
theorem IxR.or{r r':R2}(h:IxR X r)(h':IxR X r'):IxR X (fun x y H Q=>r x y H Q\/r' x y H Q):=by
 intro value slice pins s σ H x y v u Q I rx ry q hs
 rcases q with q | q
 ·exact h value slice pins s σ H x y v u Q I rx ry q hs
 ·exact h' value slice pins s σ H x y v u Q I rx ry q hs
theorem aX5{r:R2}(hr:IxR X r)(ha:PE X a ta)(hb:PE X b tb)(hs:aIf b):PE X (.Subscript a b pos) (tOp r ta tb):=by
 intro pins s σ H Q I h
 exact Subscript_ (aTl ha hb I h fun v u s2 x y H2 I2 rx ry q=>hr a b pins s2 σ H2 x y v u Q I2 rx ry q (hs _ _))
def aX6(K:PySem.W.Frag):R2:=fun x y H Q=>∃ p xs i v,x = .ref p/\y = .int i/\SqL K H p xs/\atI xs i=some v/\Q v H
def aX7(K:PySem.W.Frag):R2:=fun x y H Q=>∃ p xs i v,x = .ref p/\y = .int i/\SqT K H p xs/\atI xs i=some v/\Q v H
def aX8:R2:=fun x y H Q=>∃ z i c,x = .str z/\y = .int i/\z.length<=sizeLine/\atI z.cps.toList i=some c/\Q (.str ⟨#[c]⟩) H
theorem aPo:IxR X (aX6 X.K):=by
 intro value slice pins s σ H x y v u Q I rx ry h hs
 obtain ⟨p,xs,i,z,rfl,rfl,hq,he,q⟩:=h
 cases rx
 obtain ⟨t,rfl⟩:=ry
 obtain ⟨its,r,pl,hz⟩:=I.list hq
 obtain ⟨j,h1,h2,h3,h4,h5⟩:=aDn he
 obtain ⟨w,ew,rw'⟩:=r.get h2
 have hl:=r.length
 have hn:=xT
 have fin:EP X pins σ Q w s:=⟨z,H,I,rw',q⟩
 by_cases h0:0<=i
 ·have hj:i.toNat=j:=by
   rw [seqIndex_of h0 h5] at h1
   exact Option.some.inj h1
  exact item_listR pl.isList h0 (by omega) (by rw [hj];simpa using ew) fin hs
 ·have hj:(i+(its.toArray.size:Int)).toNat=j:=by
   rw [seqIndex_neg (by omega) h4] at h1
   rw [List.size_toArray,<-hl]
   exact Option.some.inj h1
  exact subscriptTail_builtinR (x:=w) pl.isList.typeIs slot_list_getitem.lookup
   (wpAny_getItem_list_neg (Q:=fun r s'=>r=w/\EP X pins σ Q r s') pl.isList (by omega) (by rw [List.size_toArray] <;> omega) (by omega) (by rw [hj];simpa using ew) ⟨rfl,fin⟩) hs
theorem aTy:IxR X (aX7 X.K):=by
 intro value slice pins s σ H x y v u Q I rx ry h hs
 obtain ⟨p,xs,i,z,rfl,rfl,hq,he,q⟩:=h
 cases rx
 obtain ⟨t,rfl⟩:=ry
 obtain ⟨its,r,pl,hz⟩:=I.tuple hq
 obtain ⟨j,h1,h2,h3,h4,h5⟩:=aDn he
 obtain ⟨w,ew,rw'⟩:=r.get h2
 have hl:=r.length
 have hn:=xT
 have fin:EP X pins σ Q w s:=⟨z,H,I,rw',q⟩
 exact subscriptTail_builtinR (x:=w) pl.typeIs slot_tuple_getitem.lookup
  (getItem_tuple (j:=j) (Q:=fun r s'=>r=w/\EP X pins σ Q r s') pl (by omega) (by omega) (by rw [List.size_toArray,<-hl];exact h1) (by simpa using ew) ⟨rfl,fin⟩) hs
theorem aTz:IxR X aX8:=by
 intro value slice pins s σ H x y v u Q I rx ry h hs
 obtain ⟨z,i,c,rfl,rfl,hz,he,q⟩:=h
 obtain ⟨t,rfl⟩:=rx
 obtain ⟨t',rfl⟩:=ry
 obtain ⟨j,h1,h2,h3,h4,h5⟩:=aDn he
 have hl:z.cps.toList.length=z.length:=by simp [Str.length]
 rw [hl] at h1 h4 h5
 have hn:=xT
 exact tail_any (typeIs_str s z t) slot_str_getitem.lookup (getItem_str (c:=c) (by
  have e1:decide (i < -(2 ^ 63:Int))=false:=decide_eq_false (by omega)
  have e2:decide (i ≥ 2 ^ 63)=false:=decide_eq_false (by omega)
  rw [e1,e2,Bool.or_false]) (by rw [h1];simpa using h2) ⟨.str ⟨#[c]⟩,H,I.tok _,⟨_,rfl⟩,q⟩) hs
def rIx(K:PySem.W.Frag):R2:=fun x y H Q=>aX6 K x y H Q\/aX7 K x y H Q\/aX8 x y H Q
theorem aU0:IxR X (rIx X.K):=aPo.or (aTy.or aTz)
theorem aGw(its:List Value)(n j:Nat)(u:Value):Obj.mapSeq (·.setIfInBounds j u) { cls := .type "list", data := .seq its.toArray n }={ cls := .type "list", data := .seq (its.set j u).toArray n }:=by
 simp [Obj.mapSeq]
theorem Inv.lst{pins:List (Addr × Obj)}{σ:St}{H:Hp}{s:Shared}{p:Addr}{xs:List V}(I:Inv X pins σ H s)(h:H p=some (.lst xs)) :
  ∃ (its:List Value) (n:Nat),Vals xs its/\s.heap.get? p=some { cls := .type "list", data := .seq its.toArray n }/\xs.length<=sizeLine:=by
 obtain ⟨z,its,n,r,e⟩:=I.hok p _ h
 exact ⟨its,n,r,e,z⟩
theorem Inv.lstUpd{pins:List (Addr × Obj)}{σ:St}{H:Hp}{s:Shared}{p:Addr}{xs ys:List V}{its its':List Value}{n n':Nat}{f:Obj->Obj}(I:Inv X pins σ H s)(h:H p=some (.lst xs))
  (ho:s.heap.get? p=some { cls := .type "list", data := .seq its.toArray n }) (hf:f { cls := .type "list", data := .seq its.toArray n }={ cls := .type "list", data := .seq its'.toArray n' }) (r:Vals ys its') (hz:ys.length<=sizeLine) (t:Nat) :
  Inv X pins σ (upd H p (.lst ys)) { s with heap:=s.heap.update p f,toks:=t }:=by
 have e:(s.heap.update p f).get? p=some { cls := .type "list", data := .seq its'.toArray n' }:=by
  rw [Heap.get?_update_self f ho (by rw [hf] <;> rfl),hf]
 refine I.write (x:=p) (e:=p) (by rw [h];trivial) (.inl rfl) (fun b u hb q=>(Heap.get?_update_other _ _ (Ne.symm hb)).trans q) ⟨_,e⟩ ?_
 exact ⟨hz,its',n',r,e⟩
def aX9:V->V->V->Hp->(Hp->Prop)->Prop:=fun o i v H Q=>∃ p xs k j,o = .ref p/\i = .int k/\H p=some (.lst xs)/\ixN xs.length k=some j/\Q (upd H p (.lst (xs.set j v)))
theorem set_list:aTh X aX9:=by
 intro pins s σ H o i v ov iv u Q I ro ri rv h
 obtain ⟨p,xs,k,j,rfl,rfl,hp,hj,q⟩:=h
 cases ro
 obtain ⟨t,rfl⟩:=ri
 obtain ⟨its,n,r,ho,hz⟩:=I.lst hp
 obtain ⟨h1,h2,h3,h4⟩:=aIe hj
 have hl:=r.length
 have hn:=xT
 have I':Inv X pins σ (upd H p (.lst (xs.set j v))) { s with heap:=s.heap.update p (Obj.mapSeq (·.setIfInBounds j u)) } :=
  I.lstUpd hp ho (aGw its n j u) (r.set rv j) (by rw [List.length_set];exact hz) s.toks
 by_cases h0:0<=k
 ·have hk:k.toNat=j:=by
   rw [seqIndex_of h0 h4] at h1
   exact Option.some.inj h1
  exact PySem.W.ki_setAt ho h0 (by omega) (by rw [List.size_toArray,<-hl];exact h4) (by rw [hk];exact ⟨_,I',q⟩)
 ·have hk:(k+(its.toArray.size:Int)).toNat=j:=by
   rw [seqIndex_neg (by omega) h3] at h1
   rw [List.size_toArray,<-hl]
   exact Option.some.inj h1
  exact PySem.W.ki_setBack ho (by omega) (by rw [List.size_toArray,<-hl];exact h3) (by omega) (by rw [hk];exact ⟨_,I',q⟩)
theorem aDo(lo hi:Option Int)(n:Nat):(sliceBounds lo hi none n).1=((HT.sIx n 0 lo:Nat):Int)/\(sliceBounds lo hi none n).2.1=((HT.sIx n n hi:Nat):Int)/\(sliceBounds lo hi none n).2.2=1:=by
 refine ⟨?_,?_,rfl⟩
 ·cases lo with
  | none=>simp [sliceBounds,HT.sIx]
  | some i =>
   simp only [sliceBounds,HT.sIx,Option.getD_none,show (1:Int) > 0 by decide,if_true]
   by_cases h:i < 0
   ·simp only [h,if_true] <;> omega
   ·simp only [h,if_false] <;> omega
 ·cases hi with
  | none=>simp [sliceBounds,HT.sIx]
  | some i =>
   simp only [sliceBounds,HT.sIx,Option.getD_none,show (1:Int) > 0 by decide,if_true]
   by_cases h:i < 0
   ·simp only [h,if_true] <;> omega
   ·simp only [h,if_false] <;> omega
theorem aC9(its:List Value)(lo hi:Option Int):slicePick its.toArray lo hi none=((its.drop (HT.sIx its.length 0 lo)).take (HT.sIx its.length its.length hi - HT.sIx its.length 0 lo)).toArray:=by
 obtain ⟨h1,h2,h3⟩:=aDo lo hi its.toArray.size
 unfold slicePick
 rw [h1,h2,h3]
 simp only [sliceRange_one,pick_run,List.size_toArray] <;> rfl
def bAn(K:PySem.W.Frag):V->Option Int->Option Int->Hp->VK->Prop:=fun x lo hi H Q=>∃ a xs,x = .ref a/\SqL K H a xs/\∀ p,H p=none->Q (.ref p) (upd H p (.lst (aK7 xs lo hi)))
theorem aPp:SlR X (bAn X.K):=by
 intro pins s σ H x v vl vu lo hi sl Q I rx hs pl pu h
 obtain ⟨a,xs,rfl,hx,q⟩:=h
 cases rx
 obtain ⟨its,r,ht,hz⟩:=I.list hx
 have hlen:=r.length
 refine ⟨"list", _,slot_list_getitem.lookup,ht.isList.typeIs,?_⟩
 refine wpAny_getItem_list_slice ht.isList hs pl pu .none (by simp) ?_ (by rw [List.size_toArray] <;> omega)
 rw [aC9,<-hlen]
 refine ⟨.ref s.heap.objs.size,_,I.laid (t':=s.toks) (o := .lst (aK7 xs lo hi)) (fun b ob q=>Heap.get?_push_of_some _ q) (Nat.le_refl _) ?_,rfl,q _ (I.hok.fresh (Nat.le_refl _))⟩
 exact ⟨Nat.le_trans (aF2 xs lo hi) hz,_,0,(r.drop (HT.sIx xs.length 0 lo)).take (HT.sIx xs.length xs.length hi - HT.sIx xs.length 0 lo),Heap.get?_push_size _ rfl⟩
theorem aDp:nR X (.builtin "len") (fun xs H Q=>∃ p ys,xs=[.ref p]/\(SqL X.K H p ys\/SqT X.K H p ys)/\Q (.int ys.length) H):=by
 intro pins s σ H xs us Q I r h
 obtain ⟨p,ys,rfl,hq,q⟩:=h
 obtain ⟨u,rfl,rx⟩:=vals1 r
 cases rx
 have hn:=xT
 rcases hq with hq | hq
 ·obtain ⟨its,r',pl,hz⟩:=I.list hq
  have hlen:=r'.length
  exact Calls.call_len_list pl.isList (by simp only [List.size_toArray] <;> omega) ⟨.int ys.length,H,I.tok _,⟨s.toks+1,by rw [List.size_toArray,hlen]⟩,q⟩
 ·obtain ⟨its,r',pl,hz⟩:=I.tuple hq
  have hlen:=r'.length
  exact len_tuple pl (by simp only [List.size_toArray] <;> omega) ⟨.int ys.length,H,I.tok _,⟨s.toks+1,by rw [List.size_toArray,hlen]⟩,q⟩
theorem aDq:nR X (.builtin "len") (fun xs H Q=>∃ z,xs=[.str z]/\z.length<=sizeLine/\Q (.int z.length) H):=by
 intro pins s σ H xs us Q I r h
 obtain ⟨z,rfl,hz,q⟩:=h
 obtain ⟨u,rfl,t,rfl⟩:=vals1 r
 have hn:=xT
 exact len_str (by omega) ⟨.int z.length,H,I.tok _,⟨_,rfl⟩,q⟩
theorem nR.or{f:Value}{r r':List V->Hp->VK->Prop}(h:nR X f r)(h':nR X f r'):nR X f (fun xs H Q=>r xs H Q\/r' xs H Q):=by
 intro pins s σ H xs us Q I rs q
 rcases q with q | q
 ·exact h pins s σ H xs us Q I rs q
 ·exact h' pins s σ H xs us Q I rs q
def tyV(K:PySem.W.Frag)(T:String)(x:V)(H:Hp):Prop:=match x with
 | .str _=>T = "str"
 | .int _=>T = "int"
 | .ref p=>(T = "list" /\ ∃ xs,SqL K H p xs)\/(T = "tuple" /\ ∃ o,K.lookup p=some o/\o.cls = .type "tuple" /\ o.dict=none) \/
   (T = "dict" /\ ((∃ kvs,H p=some (.dK kvs))\/∃ kvs,H p=some (.dT kvs)))\/(T = "set" /\ ∃ S n,H p=some (.set S n))
 | _=>False
theorem aM5{pins:List (Addr × Obj)}{σ:St}{H:Hp}{s:Shared}{T:String}{x:V}{v:Value}(I:Inv X pins σ H s)(r:RelV x v)(ty:tyV X.K T x H) :
  s.TypeIs v T/\∀ a,v = .ref a->∃ ob,s.heap.get? a=some ob/\ob.dict=none:=by
 cases x with
 | str z =>
  obtain ⟨t,rfl⟩:=r
  cases (show T = "str" from ty)
  exact ⟨typeIs_str s z t,fun _ e=>nomatch e⟩
 | int i =>
  obtain ⟨t,rfl⟩:=r
  cases (show T = "int" from ty)
  exact ⟨typeIs_int s i t,fun _ e=>nomatch e⟩
 | ref p =>
  cases r
  rcases ty with ⟨rfl,xs,hq⟩ | ⟨rfl,o,hk,hc,hd⟩ | ⟨rfl,hk⟩ | ⟨rfl,S,n,hk⟩
  ·obtain ⟨its,_,pl,_⟩:=I.list hq
   refine ⟨pl.isList.typeIs,fun a e=>?_⟩
   cases e
   obtain ⟨o,n,e,c,hd,_⟩:=pl
   exact ⟨o,e,hd⟩
  ·refine ⟨⟨o,I.kIn p o hk,hc⟩,fun a e=>?_⟩
   cases e
   exact ⟨o,I.kIn _ o hk,hd⟩
  ·have z:∃ o,s.heap.get? p=some o/\o.ExactDict:=by
    rcases hk with ⟨kvs,hk⟩ | ⟨kvs,hk⟩
    ·obtain ⟨_,_,_,_,o,_,_,e,ex,_⟩:=I.hok p _ hk
     exact ⟨o,e,ex⟩
    ·obtain ⟨_,_,_,_,o,_,_,e,ex,_⟩:=I.hok p _ hk
     exact ⟨o,e,ex⟩
   obtain ⟨o,e,ex⟩:=z
   refine ⟨⟨o,e,ex.1⟩,fun a e2=>?_⟩
   cases e2
   exact ⟨o,e,ex.2.1⟩
  ·obtain ⟨o,_,_,_,e,ex,_⟩:=I.hok p _ hk
   refine ⟨⟨o,e,ex.1⟩,fun a e2=>?_⟩
   cases e2
   exact ⟨o,e,ex.2.1⟩
 | _=>exact False.elim ty
def bAo(K:PySem.W.Frag)(T:String)(r:V->List V->Hp->VK->Prop)(to:TE):TE:=fun σ H Q=>to σ H fun x H1=>tyV K T x H1/\r x [] H1 Q
def tBM(K:PySem.W.Frag)(T:String)(r:V->List V->Hp->VK->Prop)(to:TE)(t:TA):TE:=fun σ H Q=>to σ H fun x H1=>tyV K T x H1/\t σ H1 fun xs H2=>r x xs H2 Q
variable{o e:Expr}{es:List Expr}{to:TE}{t:TA}{name:Str}{apos cpos:Pos}{T id:String}{r:V->List V->Hp->VK->Prop}
theorem aU1(pa:PlainAttrs T)(slot:Slot T name id)(hty:typeOf (.builtin id)=pure (.type "method_descriptor"))(hm:MtR X id r)(ho:PE X o to)
  (hbase:attributeBase o name X.env (eval o X.env)=eval o X.env:=by rfl) (hline:(apos.endLine==cpos.line)=true:=by rfl):PE X (.Call (.Attribute o name apos) [] [] cpos) (bAo X.K T r to):=by
 intro pins s σ H Q I h
 refine wpAny_Call_method0_late hbase hline (thn (ho pins s σ H _ I h) fun v s1 ⟨x,H1,I1,r1,ty,q1⟩=>?_)
 obtain ⟨h1,h2⟩:=aM5 I1 r1 ty
 exact ⟨T,id,pa,slot,hty,h1,h2,Calls.callWith_builtin rfl (PySem.evalArgs_none (hm pins s1 σ H1 x [] v [] Q I1 r1 .nil q1))⟩
theorem aM6(pa:PlainAttrs T)(slot:Slot T name id)(hty:typeOf (.builtin id)=pure (.type "method_descriptor"))(hm:MtR X id r)(ho:PE X o to)(ha:PA X (e :: es) t)
  (hbase:attributeBase o name X.env (eval o X.env)=eval o X.env:=by rfl)
  (hfew:((backTo cpos (starEach (e :: es) X.env)).all (fun x => !x.1)&&(backToKw cpos (keywordEach [] X.env)).all (fun x=>x.1.isSome)
   && decide ((e :: es).length+([]:List Keyword).length+(if ([]:List Keyword).isEmpty then 0 else 1) < 30))=true:=by rfl)
  (hline:(apos.endLine==cpos.line)=true:=by rfl) (hs:starEach (e :: es) X.env=(false,eval e X.env) :: starEach es X.env:=by rfl) (hplain:(backTo cpos (starEach es X.env)).any (·.1)=false:=by rfl) :
  PE X (.Call (.Attribute o name apos) (e :: es) [] cpos) (tBM X.K T r to t):=by
 intro pins s σ H Q I h
 refine wpAny_Call_method_late hbase hfew hline rfl (thn (ho pins s σ H _ I h) fun v s1 ⟨x,H1,I1,r1,ty,q1⟩=>?_)
 obtain ⟨h1,h2⟩:=aM5 I1 r1 ty
 refine ⟨T,id,pa,slot,hty,h1,h2,?_⟩
 have hA:=ha cpos pins s1 σ H1 _ I1 q1
 rw [hs] at hA ⊢
 refine Calls.callWith_builtin (by show (false||(backTo cpos (starEach es X.env)).any (·.1))=false;rw [hplain] <;> rfl) (Calls.evalArgs_plain ?_)
 exact thn hA fun us s2 ⟨vs,H2,I2,r2,q2⟩=>hm pins s2 σ H2 x vs v us Q I2 r1 r2 q2
end
end L2
namespace L2
open PySem PySem.Spec PyProof.Rows
def MtM(X:Cx)(id:String)(r:V->List V->Hp->VK->Prop):Prop :=
 ∀ (pins:List (Addr × Obj)) (s:Shared) (σ:St) (H:Hp) (x:V) (xs:List V) (v:Value) (us:List Value) (Q:VK),Inv X pins σ H s->RelV x v->Vals xs us->r x xs H Q ->
  wpAny (model X.prog X.w) X.A (call (.builtin id) (v :: us)) (EP X pins σ Q) X.xe s
theorem Vals.one:∀ {x:V} {us:List Value},Vals [x] us->∃ u,us=[u]/\RelV x u
 | _,_,.cons r .nil=>⟨_,rfl,r⟩
theorem Vals.two:∀ {x y:V} {us:List Value},Vals [x,y] us->∃ u v,us=[u,v]/\RelV x u/\RelV y v
 | _,_,_,.cons r (.cons q .nil)=>⟨_,_,rfl,r,q⟩
theorem Vals.zero:∀ {us:List Value},Vals [] us->us=[]
 | _,.nil=>rfl
section
variable{X:Cx}{pins:List (Addr × Obj)}{σ:St}{H:Hp}{s:Shared}{l b:Addr}{xs ys zs:List V}
theorem Inv.lset{its its':List Value}{n:Nat}{f:Array Value->Array Value}{t':Nat}(I:Inv X pins σ H s)(hH:H l=some (.lst xs))
  (e:s.heap.get? l=some { cls := .type "list", data := .seq its.toArray n }) (hf:f its.toArray=its'.toArray) (hv:Vals ys its') (hz:ys.length<=sizeLine) :
  Inv X pins σ (upd H l (.lst ys)) { s with heap:=s.heap.update l (Obj.mapSeq f),toks:=t' }:=by
 have q:=PySem.IsL.update e f
 rw [hf] at q
 refine I.write (x:=l) (e:=l) (by rw [hH];exact trivial) (.inl rfl) (fun b' u hb hu=>(Heap.get?_update_other s.heap (Obj.mapSeq f) (Ne.symm hb)).trans hu) ⟨_,q⟩ ?_
 exact ⟨hz,its',_,hv,q⟩
theorem Inv.lnew{its:List Value}{t':Nat}(I:Inv X pins σ H s)(hv:Vals ys its)(hz:ys.length<=sizeLine) :
  Inv X pins σ (upd H s.heap.objs.size (.lst ys)) { s with heap:=s.heap.push { cls := .type "list", data := .seq its.toArray },toks:=t' } :=
 I.laid (fun _ _ q=>Heap.get?_push_of_some _ q) (Nat.le_refl _) ⟨hz,its,0,hv,Heap.get?_push_size _ rfl⟩
theorem Inv.fresh(I:Inv X pins σ H s):H s.heap.objs.size=none:=I.hok.fresh (Nat.le_refl _)
theorem Inv.lstM(I:Inv X pins σ H s)(hH:H l=some (.lst xs)):xs.length<=sizeLine/\∃ (its:List Value) (n:Nat),Vals xs its/\xs.length=its.length/\s.heap.get? l=some { cls := .type "list", data := .seq its.toArray n }:=by
 obtain ⟨z,its,n,r,e⟩:=I.hok l _ hH
 exact ⟨z,its,n,r,r.length,e⟩
end
section
variable{X:Cx}
def aPq:V->List V->Hp->VK->Prop:=fun x vs H Q=>∃ l xs y,x = .ref l/\vs=[y]/\H l=some (.lst xs)/\xs.length < sizeLine/\Q .non (upd H l (.lst (xs++[y])))
theorem aK8:MtM X "list.append" aPq:=by
 intro pins s σ H x vs v us Q I rx rv h
 obtain ⟨l,xs,y,rfl,rfl,hH,hz,q⟩:=h
 cases rx
 obtain ⟨u,rfl,ru⟩:=rv.one
 obtain ⟨z,its,n,r,hl,e⟩:=I.lstM hH
 refine call_meets F.slot_list_append ⟨_,e,rfl⟩ F.entry_list_append (F.args_list_append_2 _ _) (PySem.list_append l its.toArray n u (by rw [List.size_toArray];omega)) ⟨e,?_⟩
 refine ⟨.non,_,I.lset (its':=its++[u]) hH e (by simp) (r.append (.cons ru .nil)) ?_,rfl,q⟩
 rw [List.length_append,List.length_singleton]
 omega
end
section
variable{prog:Program}{w:World}{A:Around}{E:Value->Shared->Prop}{s:Shared}
end
section
variable{X:Cx}
end
end L2
namespace Att
open PySem PySem.W PySem.Calls PyProof.Rows
theorem aA4{P:Params}{h:Heap}:∀ (ns:List Int) (vs:List Value),WellAll P h vs (ns.map WData.int)->IntsAre vs ns:=by
 intro ns
 induction ns with
 | nil =>
  intro vs w
  rw [List.map_nil] at w
  cases w
  exact .nil
 | cons n ns ih =>
  intro vs w
  rw [List.map_cons] at w
  cases w with
  | cons a b =>
   cases a
   exact .cons _ _ (ih _ b)
theorem aK9{l:OpenLaw}{n:Nat}(hn:l.most=some n){P:Params}{h:Heap}{args:List WData}{vals:List Value}
  (hpre:l.row.toRowW.claim.pre args=true) (hwl:WellAll P h vals args) :
  ∃ a vs ns,vals=[Value.ref a]/\args=[WData.list (ns.map WData.int)]/\h.get? a=some { cls := .type "list", data := .seq vs.toArray }/\IntsAre vs ns/\ns.length<=n:=by
 have hsh:WShape.hasAll [] args [.list .int]=true:=(pre_splitW hpre).1
 have hc:l.pre.holds [] { args:=args }=true:=(pre_splitW hpre).2
 obtain ⟨d,r,rfl,h1,h2⟩:=hasAllW_cons hsh
 obtain rfl:=hasAllW_nil h2
 obtain ⟨xs,rfl,h3⟩:=hasW_list h1
 obtain ⟨ns,rfl⟩:=items_int h3
 have hlen:ns.length<=n:=by
  unfold OpenLaw.pre at hc
  have h4:(WTm.not (.lt (.lit (.int (n:Int))) (.len (.arg 0)))).holds [] { args:=[.list (ns.map .int)] }=true:=by
   have h4:=(holds_andW hc).1
   rw [hn] at h4
   exact h4
  have h5:=condW_of h4 (w_not (w_lt w_lit (w_len_list (w_arg rfl))))
  rw [List.length_map] at h5
  refine Nat.le_of_not_lt fun q=>?_
  have q':(n:Int) < ((ns.length:Nat):Int):=by omega
  first
   | (rw [decide_eq_true q'] at h5;exact absurd h5 (by decide))
   | (simp at h5;omega)
 cases hwl with
 | cons w1 w2 =>
  cases w2
  cases w1 with
  | list ho hall=>exact ⟨_,_,ns,rfl,rfl,ho,aA4 ns _ hall,hlen⟩
theorem aKa(l:OpenLaw)(args:List WData):l.row.toRowW.claim.post args (.bool true) args=true :=
 postW_of (r:=l.row.toRowW) (X:=(true==true))
  (show WShape.has [] (.bool true) .bool=true by first | rfl | decide | simp [WShape.has,WShape.arms,WShape.armsAll])
  (show (WTm.eq .res (.lit (.bool true))).value [] { args:=args,res:=some (.bool true),after:=args }=some (.bool (true==true)) from w_eq_bool (w_res rfl) w_lit) rfl
theorem attach_call{l:OpenLaw}{n:Nat}{q:Program}{loose:List Str}{XP:(Str->Option Value)->Heap->Prop}{YP:World->Heap->Prop}{d:DefRec}
  (hn:l.most=some n) (hdf:d.params.defaults=[])
  (call:∀ (w:World) (s₀ s₁:Shared) (mg mb:Str->Option Value) (fa:Addr) (o:Obj) (pm cd doc:Value) (a:Addr) (vs:List Value) (ns:List Int),
   Ground q loose [] XP w s₀ mg mb s₁.heap->YP w s₁.heap ->
   s₁.heap.get? fa=some o->o.data = .func (docDef d.name d.params d.body d.scope pm cd doc)->s₁.heap.CodeRec cd d.name->mg d.name=some (.ref fa) ->
   s₁.heap.get? a=some { cls := .type "list", data := .seq vs.toArray }->IntsAre vs ns->ns.length<=n->s₁.gens = #[] ->
   codeAny (model l.prog w) callerA (.call (.ref fa) ⟨[.ref a],[]⟩) (fun r s'=>r = .ok (.ret (.bool true))/\OldK s₁.heap s'.heap/\s'.os=s₁.os/\AllBare s'.gens) s₁) :
  WalkO q loose XP YP l.row.toRowW d [] (fun f vs=>PySem.call f vs):=by
 intro w s₀ s₁ mg mb G Y fa o pm cd doc dV kV ho hd hcd hD hmg hg args vals as hpre hlay hrd hwl hlo
 obtain rfl:dV = .none:=Dflts.none hD hdf
 obtain rfl:kV = .none:=Dflts.noKw hD
 obtain ⟨a,vs,ns,rfl,rfl,hobj,hints,hlen⟩:=aK9 hn hpre hwl
 refine enter_call (codeAny_mono (call w s₀ s₁ mg mb fa o pm cd doc a vs ns G Y ho (fd_plain hd) hcd hmg hobj hints hlen hg) fun r s' hq=>?_)
 obtain ⟨rfl,h2,h3,h4⟩:=hq
 exact ⟨.inl ⟨.bool true,.bool true,[],rfl,fun _=>rfl,.bool true,aKa l _,fun _=>⟨List.Pairwise.nil,fun _ hm=>(nomatch hm)⟩⟩,h2,h3,h4⟩
section
variable{prog:Program}{w:World}{A:Around}{E:Value->Shared->Prop}{s:Shared}{K:Frag}
end
end Att
namespace L2
open PySem PySem.Spec PyProof.Rows
theorem vals_ints:∀ {vs:List Value} {ns:List Int},IntsAre vs ns->Vals (ns.map V.int) vs
 | _,_,.nil => .nil
 | _,_,.cons n t h => .cons ⟨t,rfl⟩ (vals_ints h)
def Only(H:Hp):Prop:=∀ b,H b=none\/∃ o xs,H b=some (.frz o (.lst xs))
theorem aM7{P:Program}{w:World}{K:PySem.W.Frag}{mg mb:Str->Option Value}{CX:CXT}{k:Nat}{fa a:Addr}{fd:FuncData}{x:Str}{sp:Sp}{s₁:Shared}{vs:List Value}{ns:List Int}
  (KX:K.In s₁.heap) (hns:s₁.heap.Ns mainGlobals mg) (hb:s₁.heap.Ns builtinsNs mb) (hbb:∀ x:Str,x ≠ "__name__" -> mb x=bootBuiltins x) (hlim:s₁.heap.NoLimit) (hg:s₁.gens = #[])
  (ha:s₁.heap.get? a=some { cls := .type "list", data := .seq vs.toArray }) (hi:IntsAre vs ns) (hl:ns.length<=sizeLine) (hr:Room k callerA)
  (F:∀ base:Heap,K.In base->base.Ns mainGlobals mg->FnOk P w K mg base CX k fa fd [x] sp) (hbind:∀ (s:Shared) (u:Value),BindsTo s fd ⟨[u],[]⟩ [(x,u)])
  (hsp:∀ H:Hp,Only H->SqL K H a (ns.map V.int)->sp [.ref a] H (fun v _=>v = .bl true) fun _ _ _=>False)
  (hCX:∀ H e s',CX [] H s₁ (fun _ _ _=>False) e s'->False) :
  codeAny (model P w) callerA (.call (.ref fa) ⟨[.ref a],[]⟩) (fun r s'=>r = .ok (.ret (.bool true))/\OldK s₁.heap s'.heap/\s'.os=s₁.os/\AllBare s'.gens) s₁:=by
 have rv:=vals_ints hi
 have lenV:=hi.length
 have core:∀ H:Hp,Only H->SqL K H a (ns.map V.int)->HOk P w H s₁.heap->(∀ b,H b≠none->b=a)->(H a≠none->K.lookup a=none) ->
   codeAny (model P w) callerA (.call (.ref fa) ⟨[.ref a],[]⟩) (fun r s'=>r = .ok (.ret (.bool true))/\OldK s₁.heap s'.heap/\s'.os=s₁.os/\AllBare s'.gens) s₁:=by
  intro H hO hS hok hA hK
  have base_of:∀ {b:Addr} {o:Obj},s₁.heap.get? b=some o->H b=none->(aDi s₁.heap H).get? b=some o:=fun e n=>aLq e n
  have noA:∀ {b:Addr} {o:Obj} {es:Array DictEntry} {ep:Nat},s₁.heap.get? b=some o->o.data = .dict es ep->H b=none:=fun {b o es ep} e d=>by
   cases q:H b with
   | none=>rfl
   | some u =>
    have e':b=a:=hA b (by rw [q];simp)
    subst e'
    rw [ha] at e;cases e
    have d':Data.seq vs.toArray _=Data.dict es ep:=d
    cases d'
  have nsK:∀ {b:Addr} {m:Str->Option Value},s₁.heap.Ns b m->(aDi s₁.heap H).Ns b m:=fun {b m} ⟨o,es,ep,e,d,r⟩=>⟨o,es,ep,base_of e (noA e d),d,r⟩
  have hKb:K.In (aDi s₁.heap H):=fun b o e=>base_of (KX b o e) (by
   cases q:H b with
   | none=>rfl
   | some u =>
    have e':b=a:=hA b (by rw [q];simp)
    subst e'
    rw [hK (by rw [q];simp)] at e;cases e)
  have hM:Mod K mg (aDi s₁.heap H):=⟨hKb,nsK hns,⟨mb,nsK hb,hbb⟩,let ⟨mc,h1,h2⟩:=hlim;⟨mc,nsK h1,h2⟩⟩
  have e0:Env0 P w K mg (aDi s₁.heap H) callerA [] s₁ H:=⟨rfl,hM,fun b o e=>aP2 e,Nat.le_of_eq (aJy _ _),trivial,fun b hb=>absurd (show b∈([]:List Addr) from hb) (by simp),hok,.of_eq hg⟩
  refine codeAny_mono ((F _ hKb (nsK hns)).run callerA [] s₁ H ⟨[.ref a],[]⟩ [.ref a] [.ref a] _ _ hr e0 (hbind s₁ (.ref a)) (.cons rfl .nil) (hsp H hO hS)) fun r s' h=>?_
  cases r with
  | error e=>exact (hCX H e s' h).elim
  | ok fl =>
   cases fl with
   | next=>exact False.elim h
   | brk=>exact False.elim h
   | cont=>exact False.elim h
   | ret u =>
    obtain ⟨v,H',os,bare,un,hok',r',q⟩:=h
    have q':v = .bl true:=q
    subst q'
    obtain rfl:u=Value.bool true:=r'
    refine ⟨rfl,OldK.of_keep fun b o e=>?_,os,bare⟩
    cases q:H b with
    | none=>exact un.keep b o e q (by intro z;exact absurd (show b∈([]:List Addr) from z) (by simp)) (by simp)
    | some u =>
     rcases hO b with z | ⟨ob,xs,z⟩
     ·rw [q] at z;cases z
     ·have z2:=un.frzs b ob _ z
      obtain ⟨e1,_⟩:=hok b _ z
      obtain ⟨e2,_⟩:=hok' b _ z2
      rw [e] at e1;cases e1
      exact e2
 cases hk:K.lookup a with
 | some o =>
  have e:=KX a o hk
  rw [ha] at e
  cases e
  refine core (fun _=>none) (fun _ => .inl rfl) (.inr ⟨_,vs.toArray,_,hk,rfl,rfl,rfl,by rw [List.size_toArray,lenV];exact hl,by simpa using rv⟩) (fun b u z=>by have z':(none:Option HO)=some u:=z;cases z') (fun b z=>absurd rfl z) fun z=>absurd rfl z
 | none =>
  refine core (fun b=>if b=a then some (.frz { cls := .type "list", data := .seq vs.toArray } (.lst (ns.map V.int))) else none) (fun b=>?_) (.inl (.inr ⟨{ cls := .type "list", data := .seq vs.toArray },if_pos rfl⟩)) (fun b u z=>?_) (fun b z=>?_) fun _=>hk
  ·by_cases hb:b=a
   ·exact .inr ⟨_,_,if_pos hb⟩
   ·exact .inl (if_neg hb)
  ·by_cases hb:b=a
   ·have z':=(if_pos hb).symm.trans z
    cases z'
    subst hb
    exact ⟨ha,by rw [List.length_map];exact hl,vs,_,rv,ha⟩
   ·have z':=(if_neg hb).symm.trans z
    cases z'
  ·by_cases hb:b=a
   ·exact hb
   ·exact absurd (if_neg hb) z
end L2
namespace L2
open PySem PySem.Spec PyProof.Rows
theorem walk_of{l:PySem.W.OpenLaw}{n k:Nat}{q:Program}{loose:List Str}{XP:(Str->Option Value)->Heap->Prop}{YP:World->Heap->Prop}{d:DefRec}{K:Params->PySem.W.Frag}{CX:World->CXT}{sp:World->Sp}{x:Str}
  (hn:l.most=some n) (hn2:n<=sizeLine) (hdf:d.params.defaults=[]) (hr:Room k callerA)
  (hY:∀ (w:World) (h:Heap),YP w h->(K w.params).In h)
  (F:∀ (w:World) (mg:Str->Option Value) (fa:Addr) (h:Heap),(K w.params).In h->h.Ns mainGlobals mg->mg d.name=some (.ref fa) ->
   ∃ fd:FuncData,(∀ (s:Shared) (u:Value),BindsTo s fd ⟨[u],[]⟩ [(x,u)]) /\
    ∀ base:Heap,(K w.params).In base->base.Ns mainGlobals mg->FnOk l.prog w (K w.params) mg base (CX w) k fa fd [x] (sp w))
  (hsp:∀ (w:World) (H:Hp) (a:Addr) (ns:List Int),ns.length<=n->Only H->SqL (K w.params) H a (ns.map V.int)->sp w [.ref a] H (fun v _=>v = .bl true) fun _ _ _=>False)
  (hCX:∀ (w:World) (H:Hp) (s:Shared) (e:Value) (s':Shared),CX w [] H s (fun _ _ _=>False) e s'->False) :
  PySem.W.WalkO q loose XP YP l.row.toRowW d [] (fun f vs=>PySem.call f vs):=by
 refine Att.attach_call hn hdf fun w s₀ s₁ mg mb fa o pm cd doc a vs ns G Y ho hd hcd hmg hobj hints hlen hg=>?_
 have KX:=hY w _ Y
 obtain ⟨fd,hb,hF⟩:=F w mg fa _ KX G.T.g hmg
 exact aM7 KX G.T.g G.T.b G.T.builtins G.T.nolimit hg hobj hints (Nat.le_trans hlen hn2) hr hF hb (fun H hO hS=>hsp w H a ns hlen hO hS) fun H e s'=>hCX w H s₁ e s'
end L2
namespace L2
open PySem PySem.Spec PyProof.Rows
def bO(s:Stmt):Arguments:=match s with
 | .FunctionDef _ a _ _ _ _ _ _ _ _=>a
 | _=>{ posonlyargs:=[],args:=[],vararg:=none,kwonlyargs:=[],kw_defaults:=[],kwarg:=none,defaults:=[] }
def bI(s:Stmt):List Stmt:=match s with
 | .FunctionDef _ _ b _ _ _ _ _ _ _=>b
 | _=>[]
def aF(s:Stmt):Scope:=match s with
 | .FunctionDef _ _ _ _ _ _ sc _ _ _=>sc
 | _=>{ kind := .function,names:=[],isGenerator:=false,isCoroutine:=false }
abbrev CX0:CXT:=fun _ _ _ _ _ _=>False
abbrev E0:XK:=fun _ _ _=>False
theorem aM8{X:Cx}:xV CX0 X E0:=fun _ _ _ _ _ _ _ h=>h.elim
structure Fun(K:PySem.W.Frag)(x qual:Str)(st:Stmt)(f:Addr)(fd:FuncData):Prop where
 ex:∃ (oc:Value) (od:Option Addr) (kV doc pm:Value) (an:Option Addr) (cdv ct:Value) (osl:Array (Option Value)),
  fd=PySem.W.fnOf x qual (bO st) (bI st) (aF st) .none kV doc pm an cdv ct/\K.lookup f=some ⟨oc,od,.func fd,osl⟩/\PySem.W.codeIn K cdv qual=true
 kp:PySem.W.keepIn K (.ref f)=true
section
variable{P:Program}{w:World}{K:PySem.W.Frag}{mg:Str->Option Value}{base:Heap}
theorem Fun.ok{x qual:Str}{st:Stmt}{f:Addr}{fd:FuncData}{N ps:List Str}{k:Nat}{sp:Sp}(F:Fun K x qual st f fd)(S:FnScope N ps (aF st))(len:∀ vs H Q E,sp vs H Q E->vs.length=ps.length)
  (hbody:∀ (cdv:Value) (A:Around) (outer:List Env) (s:Shared) (H:Hp) (vs:List V) (Q:VK) (E:XK),Room k (A.deeper (envOfC qual (aF st) s.heap.objs.size f cdv))->sp vs H Q E ->
   ∃ t,PSs (xW CX0 P w K mg base N qual (aF st) f cdv A outer s H E).nox (bI st) t/\t { nx:=fun _ H'=>Q .non H',rt:=Q } (start N vs) H):FnOk P w K mg base CX0 (k+1) f fd ps sp:=by
 obtain ⟨oc,od,kV,doc,pm,an,cdv,ct,osl,rfl,lk,hcd⟩:=F.ex
 refine aM3 lk hcd S len fun A outer s H vs Q E hr hsp=>?_
 obtain ⟨t,h,q⟩:=hbody cdv A outer s H vs Q E hr hsp
 exact ⟨t,h.nox,q⟩
theorem Fun.binds{x qual:Str}{st:Stmt}{f:Addr}{fd:FuncData}{ps:List Str}(F:Fun K x qual st f fd)
  (h:∀ (kV doc pm:Value) (an:Option Addr) (cdv ct:Value) (us:List Value),us.length=ps.length->bindArgs (PySem.W.fnOf x qual (bO st) (bI st) (aF st) .none kV doc pm an cdv ct) ⟨us,[]⟩=pure (ps.zip us)):Binds K fd ps []:=by
 obtain ⟨oc,od,kV,doc,pm,an,cdv,ct,osl,rfl,lk,hcd⟩:=F.ex
 exact .all (h kV doc pm an cdv ct)
theorem aU2{x qual:Str}{st:Stmt}{f:Addr}{oc:Value}{od an:Option Addr}{osl:Array (Option Value)}{kV doc pm cdv ct:Value}(l:K.lookup f=some ⟨oc,od,.func (PySem.W.fnOf x qual (bO st) (bI st) (aF st) .none kV doc pm an cdv ct),osl⟩)
  (c:PySem.W.codeIn K cdv qual=true) (k:PySem.W.keepIn K (.ref f)=true):Fun K x qual st f (PySem.W.fnOf x qual (bO st) (bI st) (aF st) .none kV doc pm an cdv ct):=⟨⟨oc,od,kV,doc,pm,an,cdv,ct,osl,rfl,l,c⟩,k⟩
end
section
variable{X:Cx}
theorem pv(i:Nat){x:Str}{pos:Pos}(hN:X.N[i]?=some x:=by rfl)(hv:Vis X.env.scope x:=by first | exact Or.inl rfl | exact Or.inr (Or.inl rfl) | exact Or.inr (Or.inr rfl))(hd:(x==("__debug__" : Str))=false:=by decide)
  (hcd:(x==("__classdict__" : Str))=false:=by decide):PE X (.Name x pos) (aWj i):=rO hN hv hd hcd
end
def aZ(H H':Hp):Prop:=∀ b o,H b=some o->H' b=some o
theorem aZ.refl(H:Hp):aZ H H:=fun _ _ h=>h
theorem aZ.trans{H H1 H2:Hp}(a:aZ H H1)(b:aZ H1 H2):aZ H H2:=fun c o h=>b c o (a c o h)
theorem aZ.seq{K:PySem.W.Frag}{H H':Hp}{a:Addr}{xs:List V}(e:aZ H H')(h:SqL K H a xs):SqL K H' a xs:=by
 rcases h with (h | ⟨o,h⟩) | h
 ·exact .inl (.inl (e _ _ h))
 ·exact .inl (.inr ⟨o,e _ _ h⟩)
 ·exact .inr h
end L2
namespace L2
open PySem PySem.Spec PyProof.Rows
section
variable{κ:Type}[DecidableEq κ]
def vU(kvs:List (κ × V))(k:κ):Option V:=(kvs.find? fun kv=>decide (kv.1=k)).map (·.2)
def putK(kvs:List (κ × V))(k:κ)(v:V):List (κ × V) :=
 if (kvs.any fun kv=>decide (kv.1=k))=true then kvs.map (fun kv=>if kv.1=k then (kv.1,v) else kv) else kvs++[(k,v)]
theorem rP{p:κ × V}{r:List (κ × V)}{k:κ}(e:p.1=k):vU (p :: r) k=some p.2:=by simp [vU,List.find?_cons,e]
theorem rQ{p:κ × V}{r:List (κ × V)}{k:κ}(e:¬ p.1=k):vU (p :: r) k=vU r k:=by simp [vU,List.find?_cons,e]
theorem aF3(k:κ):∀ kvs:List (κ × V),(kvs.any fun kv=>decide (kv.1=k))=(vU kvs k).isSome
 | []=>rfl
 | p :: r=>by
  rw [List.any_cons]
  by_cases e:p.1=k
  ·simp only [rP e,decide_eq_true e,Bool.true_or,Option.isSome_some]
  ·rw [rQ e,decide_eq_false e,Bool.false_or];exact aF3 k r
theorem rR(kvs:List (κ × V))(k:κ)(v:V):(putK kvs k v).length<=kvs.length+1:=by
 unfold putK
 split
 ·rw [List.length_map];omega
 ·rw [List.length_append,List.length_cons,List.length_nil];omega
theorem pU.isSome_eq{o:Option V}{u:Option Value}(r:pU o u):o.isSome=u.isSome:=by
 cases o with
 | none=>cases u with
  | none=>rfl
  | some _=>exact (show False from r).elim
 | some _=>cases u with
  | none=>exact (show False from r).elim
  | some _=>rfl
theorem pU.getD{o:Option V}{u:Option Value}{d:V}{d':Value}(r:pU o u)(rd:RelV d d'):RelV (o.getD d) (u.getD d'):=by
 cases o with
 | none=>cases u with
  | none=>exact rd
  | some _=>exact (show False from r).elim
 | some _=>cases u with
  | none=>exact (show False from r).elim
  | some _=>exact r
theorem KV.val{kvs:List (κ × V)}{vs:List (κ × Value)}(r:KV kvs vs)(k:κ):pU (vU kvs k) (valueAt vs k):=by
 unfold KV at r
 induction r with
 | nil=>exact True.intro
 | @cons p q ps qs h t ih =>
  obtain ⟨h1,h2⟩:=h
  by_cases e:p.1=k
  ·have e':q.1=k:=h1.symm.trans e
   have b:valueAt (q :: qs) k=some q.2:=by simp [valueAt,List.find?_cons,e']
   rw [rP e,b];exact h2
  ·have e':¬ q.1=k:=fun z=>e (h1.trans z)
   have b:valueAt (q :: qs) k=valueAt qs k:=by simp [valueAt,List.find?_cons,e']
   rw [rQ e,b];exact ih
theorem KV.any{kvs:List (κ × V)}{vs:List (κ × Value)}(r:KV kvs vs)(k:κ):(kvs.any fun kv=>decide (kv.1=k))=vs.any fun kv=>decide (kv.1=k):=by
 unfold KV at r
 induction r with
 | nil=>rfl
 | cons h t ih=>rw [List.any_cons,List.any_cons,ih,h.1]
theorem KV.repl{kvs:List (κ × V)}{vs:List (κ × Value)}(r:KV kvs vs)(k:κ){y:V}{u:Value}(ry:RelV y u) :
  KV (kvs.map fun kv=>if kv.1=k then (kv.1,y) else kv) (vs.map fun kv=>if kv.1=k then (kv.1,u) else kv):=by
 unfold KV at r ⊢
 induction r with
 | nil=>exact .nil
 | @cons p q ps qs h t ih =>
  rw [List.map_cons,List.map_cons]
  refine .cons ?_ ih
  obtain ⟨h1,h2⟩:=h
  by_cases e:p.1=k
  ·rw [if_pos e,if_pos (h1.symm.trans e)];exact ⟨h1,ry⟩
  ·rw [if_neg e,if_neg (fun z=>e (h1.trans z))];exact ⟨h1,h2⟩
theorem KV.put{kvs:List (κ × V)}{vs:List (κ × Value)}(r:KV kvs vs)(k:κ){y:V}{u:Value}(ry:RelV y u):KV (putK kvs k y) (stored vs k u):=by
 unfold putK stored
 rw [r.any k]
 by_cases e:(vs.any fun kv=>decide (kv.1=k))=true
 ·rw [if_pos e,if_pos e];exact r.repl k ry
 ·rw [if_neg e,if_neg e];exact Paired.snoc r ⟨rfl,ry⟩
theorem KV.length{kvs:List (κ × V)}{vs:List (κ × Value)}(r:KV kvs vs):kvs.length=vs.length:=Paired.length r
end
theorem zG{P:Program}{w:World}{k:Key}{u:Value}(r:RelV (kV k) u):(dD P w).is k u=true:=by
 cases k with
 | inl i=>obtain ⟨t,e⟩:=(show ∃ t,u=Value.int i t from r);subst e;exact aEx P w i t
 | inr x=>obtain ⟨t,e⟩:=(show ∃ t,u=Value.str x t from r);subst e;exact aEy P w x t
theorem aCp{P:Program}{w:World}:∀ {ks:List Key} {us:List Value},Vals (ks.map kV) us->ItemsAre (dD P w) ks us
 | [],_,r=>by rw [List.map_nil] at r;cases r;exact .nil
 | k :: ks,_,r=>by
  rw [List.map_cons] at r
  cases r with
  | cons h t=>exact .cons (zG h) (aCp t)
abbrev KT(H:Hp):List (List Key × V)->List (List Key × Addr × Value)->Prop:=Paired fun p q=>p.1=q.1/\H q.2.1=some (.tup (p.1.map kV))/\RelV p.2 q.2.2
theorem KT.val{H:Hp}{kvs:List (List Key × V)}{xs:List (List Key × Addr × Value)}(r:KT H kvs xs)(k:List Key):pU (vU kvs k) ((atKey xs k).map (·.2)):=by
 induction r with
 | nil=>exact True.intro
 | @cons p q ps qs h t ih =>
  obtain ⟨h1,_,h2⟩:=h
  by_cases e:p.1=k
  ·have e':q.1=k:=h1.symm.trans e
   have b:atKey (q :: qs) k=some q.2:=by simp [atKey,List.find?_cons,e']
   rw [rP e,b];exact h2
  ·have e':¬ q.1=k:=fun z=>e (h1.trans z)
   have b:atKey (q :: qs) k=atKey qs k:=by simp [atKey,List.find?_cons,e']
   rw [rQ e,b];exact ih
theorem KT.repl{H:Hp}{kvs:List (List Key × V)}{xs:List (List Key × Addr × Value)}(r:KT H kvs xs)(k:List Key){y:V}{u:Value}(ry:RelV y u) :
  KT H (kvs.map fun kv=>if kv.1=k then (kv.1,y) else kv) (xs.map (putAt k u)):=by
 induction r with
 | nil=>exact .nil
 | @cons p q ps qs h t ih =>
  rw [List.map_cons,List.map_cons]
  refine .cons ?_ ih
  obtain ⟨h1,h2,h3⟩:=h
  unfold putAt
  by_cases e:p.1=k
  ·rw [if_pos e,if_pos (h1.symm.trans e)];exact ⟨h1,h2,ry⟩
  ·rw [if_neg e,if_neg (fun z=>e (h1.trans z))];exact ⟨h1,h2,h3⟩
theorem KT.put{H:Hp}{kvs:List (List Key × V)}{xs:List (List Key × Addr × Value)}(r:KT H kvs xs)(k:List Key){b:Addr}{y:V}{u:Value}(hb:H b=some (.tup (k.map kV)))(ry:RelV y u) :
  KT H (putK kvs k y) (storedH xs k b u):=by
 have e:(kvs.any fun kv=>decide (kv.1=k))=(atKey xs k).isSome:=by
  rw [aF3,(r.val k).isSome_eq,Option.isSome_map]
 unfold putK storedH
 rw [e]
 by_cases q:(atKey xs k).isSome=true
 ·rw [if_pos q,if_pos q];exact r.repl k ry
 ·rw [if_neg q,if_neg q];exact Paired.snoc r ⟨rfl,hb,ry⟩
theorem KT.keeps{H H':Hp}{kvs:List (List Key × V)}{xs:List (List Key × Addr × Value)}(r:KT H kvs xs)(ht:∀ b ys,H b=some (.tup ys)->H' b=some (.tup ys)):KT H' kvs xs :=
 Paired.mapP r fun _ _ z=>⟨z.1,ht _ _ z.2.1,z.2.2⟩
section
variable{P:Program}{w:World}{H:Hp}{h:Heap}{a:Addr}
theorem aRz{u:HO}(ok:HOk P w H h)(e:Rd H a u):iD P w H h a u:=e.ok ok
theorem vV{kvs:List (Key × V)}(ok:HOk P w H h)(e:Rd H a (.dK kvs)):kvs.length<=sizeLine/\(a==sysModules)=false/\∃ vs,KV kvs vs/\h.DictOf (dD P w) a vs :=
 show iD P w H h a (.dK kvs) from aRz ok e
theorem aS0{kvs:List (Key × V)}(ok:HOk P w H h)(e:H a=some (.dK kvs)):kvs.length<=sizeLine/\(a==sysModules)=false/\∃ vs,KV kvs vs/\h.DictOf (dD P w) a vs:=vV ok (.inl e)
theorem uP{ks:List Key}(ok:HOk P w H h)(e:H a=some (.tup (ks.map kV))):(tupleKind (dD P w)).is h ks a:=by
 obtain ⟨_,its,r,o,h1,h2,n,h3⟩:=(show iD P w H h a (.tup (ks.map kV)) from ok a _ e)
 exact ⟨o,its.toArray,n,h1,h2,h3,by simpa using aCp r⟩
theorem zH{kvs:List (List Key × V)}(ok:HOk P w H h)(e:Rd H a (.dT kvs)):kvs.length<=sizeLine/\(a==sysModules)=false /\
  ∃ xs,KT H kvs xs/\h.DictOfH (tupleKind (dD P w)) a xs:=by
 obtain ⟨z,y,xs,r,o,es,ep,h1,h2,h3,h4,h5⟩:=(show iD P w H h a (.dT kvs) from aRz ok e)
 refine ⟨z,y,xs,r,o,es,ep,h1,h2,h3,h4,fun x hx=>?_,h5⟩
 have all:∀ {l:List (List Key × V)} {m:List (List Key × Addr × Value)},KT H l m->∀ x∈m,(tupleKind (dD P w)).is h x.1 x.2.1:=by
  intro l m q
  induction q with
  | nil=>intro x hx;exact nomatch hx
  | @cons p q ps qs hq t ih =>
   intro x hx
   rcases List.mem_cons.mp hx with e | hx
   ·subst e
    exact uP ok (by rw [<-hq.1];exact hq.2.1)
   ·exact ih x hx
 exact all r x hx
theorem aXa{kvs:List (List Key × V)}(ok:HOk P w H h)(e:H a=some (.dT kvs)):kvs.length<=sizeLine/\(a==sysModules)=false /\
  ∃ xs,KT H kvs xs/\h.DictOfH (tupleKind (dD P w)) a xs:=zH ok (.inl e)
end
def rG(H:Hp)(a:Addr)(y:V)(r:Option V):Prop :=
 (∃ kvs k,Rd H a (.dK kvs)/\y=kV k/\r=vU kvs k)\/∃ kvs k b,Rd H a (.dT kvs)/\y = .ref b/\H b=some (.tup (k.map kV))/\r=vU kvs k
def aDr(H:Hp)(a:Addr)(y v:V)(H':Hp):Prop :=
 (∃ kvs k,H a=some (.dK kvs)/\y=kV k/\kvs.length < sizeLine/\H'=upd H a (.dK (putK kvs k v))) \/
 ∃ kvs k b,H a=some (.dT kvs)/\y = .ref b/\H b=some (.tup (k.map kV))/\kvs.length < sizeLine/\H'=upd H a (.dT (putK kvs k v))
theorem rG.k{H:Hp}{a:Addr}{kvs:List (Key × V)}{k:Key}(e:H a=some (.dK kvs)):rG H a (kV k) (vU kvs k) := .inl ⟨kvs,k,.inl e,rfl,rfl⟩
theorem rG.t{H:Hp}{a b:Addr}{kvs:List (List Key × V)}{k:List Key}(e:H a=some (.dT kvs))(eb:H b=some (.tup (k.map kV))):rG H a (.ref b) (vU kvs k) := .inr ⟨kvs,k,b,.inl e,rfl,eb,rfl⟩
theorem aDr.k{H:Hp}{a:Addr}{kvs:List (Key × V)}{k:Key}{v:V}(e:H a=some (.dK kvs))(hl:kvs.length < sizeLine):aDr H a (kV k) v (upd H a (.dK (putK kvs k v))) := .inl ⟨kvs,k,e,rfl,hl,rfl⟩
theorem aDr.t{H:Hp}{a b:Addr}{kvs:List (List Key × V)}{k:List Key}{v:V}(e:H a=some (.dT kvs))(eb:H b=some (.tup (k.map kV)))(hl:kvs.length < sizeLine) :
  aDr H a (.ref b) v (upd H a (.dT (putK kvs k v))) := .inr ⟨kvs,k,b,e,rfl,eb,hl,rfl⟩
section
variable{X:Cx}{pins:List (Addr × Obj)}{σ:St}{H:Hp}{s:Shared}{a:Addr}{y v:V}{u r:Value}{o:Option V}{A:Around}{E:Value->Shared->Prop}
theorem Inv.big(I:Inv X pins σ H s):sysModules < s.heap.objs.size:=by
 have h:mainGlobals < s.heap.objs.size:=(I.mod.glob.keeps I.bk).lt
 exact Nat.lt_trans (by decide) h
theorem aKb{Q:Value->Shared->Prop}(hu:A.units+1 < cLine)(I:Inv X pins σ H s)(g:rG H a y (some v))(ry:RelV y u)(h:∀ w' s',Inv X pins σ H s'->RelV v w'->Q w' s') :
  wpAny (model X.prog X.w) A (getItem (.ref a) u) Q E s:=by
 rcases g with ⟨kvs,k,e,ey,l⟩ | ⟨kvs,k,b,e,ey,eb,l⟩
 ·subst ey
  obtain ⟨z,hd,vs,rel,dd⟩:=vV I.hok e
  obtain ⟨w',hw,rw'⟩:=pU.some_of (v:=v) (o:=valueAt vs k) (by rw [l];exact rel.val k)
  exact wpAny_getItem_of (zG ry) dd.mapOf hw (h w' _ (I.tok _) rw')
 ·subst ey
  cases (show u=Value.ref b from ry)
  obtain ⟨z,hd,xs,rel,dd⟩:=zH I.hok e
  obtain ⟨w',hw,rw'⟩:=pU.some_of (v:=v) (o:=(atKey xs k).map (·.2)) (by rw [l];exact rel.val k)
  obtain ⟨p,hp,hp2⟩:=Option.map_eq_some_iff.mp hw
  refine wpAny_getItem_heap (tupleKind_room_in1 hu) (uP I.hok eb) dd hp ?_
  rw [hp2]
  exact h w' _ (I.tok _) rw'
theorem bAp{Q:Value->Shared->Prop}(hu:A.units+1 < cLine)(I:Inv X pins σ H s)(g:rG H a y o)(ry:RelV y u)(h:∀ s',Inv X pins σ H s'->Q (.bool o.isSome) s') :
  wpAny (model X.prog X.w) A (compareOp .In u (.ref a)) Q E s:=by
 rcases g with ⟨kvs,k,e,ey,l⟩ | ⟨kvs,k,b,e,ey,eb,l⟩
 ·subst ey
  obtain ⟨z,hd,vs,rel,dd⟩:=vV I.hok e
  refine wpAny_in_of (zG ry) hd dd.mapOf ?_
  rw [<-(rel.val k).isSome_eq,<-l]
  exact h _ (I.tok _)
 ·subst ey
  cases (show u=Value.ref b from ry)
  obtain ⟨z,hd,xs,rel,dd⟩:=zH I.hok e
  refine wpAny_in_heap (tupleKind_room_in1 hu) (uP I.hok eb) hd dd ?_
  have q:=(rel.val k).isSome_eq
  rw [Option.isSome_map] at q
  rw [<-q,<-l]
  exact h _ (I.tok _)
theorem aPr{Q:Value->Shared->Prop}(hu:A.units+1 < cLine)(I:Inv X pins σ H s)(g:rG H a y o)(ry:RelV y u)(h:∀ s',Inv X pins σ H s'->Q (.bool (!o.isSome)) s') :
  wpAny (model X.prog X.w) A (compareOp .NotIn u (.ref a)) Q E s:=by
 rcases g with ⟨kvs,k,e,ey,l⟩ | ⟨kvs,k,b,e,ey,eb,l⟩
 ·subst ey
  obtain ⟨z,hd,vs,rel,dd⟩:=vV I.hok e
  refine wpAny_notIn_of (zG ry) hd dd.mapOf ?_
  rw [<-(rel.val k).isSome_eq,<-l]
  exact h _ (I.tok _)
 ·subst ey
  cases (show u=Value.ref b from ry)
  obtain ⟨z,hd,xs,rel,dd⟩:=zH I.hok e
  refine wpAny_notIn_heap (tupleKind_room_in1 hu) (uP I.hok eb) hd dd ?_
  have q:=(rel.val k).isSome_eq
  rw [Option.isSome_map] at q
  rw [<-q,<-l]
  exact h _ (I.tok _)
theorem aDs{h':Heap}{t':Nat}{ob:HO}(I:Inv X pins σ H s)(mu:Mut (H a))(hs:Heap.SameBut a s.heap h')(he:∃ q,h'.get? a=some q)(new:iD X.prog X.w (upd H a ob) h' a ob) :
  Inv X pins σ (upd H a ob) { s with heap:=h',toks:=t' } :=
 I.write (x:=a) (e:=a) mu (.inl rfl) (fun b q hb z=>(hs.2 b hb).trans z) he new
theorem aM9{P:Program}{w:World}{H':Hp}{h':Heap}{kvs:List (Key × V)}{vs:List (Key × Value)}(z:kvs.length<=sizeLine)(hd:(a==sysModules)=false)(rel:KV kvs vs)(dd:h'.DictOf (dD P w) a vs) :
  iD P w H' h' a (.dK kvs):=⟨z,hd,vs,rel,dd⟩
theorem aKc{H':Hp}{Q:Unit->Shared->Prop}(hu:A.units+1 < cLine)(I:Inv X pins σ H s)(g:aDr H a y v H')(ry:RelV y u)(rv:RelV v r)(h:∀ s',Inv X pins σ H' s'->Q () s') :
  wpAny (model X.prog X.w) A (setItem (.ref a) u r) Q E s:=by
 rcases g with ⟨kvs,k,e,ey,l,eH⟩ | ⟨kvs,k,b,e,ey,eb,l,eH⟩
 ·subst ey eH
  obtain ⟨z,hd,vs,rel,dd⟩:=aS0 I.hok e
  have hz:vs.length<=sizeLine:=by rw [<-rel.length];exact z
  have hl:(putK kvs k v).length<=sizeLine:=by have:=rR kvs k v;omega
  refine wpAny_setItem_pairs (hsz:=hz) (zG ry) dd fun h' dd' hs=>h _ ?_
  have he:∃ q,h'.get? a=some q:=let ⟨q,_,_,hq,_⟩:=dd';⟨q,hq⟩
  exact aDs I (by rw [e];exact True.intro) hs he (aM9 hl hd (rel.put k rv) dd')
 ·subst ey eH
  cases (show u=Value.ref b from ry)
  obtain ⟨z,hd,xs,rel,dd⟩:=aXa I.hok e
  have hz:xs.length<=sizeLine:=by rw [<-Paired.length rel];exact z
  have hl:(putK kvs k v).length<=sizeLine:=by have:=rR kvs k v;omega
  refine wpAny_setItem_heap (hsz:=hz) (tupleKind_room_in1 hu) (uP I.hok eb) dd fun h' dd' hs=>h _ ?_
  obtain ⟨q,es,ep,hq,h2,h3,h4,_,h5⟩:=dd'
  refine aDs I (by rw [e];exact True.intro) hs ⟨q,hq⟩ ⟨hl,hd,_,(rel.put k eb rv).keeps fun c ys ec=>?_,q,es,ep,hq,h2,h3,h4,h5⟩
  rw [bT (aWi ec e (fun z=>nomatch z))]
  exact ec
end
section
variable{X:Cx}{pins:List (Addr × Obj)}{σ:St}{H:Hp}{s:Shared}{a:Addr}{kvs:List (Key × V)}{k:Key}{u:Value}{A:Around}{E:Value->Shared->Prop}
theorem aXb{Q:Value->Shared->Prop}(I:Inv X pins σ H s)(e:Rd H a (.dK kvs))(h:∀ t s',Inv X pins σ H s'->Q (.int kvs.length t) s'):wpAny (model X.prog X.w) A (call (.builtin "len") [.ref a]) Q E s:=by
 obtain ⟨z,hd,vs,rel,dd⟩:=vV I.hok e
 refine call_len_dict hd dd (by rw [<-rel.length];rw [sizeLine_eq] at z;omega) ?_
 rw [<-rel.length]
 exact h _ _ (I.tok _)
end
theorem aF4{X:Cx}{pins:List (Addr × Obj)}{σ:St}{H:Hp}{s:Shared}{a:Addr}{y:V}{o:Option V}(I:Inv X pins σ H s)(g:rG H a y o):s.TypeIs (.ref a) "dict" := by
 rcases g with ⟨kvs,k,e,_,_⟩ | ⟨kvs,k,b,e,_,_,_⟩
 ·obtain ⟨_,_,vs,_,dd⟩:=vV I.hok e
  exact dd.typeIs
 ·obtain ⟨_,_,xs,_,dd⟩:=zH I.hok e
  exact dd.typeIs
def sDPut(td ty tv:TE):TS:=fun D σ H=>tv σ H fun v H1=>td σ H1 fun x H2=>ty σ H2 fun y H3=>∃ a H4,x = .ref a/\aDr H3 a y v H4/\D.nx σ H4
section
variable{X:Cx}{o i e value:Expr}{pos pos' tpos:Pos}{td ty tv:TE}
end
theorem aF5{P:Program}{w:World}{H:Hp}(h:Heap)(hb:sysModules < h.objs.size):iD P w H (h.push { cls := .type "dict", data := .dict #[] }) h.objs.size (.dK []) :=
 ⟨Nat.zero_le _,beq_eq_false_iff_ne.mpr (Ne.symm (Nat.ne_of_lt hb)),[],.nil,Heap.DictOf.new h⟩
def aU3:TE:=fun _ H Q=>∀ p,H p=none->Q (.ref p) (upd H p (.dK []))
section
variable{X:Cx}{pos:Pos}
theorem aMa:PE X (.Dict [] [] pos) aU3:=fun pins s σ H Q I h =>
 wpAny_Dict_empty ⟨.ref s.heap.objs.size,_,I.laid (a:=s.heap.objs.size) (o := .dK []) (t':=s.toks) (fun _ _ q=>Heap.get?_push_of_some _ q) (Nat.le_refl _) (aF5 s.heap I.big),rfl,h _ (I.hok.fresh (Nat.le_refl _))⟩
end
def aGx:List (TE × TE)->St->Hp->(List (V × V)->Hp->Prop)->Prop
 | [],_,H,Q=>Q [] H
 | (tk,tv) :: r,σ,H,Q=>tk σ H fun x H1=>tv σ H1 fun y H2=>aGx r σ H2 fun ps H3=>Q ((x,y) :: ps) H3
abbrev VV:List (V × V)->List (Value × Value)->Prop:=Paired fun p q=>RelV p.1 q.1/\RelV p.2 q.2
def PPs(X:Cx)(pos:Pos)(keys:List (Option Expr))(values:List Expr)(trs:List (TE × TE)):Prop :=
 ∀ (pins:List (Addr × Obj)) (s:Shared) (σ:St) (H:Hp) (Q:List (V × V)->Hp->Prop),Inv X pins σ H s->aGx trs σ H Q ->
  wpAny (model X.prog X.w) X.A (evalPairs (pairTrees keys values X.env pos)) (fun vs s'=>∃ ps H',Inv X pins σ H' s'/\VV ps vs/\Q ps H') X.xe s
theorem aPs{X:Cx}{pos:Pos}:PPs X pos [] [] []:=fun pins s σ H Q I h=>pairTrees_nil_walk ⟨[],H,I,.nil,h⟩
theorem aMb{X:Cx}{pos:Pos}{k v:Expr}{ks:List (Option Expr)}{vs:List Expr}{tk tv:TE}{trs:List (TE × TE)}(hk:PE X k tk)(hv:PE X v tv)(hr:PPs X pos ks vs trs) :
  PPs X pos (some k :: ks) (v :: vs) ((tk,tv) :: trs):=fun pins s σ H Q I h =>
 pairTrees_cons_walk (thn (hk pins s σ H _ I h) fun u s1 ⟨x,H1,I1,rx,q1⟩=>thn (hv pins s1 σ H1 _ I1 q1) fun w2 s2 ⟨y,H2,I2,ry,q2⟩ =>
  thn (hr pins s2 σ H2 _ I2 q2) fun ws s3 ⟨ps,H3,I3,rel,q3⟩=>⟨(x,y) :: ps,H3,I3,.cons ⟨rx,ry⟩ rel,q3⟩)
def xX(kvs more:List (Key × V)):List (Key × V):=more.foldl (fun acc kv=>putK acc kv.1 kv.2) kvs
theorem KV.merge:∀ {more:List (Key × V)} {rs:List (Key × Value)} {kvs:List (Key × V)} {vs:List (Key × Value)},KV more rs->KV kvs vs->KV (xX kvs more) (merged vs rs):=by
 intro more rs kvs vs r
 unfold KV at r
 induction r generalizing kvs vs with
 | nil=>intro q;exact q
 | @cons p q ps qs h t ih =>
  intro r0
  have e:KV (putK kvs p.1 p.2) (stored vs q.1 q.2):=by
   have:=r0.put p.1 h.2
   rw [<-h.1];exact this
  exact ih e
theorem uD:∀ (more kvs:List (Key × V)),(xX kvs more).length<=kvs.length+more.length
 | [],kvs=>by show kvs.length<=kvs.length+0;omega
 | p :: r,kvs=>by
  have h1:=uD r (putK kvs p.1 p.2)
  have h2:=rR kvs p.1 p.2
  show (xX (putK kvs p.1 p.2) r).length<=_
  rw [List.length_cons];omega
theorem aAn{P:Program}{w:World}:∀ {kvs:List (Key × V)} {ws:List (Value × Value)},VV (kvs.map fun kv=>(kV kv.1,kv.2)) ws->∃ rs,Carries (dD P w) ws rs/\KV kvs rs
 | [],_,r=>by rw [List.map_nil] at r;cases r;exact ⟨[],True.intro,.nil⟩
 | p :: kvs,_,r=>by
  rw [List.map_cons] at r
  cases r with
  | @cons a b as bs h t =>
   obtain ⟨rs,c,q⟩:=aAn (P:=P) (w:=w) t
   obtain ⟨b1,b2⟩:=b
   exact ⟨(p.1,b2) :: rs,⟨zG h.1,rfl,c⟩,.cons ⟨rfl,h.2⟩ q⟩
def aXc(trs:List (TE × TE)):TE:=fun σ H Q=>∀ p,H p=none->aGx trs σ (upd H p (.dK [])) fun ps H2=>H2 p=some (.dK [])/\∃ kvs:List (Key × V),ps=kvs.map (fun kv=>(kV kv.1,kv.2))/\kvs.length<=15/\Q (.ref p) (upd H2 p (.dK (xX [] kvs)))
theorem aPt{X:Cx}{pos:Pos}{keys:List (Option Expr)}{values:List Expr}{trs:List (TE × TE)}(h:PPs X pos keys values trs)(hall:keys.all (·.isSome)=true)(hl:keys.length=values.length)(h0:keys≠[])
  (h15:keys.length<=15):PE X (.Dict keys values pos) (aXc trs):=by
 intro pins s σ H Q I q
 have hn:=I.hok.fresh (Nat.le_refl s.heap.objs.size)
 have I1:=I.laid (a:=s.heap.objs.size) (o := .dK []) (h':=s.heap.push { cls := .type "dict", data := .dict #[] }) (t':=s.toks) (fun _ _ q=>Heap.get?_push_of_some _ q) (Nat.le_refl _) (aF5 s.heap I.big)
 refine wpAny_Dict_walk (knd:=dD X.prog X.w) hall hl h0 h15 (thn (h pins _ σ _ _ I1 (q _ hn)) fun ws s2 ⟨ps,H2,I2,rel,e,kvs,ep,lk,q2⟩=>?_)
 subst ep
 obtain ⟨rs,c,rk⟩:=aAn (P:=X.prog) (w:=X.w) rel
 obtain ⟨z,hd,vs0,r0,dd⟩:=aS0 I2.hok e
 cases r0
 refine ⟨rs,c,dd,fun h' dd' hs=>⟨.ref s.heap.objs.size,_,?_,rfl,q2⟩⟩
 have hz:(xX [] kvs).length<=sizeLine:=by
  have h1:=uD kvs []
  rw [List.length_nil] at h1
  rw [sizeLine_eq];omega
 have he:∃ q,h'.get? s.heap.objs.size=some q:=let ⟨q,_,_,hq,_⟩:=dd';⟨q,hq⟩
 exact aDs I2 (by rw [e];exact True.intro) hs he (aM9 hz hd (rk.merge .nil) dd')
structure M1(X:Cx)(o:Expr)(m:Str)(apos:Pos)(e:Expr)(cpos:Pos):Prop where
 base:attributeBase o m X.env (eval o X.env)=eval o X.env
 few:((backTo cpos (starEach [e] X.env)).all (fun x => !x.1)&&(backToKw cpos (keywordEach [] X.env)).all (fun x=>x.1.isSome)
  && decide (([e]:List Expr).length+([]:List Keyword).length+(if ([]:List Keyword).isEmpty then 0 else 1) < 30))=true
 line:(apos.endLine==cpos.line)=true
 trees:backTo cpos (starEach [e] X.env)=[(false,eval e X.env)]
structure M2(X:Cx)(o:Expr)(m:Str)(apos:Pos)(e f:Expr)(cpos:Pos):Prop where
 base:attributeBase o m X.env (eval o X.env)=eval o X.env
 few:((backTo cpos (starEach [e,f] X.env)).all (fun x => !x.1)&&(backToKw cpos (keywordEach [] X.env)).all (fun x=>x.1.isSome)
  && decide (([e,f]:List Expr).length+([]:List Keyword).length+(if ([]:List Keyword).isEmpty then 0 else 1) < 30))=true
 line:(apos.endLine==cpos.line)=true
 trees:backTo cpos (starEach [e,f] X.env)=[(false,eval e X.env),(false,eval f X.env)]
def IsD(H:Hp)(a:Addr):Prop:=(∃ kvs,Rd H a (.dK kvs))\/∃ kvs,Rd H a (.dT kvs)
theorem aMc{X:Cx}{pins:List (Addr × Obj)}{σ:St}{H:Hp}{s:Shared}{a:Addr}(I:Inv X pins σ H s)(d:IsD H a) :
  s.TypeIs (.ref a) "dict" /\ (∀ b,Value.ref a = .ref b->∃ ob,s.heap.get? b=some ob/\ob.dict=none)/\(a==sysModules)=false:=by
 rcases d with ⟨kvs,e⟩ | ⟨kvs,e⟩
 ·obtain ⟨_,hd,vs,_,dd⟩:=vV I.hok e
  refine ⟨dd.typeIs,fun b q=>?_,hd⟩
  cases q
  obtain ⟨ob,_,_,h1,h2,_⟩:=dd
  exact ⟨ob,h1,h2.2.1⟩
 ·obtain ⟨_,hd,xs,_,dd⟩:=zH I.hok e
  refine ⟨dd.typeIs,fun b q=>?_,hd⟩
  cases q
  obtain ⟨ob,_,_,h1,h2,_⟩:=dd
  exact ⟨ob,h1,h2.2.1⟩
section
variable{X:Cx}{pins:List (Addr × Obj)}{σ:St}{H:Hp}{s:Shared}{a:Addr}{y d:V}{u r:Value}{o:Option V}{A:Around}{E:Value->Shared->Prop}
theorem aU4{Q:Value->Shared->Prop}(hu:A.units+1 < cLine)(I:Inv X pins σ H s)(g:rG H a y o)(ry:RelV y u)(h:∀ w' s',Inv X pins σ H s'->RelV (o.getD .non) w'->Q w' s') :
  wpAny (model X.prog X.w) A (call (.builtin "dict.get") [.ref a,u]) Q E s:=by
 rcases g with ⟨kvs,k,e,ey,l⟩ | ⟨kvs,k,b,e,ey,eb,l⟩
 ·subst ey
  obtain ⟨z,hd,vs,rel,dd⟩:=vV I.hok e
  refine call_meetsIn PySem.F.slot_dict_get dd.typeIs PySem.F.entry_dict_get (PySem.F.args_dict_get_2 _ _) (meets_dict_get (dD X.prog X.w) a (zG ry) hd) ⟨_,dd.mapOf,h _ _ (I.tok _) ?_⟩
  rw [l]
  exact (rel.val k).getD rfl
 ·subst ey
  cases (show u=Value.ref b from ry)
  obtain ⟨z,hd,xs,rel,dd⟩:=zH I.hok e
  refine call_meetsIn PySem.F.slot_dict_get dd.typeIs PySem.F.entry_dict_get (PySem.F.args_dict_get_2 _ _) (meetsH_dict_get (tupleKind (dD X.prog X.w)) a b hd) ⟨tupleKind_room_in1 hu,k,xs,uP I.hok eb,dd,h _ _ (I.tok _) ?_⟩
  rw [l]
  exact (rel.val k).getD rfl
theorem aU5{Q:Value->Shared->Prop}(hu:A.units+1 < cLine)(I:Inv X pins σ H s)(g:rG H a y o)(ry:RelV y u)(rd:RelV d r)(h:∀ w' s',Inv X pins σ H s'->RelV (o.getD d) w'->Q w' s') :
  wpAny (model X.prog X.w) A (call (.builtin "dict.get") [.ref a,u,r]) Q E s:=by
 rcases g with ⟨kvs,k,e,ey,l⟩ | ⟨kvs,k,b,e,ey,eb,l⟩
 ·subst ey
  obtain ⟨z,hd,vs,rel,dd⟩:=vV I.hok e
  refine call_meetsIn PySem.F.slot_dict_get dd.typeIs PySem.F.entry_dict_get (PySem.F.args_dict_get_3 _ _ _) (meets_dict_get_default (dD X.prog X.w) a (zG ry) hd r) ⟨_,dd.mapOf,h _ _ (I.tok _) ?_⟩
  rw [l]
  exact (rel.val k).getD rd
 ·subst ey
  cases (show u=Value.ref b from ry)
  obtain ⟨z,hd,xs,rel,dd⟩:=zH I.hok e
  refine call_meetsIn PySem.F.slot_dict_get dd.typeIs PySem.F.entry_dict_get (PySem.F.args_dict_get_3 _ _ _) (meetsH_dict_get_default (tupleKind (dD X.prog X.w)) a b hd r) ⟨tupleKind_room_in1 hu,k,xs,uP I.hok eb,dd,h _ _ (I.tok _) ?_⟩
  rw [l]
  exact (rel.val k).getD rd
end
def aU6(td ty:TE):TE:=fun σ H Q=>td σ H fun x H1=>∃ a,x = .ref a/\IsD H1 a/\ty σ H1 fun y H2=>∃ o,rG H2 a y o/\Q (o.getD .non) H2
def aU7(td ty tx:TE):TE:=fun σ H Q=>td σ H fun x H1=>∃ a,x = .ref a/\IsD H1 a/\ty σ H1 fun y H2=>tx σ H2 fun z H3=>∃ o,rG H3 a y o/\Q (o.getD z) H3
section
variable{X:Cx}{o e f:Expr}{apos cpos:Pos}{td ty tx:TE}
theorem aMd(hu:X.A.units+1 < cLine)(ho:PE X o td)(he:PE X e ty)(m:M1 X o "get" apos e cpos):PE X (.Call (.Attribute o "get" apos) [e] [] cpos) (aU6 td ty):=by
 intro pins s σ H Q I h
 refine wpAny_Call_method m.base m.few m.line PySem.F.plainAttrs_dict PySem.F.slot_dict_get PySem.F.type_dict_get (thn (ho pins s σ H _ I h) fun u s1 ⟨x,H1,I1,rx,a,ex,d,q1⟩=>?_)
 subst ex
 obtain rfl:u=Value.ref a:=rx
 obtain ⟨t1,t2,_⟩:=aMc I1 d
 refine ⟨t1,t2,?_⟩
 rw [m.trees]
 refine Calls.callWith_builtin rfl (Calls.evalArgs_plain (Calls.spliced_cons (thn (he pins s1 σ H1 _ I1 q1) fun iv s2 ⟨y,H2,I2,ry,ov,g,q2⟩=>Calls.spliced_nil ?_)))
 exact aU4 hu I2 g ry fun w' s3 I3 rw'=>⟨_,H2,I3,rw',q2⟩
theorem aMe(hu:X.A.units+1 < cLine)(ho:PE X o td)(he:PE X e ty)(hf:PE X f tx)(m:M2 X o "get" apos e f cpos):PE X (.Call (.Attribute o "get" apos) [e,f] [] cpos) (aU7 td ty tx):=by
 intro pins s σ H Q I h
 refine wpAny_Call_method m.base m.few m.line PySem.F.plainAttrs_dict PySem.F.slot_dict_get PySem.F.type_dict_get (thn (ho pins s σ H _ I h) fun u s1 ⟨x,H1,I1,rx,a,ex,d,q1⟩=>?_)
 subst ex
 obtain rfl:u=Value.ref a:=rx
 obtain ⟨t1,t2,_⟩:=aMc I1 d
 refine ⟨t1,t2,?_⟩
 rw [m.trees]
 refine Calls.callWith_builtin rfl (Calls.evalArgs_plain (Calls.spliced_cons (thn (he pins s1 σ H1 _ I1 q1) fun iv s2 ⟨y,H2,I2,ry,q2⟩ =>
  Calls.spliced_cons (thn (hf pins s2 σ H2 _ I2 q2) fun fv s3 ⟨z,H3,I3,rz,ov,g,q3⟩=>Calls.spliced_nil ?_))))
 exact aU5 hu I3 g ry rz fun w' s4 I4 rw'=>⟨_,H3,I4,rw',q3⟩
end
section
variable{X:Cx}{pins:List (Addr × Obj)}{σ:St}{H:Hp}{s:Shared}{a:Addr}{kvs:List (Key × V)}{A:Around}{E:Value->Shared->Prop}
end
section
variable{X:Cx}{pins:List (Addr × Obj)}{σ:St}{H:Hp}{s:Shared}{a:Addr}{y:V}{u:Value}{A:Around}{E:Value->Shared->Prop}
end
end L2
set_option maxHeartbeats 1000000
namespace Pu
inductive D where
 | non | bl (b:Bool) | int (i:Int) | str (s:List Nat) | tup (xs:List D) | lst (xs:List D)
 | dct (t:Bool) (ks vs:List D)
 | ins (c:String) (ns:List String) (xs:List D)
 | exn (c:String) (ns:List String) (xs:List D)
inductive R (α:Type) where
 | ok (a:α) | exc (x:D) | bad
@[inline] def R.bind{α β:Type}(r:R α)(f:α->R β):R β:=match r with
 | .ok a=>f a
 | .exc x => .exc x
 | .bad => .bad
theorem R.ok_of{α β:Type}{r:R α}{f:α->R β}{b:β}(h:r.bind f = .ok b):∃ a,r = .ok a/\f a = .ok b:=by
 cases r with
 | ok a=>exact ⟨a,rfl,h⟩
 | exc x=>exact nomatch h
 | bad=>exact nomatch h
noncomputable section
open Classical in
def aH{α:Type}(c:Prop)(r:R α):R α:=if c then r else .bad
theorem aG{α:Type}{c:Prop}{r:R α}(h:c):aH c r=r:=if_pos h
theorem aJ{α:Type}{c:Prop}{r:R α}{a:α}(h:aH c r = .ok a):c/\r = .ok a:=by
 unfold aH at h
 split at h
 ·exact ⟨by assumption,h⟩
 ·exact nomatch h
inductive OK where
 | l | d (t:Bool) (ks:List D) | i (n:Nat) (c:String) (ns:List String)
def ofK:OK->List D->D
 | .l,xs => .lst xs
 | .d t ks,xs => .dct t ks xs
 | .i _ c ns,xs => .ins c ns xs
inductive Sl where
 | v (d:D) | o (k:OK) (xs:List D)
abbrev PSt:=List (Option Sl)
abbrev Ex:=PSt->R D
inductive Fl where
 | nx (st:PSt) | rt (d:D) | bk (st:PSt) | ct (st:PSt)
abbrev Bd:=PSt->R Fl
@[irreducible] def big:Nat:=10000000
theorem mU:big=10000000:=by unfold big;rfl
theorem aM{n:Nat}(h:n<=10000000):n<=big:=by rw [mU];exact h
theorem aW{n:Nat}(h:n < 10000000):n < big:=by rw [mU];exact h
theorem aK{n:Int}(h:n<=10000000):n<=(big:Int):=by rw [mU];exact h
theorem aL{n:Int}(h : -10000000<=n) : -(big:Int)<=n:=by rw [mU];exact h
def sIx(n d:Nat):Option Int->Nat
 | none=>d
 | some v=>if v < 0 then (v+(n:Int)).toNat else min v.toNat n
def ixN(n:Nat)(i:Int):Option Nat:=if 0<=i then (if i < n then some i.toNat else none) else if -(n:Int)<=i then some (i+n).toNat else none
def atI{α:Type}(xs:List α)(i:Int):Option α:=(ixN xs.length i).bind fun j=>xs[j]?
def cut{α:Type}(xs:List α)(lo hi:Option Int):List α:=(xs.drop (sIx xs.length 0 lo)).take (sIx xs.length xs.length hi - sIx xs.length 0 lo)
def ofO{α:Type}:Option α->R α
 | some a => .ok a
 | none => .bad
abbrev Op2:=D->D->R D
def jT:Op2
 | .int i,.int j => .ok (.int (i+j))
 | .str x,.str y=>aH (x.length+y.length<=big) (.ok (.str (x++y)))
 | .lst x,.lst y=>aH (x.length+y.length<=big) (.ok (.lst (x++y)))
 | _,_ => .bad
def aGy:Op2
 | .int i,.int j => .ok (.int (i - j))
 | _,_ => .bad
def zJ:Op2
 | .int i,.int j=>aH (0 < j/\j < 1073741824) (.ok (.int (i / j)))
 | _,_ => .bad
def oW:Op2
 | .int i,.int j=>aH (0 < j) (.ok (.int (i % j)))
 | _,_ => .bad
def aMf:Op2
 | .int i,.int j=>aH (0<=j/\j<=1000000/\i.natAbs < 18446744073709551616) (.ok (.int (i ^ j.toNat)))
 | _,_ => .bad
def aU8:D->R D
 | .int i => .ok (.int (-i))
 | _ => .bad
def aKd:D->Bool
 | .int _=>true
 | .str _=>true
 | _=>false
def keyOk(t:Bool)(d:D):Bool:=match d with
 | .int _ => !t
 | .str _ => !t
 | .tup xs=>t&&xs.all aKd
 | _=>false
mutual
def eqK:D->D->Bool
 | .int i,.int j=>i==j
 | .str x,.str y=>x==y
 | .tup x,.tup y=>aGz x y
 | _,_=>false
def aGz:List D->List D->Bool
 | [],[]=>true
 | a :: x,b :: y=>eqK a b&&aGz x y
 | _,_=>false
end
def rH(ks vs:List D)(k:D):Option D:=((ks.zip vs).find? fun p=>eqK p.1 k).map (·.2)
def oG(ks:List D)(k:D):Bool:=ks.any fun x=>eqK x k
def oX(ks:List D)(k:D):List D:=if oG ks k=true then ks else ks++[k]
def rT(ks vs:List D)(k v:D):List D:=if oG ks k=true then (ks.zip vs).map (fun p=>if eqK p.1 k=true then v else p.2) else vs++[v]
def dIx:Op2
 | .dct t ks vs,k=>aH (keyOk t k=true) (ofO (rH ks vs k))
 | .lst x,.int i=>ofO (atI x i)
 | .tup x,.int i=>ofO (atI x i)
 | .str x,.int i=>aH (x.length<=big) (ofO ((atI x i).map fun c => .str [c]))
 | _,_ => .bad
mutual
def eqD:D->D->Bool
 | .non,.non=>true
 | .bl a,.bl b=>a==b
 | .bl a,.int j=>(if a then (1:Int) else 0)==j
 | .int i,.bl b=>i==(if b then (1:Int) else 0)
 | .int i,.int j=>i==j
 | .str x,.str y=>x==y
 | .tup x,.tup y=>dU x y
 | .lst x,.lst y=>dU x y
 | _,_=>false
def dU:List D->List D->Bool
 | [],[]=>true
 | a :: x,b :: y=>eqD a b&&dU x y
 | _,_=>false
end
mutual
def dep:D->Nat
 | .tup x=>dM x+1
 | .lst x=>dM x+1
 | .non=>0
 | .bl _=>0
 | .int _=>0
 | .str _=>0
 | .dct _ _ _=>0
 | .ins _ _ _=>0
 | .exn _ _ _=>0
def dM:List D->Nat
 | []=>0
 | a :: x=>max (dep a) (dM x)
end
mutual
def plain:D->Bool
 | .tup x=>cV x
 | .lst x=>cV x
 | .non=>true
 | .bl _=>true
 | .int _=>true
 | .str _=>true
 | .dct _ _ _=>false
 | .ins _ _ _=>false
 | .exn _ _ _=>false
def cV:List D->Bool
 | []=>true
 | a :: x=>plain a&&cV x
end
def dEq:Op2:=fun a b=>aH (dep a<=64/\plain a=true/\plain b=true) (.ok (.bl (eqD a b)))
def dNe:Op2:=fun a b=>aH (dep a<=64/\plain a=true/\plain b=true) (.ok (.bl (!eqD a b)))
def dLe:Op2
 | .int i,.int j => .ok (.bl (decide (i<=j)))
 | _,_ => .bad
def dGt:Op2
 | .int i,.int j => .ok (.bl (decide (j < i)))
 | _,_ => .bad
def dGe:Op2
 | .int i,.int j => .ok (.bl (decide (j<=i)))
 | _,_ => .bad
def cU:D->R D
 | .dct false ks _ => .ok (.int ks.length)
 | .lst x => .ok (.int x.length)
 | .tup x => .ok (.int x.length)
 | .str x=>aH (x.length<=big) (.ok (.int x.length))
 | _ => .bad
def aAo:D->Bool
 | .ins _ _ _=>false
 | .exn _ _ _=>false
 | _=>true
def isN:D->Bool
 | .non=>true
 | _=>false
def aPu:D->Bool
 | .str _=>true
 | _=>false
def aU9:D->Bool
 | .bl _=>true
 | _=>false
def isIn:D->Bool
 | .bl _=>true
 | .int _=>true
 | _=>false
def aXd:D->Bool
 | .dct _ _ _=>true
 | _=>false
def aKe:D->Bool
 | .lst _=>true
 | _=>false
def eY(x y:List Nat)(lo:Nat):Option Nat:=(List.range' lo (x.length+1 - lo)).find? fun i=>decide (i+y.length<=x.length)&&((x.drop i).take y.length==y)
def oH:Option Nat->Int
 | some i=>i
 | none => -1
abbrev Mop:=D->List D->R D
def aCq:Mop
 | .str x,[.str y] => .ok (.int (oH (eY x y 0)))
 | .str x,[.str y,.int i]=>aH (0<=i) (.ok (.int (oH (eY x y i.toNat))))
 | _,_ => .bad
def xY:Mop
 | .str x,[.str y]=>(ofO (eY x y 0)).bind fun i => .ok (.int i)
 | _,_ => .bad
def inD(x:D)(ys:List D):Bool:=ys.any fun y=>eqD y x
def dIn:D->D->R D
 | k,.dct t ks _=>aH (keyOk t k=true) (.ok (.bl (oG ks k)))
 | x,.lst ys=>aH (dM ys<=60/\plain x=true/\cV ys=true) (.ok (.bl (inD x ys)))
 | x,.tup ys=>aH (dM ys<=60/\plain x=true/\cV ys=true) (.ok (.bl (inD x ys)))
 | .str x,.str y => .ok (.bl (eY y x 0).isSome)
 | _,_ => .bad
def eZ:D->D->R D
 | k,.dct t ks _=>aH (keyOk t k=true) (.ok (.bl (!oG ks k)))
 | x,.lst ys=>aH (dM ys<=60/\plain x=true/\cV ys=true) (.ok (.bl (!inD x ys)))
 | x,.tup ys=>aH (dM ys<=60/\plain x=true/\cV ys=true) (.ok (.bl (!inD x ys)))
 | .str x,.str y => .ok (.bl (!(eY y x 0).isSome))
 | _,_ => .bad
def aH0:D->D->R D
 | x,.non => .ok (.bl (!isN x))
 | .bl a,.bl b => .ok (.bl (!(a==b)))
 | _,_ => .bad
def aB(i:Nat):Ex:=fun st=>match st[i]? with
 | some (some (.v d)) => .ok d
 | _ => .bad
def fX(i:Nat):Ex:=fun st=>match st[i]? with
 | some (some (.v d)) => .ok d
 | some (some (.o k xs)) => .ok (ofK k xs)
 | _ => .bad
def eC(d:D):Ex:=fun _ => .ok d
def e2(op:Op2)(f g:Ex):Ex:=fun st=>(f st).bind fun x=>(g st).bind fun y=>op x y
def e1(op:D->R D)(f:Ex):Ex:=fun st=>(f st).bind op
def eB(p:D->Bool)(f:Ex):Ex:=fun st=>(f st).bind fun x=>aH (aAo x=true) (.ok (.bl (p x)))
def onB{α:Type}(d:D)(f:Bool->R α):R α:=match d with
 | .bl b=>f b
 | _ => .bad
theorem pX{α:Type}{d:D}{f:Bool->R α}{a:α}(h:onB d f = .ok a):∃ b,d = .bl b/\f b = .ok a:=by
 cases d<;>first | exact ⟨_,rfl,h⟩ | exact nomatch h
def mF(f g:Ex):Ex:=fun st=>(f st).bind fun x=>onB x fun b=>if b=true then g st else .ok (.bl false)
def eOr(f g:Ex):Ex:=fun st=>(f st).bind fun x=>onB x fun b=>if b=true then .ok (.bl true) else g st
def pY(f:Ex):Ex:=fun st=>(f st).bind fun x=>onB x fun b => .ok (.bl (!b))
abbrev Exs:=PSt->R (List D)
def bG:Exs:=fun _ => .ok []
def aC(f:Ex)(r:Exs):Exs:=fun st=>(f st).bind fun x=>(r st).bind fun xs => .ok (x :: xs)
def aUa(r:Exs):Ex:=fun st=>(r st).bind fun xs=>aH (xs.length<=big) (.ok (.tup xs))
def nQ(r:Exs):Ex:=fun st=>(r st).bind fun xs=>aH (xs.length<=big) (.ok (.lst xs))
def aY(p:List D->R D)(r:Exs):Ex:=fun st=>(r st).bind p
def eMt(m:Mop)(f:Ex)(r:Exs):Ex:=fun st=>(f st).bind fun x=>(r st).bind fun xs=>m x xs
def inI(d:D){α:Type}(f:Int->R α):R α:=match d with
 | .int i=>f i
 | _ => .bad
theorem aAp{α:Type}{d:D}{f:Int->R α}{a:α}(h:inI d f = .ok a):∃ i,d = .int i/\f i = .ok a:=by
 cases d<;>first | exact ⟨_,rfl,h⟩ | exact nomatch h
abbrev ExO:=PSt->R (Option Int)
def aIg:ExO:=fun _ => .ok none
def aCr(f:Ex):ExO:=fun st=>(f st).bind fun x=>inI x fun i => .ok (some i)
def dSl(x:D)(lo hi:Option Int):R D:=match x with
 | .lst xs => .ok (.lst (cut xs lo hi))
 | .str xs=>aH (xs.length<=big) (.ok (.str (cut xs lo hi)))
 | _ => .bad
def eSl(f:Ex)(lo hi:ExO):Ex:=fun st=>(f st).bind fun x=>(lo st).bind fun l=>(hi st).bind fun h=>dSl x l h
abbrev ItE:=PSt->R (List D)
def itE(f:Ex):ItE:=fun st=>(f st).bind fun x=>match x with
 | .lst xs => .ok xs
 | .tup xs => .ok xs
 | .str xs=>aH (xs.length<=big) (.ok (xs.map fun c => .str [c]))
 | _ => .bad
def fV(lo:Int)(n:Nat):List D:=(List.range n).map fun (k:Nat) => .int (lo+(k:Int))
def oY(f:Ex):ItE:=fun st=>(f st).bind fun x=>inI x fun j=>aH (-(big:Int)<=j/\j<=(big:Int)) (.ok (fV 0 j.toNat))
def aPv(f g:Ex):ItE:=fun st=>(f st).bind fun x=>(g st).bind fun y=>inI x fun i=>inI y fun j=>aH (-(big:Int)<=i/\i<=(big:Int) /\ -(big:Int)<=j/\j<=(big:Int)) (.ok (fV i (j - i).toNat))
abbrev Tg:=D->PSt->R PSt
def tgN(i:Nat):Tg:=fun d st => .ok (st.set i (some (.v d)))
def oJ:List Nat->List D->PSt->R PSt
 | [],[],st => .ok st
 | i :: is,d :: ds,st=>oJ is ds (st.set i (some (.v d)))
 | _,_,_ => .bad
def tgT(is:List Nat):Tg:=fun d st=>match d with
 | .tup xs=>oJ is xs st
 | .lst xs=>oJ is xs st
 | _ => .bad
def mV(tg:Tg)(c f:Ex)(st:PSt):List D->R (List D)
 | [] => .ok []
 | d :: ds=>(tg d st).bind fun s1=>(c s1).bind fun x=>onB x fun b=>if b=true then (f s1).bind fun y=>(mV tg c f st ds).bind fun ys => .ok (y :: ys) else mV tg c f st ds
def clr(is:List Nat)(st:PSt):PSt:=is.foldl (fun s i=>s.set i none) st
def fK(is:List Nat)(tg:Tg)(it:ItE)(c f:Ex):Ex:=fun st=>(it st).bind fun xs=>aH (xs.length<=big) ((mV tg c f (clr is st) xs).bind fun ys => .ok (.lst ys))
def jL:Ex:=fun _ => .ok (.bl true)
def aCa(r:R Fl)(f:PSt->R Fl):R Fl:=r.bind fun x=>match x with
 | .nx st=>f st
 | .rt d => .ok (.rt d)
 | .bk st => .ok (.bk st)
 | .ct st => .ok (.ct st)
def cW:Bd:=fun st => .ok (.nx st)
def bN(a b:Bd):Bd:=fun st=>aCa (a st) b
def cX(i:Nat)(f:Ex):Bd:=fun st=>(f st).bind fun d => .ok (.nx (st.set i (some (.v d))))
def nU(i:Nat)(f:Ex):Bd:=fun st=>(f st).bind fun d=>match d with
 | .lst xs => .ok (.nx (st.set i (some (.o .l xs))))
 | _ => .bad
def aUb(tg:Tg)(f:Ex):Bd:=fun st=>(f st).bind fun d=>(tg d st).bind fun s1 => .ok (.nx s1)
def vW(i:Nat)(f:Ex):Bd:=fun st=>(f st).bind fun d=>match st[i]? with
 | some (some (.o .l xs))=>aH (xs.length < big) (.ok (.nx (st.set i (some (.o .l (xs++[d]))))))
 | _ => .bad
def aMg(i:Nat)(g f:Ex):Bd:=fun st=>(f st).bind fun d=>(g st).bind fun x=>inI x fun j=>match st[i]? with
 | some (some (.o .l xs))=>(ofO (ixN xs.length j)).bind fun k => .ok (.nx (st.set i (some (.o .l (xs.set k d)))))
 | _ => .bad
def aMh(i:Nat)(t:Bool):Bd:=fun st => .ok (.nx (st.set i (some (.o (.d t []) []))))
def sDPut(i:Nat)(g f:Ex):Bd:=fun st=>(f st).bind fun d=>(g st).bind fun k=>match st[i]? with
 | some (some (.o (.d t ks) vs))=>aH (keyOk t k=true/\vs.length < big) (.ok (.nx (st.set i (some (.o (.d t (oX ks k)) (rT ks vs k d))))))
 | _ => .bad
def aCs(i:Nat)(c f:String)(e:Ex):Bd:=fun st=>(e st).bind fun d=>match st[i]? with
 | some (some (.o (.i n c' ns) xs))=>aH (c'=c/\f ∉ ns/\ns.length < 900) (.ok (.nx (st.set i (some (.o (.i n c' (ns++[f])) (xs++[d]))))))
 | _ => .bad
def xZ(c f:String):D->R D
 | .ins c' ns xs=>aH (c'=c) (ofO ((ns.zip xs).lookup f))
 | _ => .bad
def aF6(c m:String)(p:List D->R D)(dv:List D)(f:Ex)(r:Exs):Ex:=fun st=>(f st).bind fun x=>(r st).bind fun xs=>match x with
 | .ins c' ns _=>aH (c'=c/\m ∉ ns) (p (x :: (xs++dv)))
 | _ => .bad
def aH1:Bd:=fun _ => .bad
def fz1(st:PSt)(i:Nat):PSt:=match st[i]? with
 | some (some (.o k xs))=>st.set i (some (.v (ofK k xs)))
 | _=>st
def sFz(is:List Nat)(b:Bd):Bd:=fun st=>b (is.foldl fz1 st)
def dH(f:Ex):Bd:=fun st=>(f st).bind fun d => .ok (.rt d)
def sIf(c:Ex)(a b:Bd):Bd:=fun st=>(c st).bind fun x=>onB x fun q=>if q=true then a st else b st
def forR(tg:Tg)(body:Bd):List D->PSt->R Fl
 | [],st => .ok (.nx st)
 | d :: ds,st=>(tg d st).bind fun s1=>(body s1).bind fun x=>match x with
  | .nx s2=>forR tg body ds s2
  | .ct s2=>forR tg body ds s2
  | .bk s2 => .ok (.nx s2)
  | .rt v => .ok (.rt v)
def oZ(tg:Tg)(it:ItE)(body:Bd):Bd:=fun st=>(it st).bind fun xs=>forR tg body xs st
def iU(c:Ex)(body:Bd):Nat->PSt->R Fl
 | 0,_ => .bad
 | n+1,st=>(c st).bind fun x=>onB x fun q=>if q=true then (body st).bind fun x=>(match x with
  | .nx s2=>iU c body n s2
  | .ct s2=>iU c body n s2
  | .bk s2 => .ok (.nx s2)
  | .rt v => .ok (.rt v)) else .ok (.nx st)
def aAq(n:Nat)(c:Ex)(body:Bd):Bd:=fun st=>iU c body n st
def eN(np n:Nat)(b:Bd)(ds:List D):R D :=
 aH (ds.length=np) ((b (ds.map (fun d=>some (.v d))++List.replicate (n - np) none)).bind fun x=>match x with
  | .nx _ => .ok .non
  | .rt d => .ok d
  | _ => .bad)
def aCt(c:String)(np n:Nat)(b:Bd)(x:Nat)(ds:List D):R D :=
 aH (ds.length=np) ((b (some (.o (.i x c []) []) :: (ds.map (fun d=>some (.v d))++List.replicate (n - np - 1) none))).bind fun (fl:Fl)=>match fl with
  | .nx st=>(match (st[0]?:Option (Option Sl)) with
   | some (some (.o (.i y c' ns) xs))=>aH (y=x) (.ok (.ins c' ns xs))
   | _ => .bad)
  | _ => .bad)
open Classical in
def aDt(c:String)(np n:Nat)(b:Bd)(ds:List D):R D:=if h:∃ d,∀ x,aCt c np n b x ds = .ok d then .ok (choose h) else .bad
theorem aPw{c:String}{np n:Nat}{b:Bd}{ds:List D}{d:D}(h:∀ x,aCt c np n b x ds = .ok d):aDt c np n b ds = .ok d:=by
 unfold aDt
 rw [dif_pos ⟨d,h⟩]
 have:=Classical.choose_spec (p:=fun d=>∀ x,aCt c np n b x ds = .ok d) ⟨d,h⟩ 0
 rw [h 0] at this
 exact this.symm
theorem aIh{c:String}{np n:Nat}{b:Bd}{ds:List D}{d:D}(h:aDt c np n b ds = .ok d)(x:Nat):aCt c np n b x ds = .ok d:=by
 unfold aDt at h
 split at h
 ·rename_i e
  have:=Classical.choose_spec e x
  rw [this]
  exact h
 ·cases h
end
end Pu
namespace Pu
@[simp] theorem bg0:0<=big:=aM (by decide)
@[simp] theorem bl0:0 < big:=aW (by decide)
@[simp] theorem bi0:(0:Int)<=(big:Int):=aK (by decide)
@[simp] theorem bj0 : -(big:Int)<=(0:Int):=aL (by decide)
@[simp] theorem bg1:1<=big:=aM (by decide)
@[simp] theorem bl1:1 < big:=aW (by decide)
@[simp] theorem bi1:(1:Int)<=(big:Int):=aK (by decide)
@[simp] theorem bj1 : -(big:Int)<=(1:Int):=aL (by decide)
@[simp] theorem bg2:2<=big:=aM (by decide)
@[simp] theorem bl2:2 < big:=aW (by decide)
@[simp] theorem bi2:(2:Int)<=(big:Int):=aK (by decide)
@[simp] theorem bj2 : -(big:Int)<=(2:Int):=aL (by decide)
@[simp] theorem bg3:3<=big:=aM (by decide)
@[simp] theorem bl3:3 < big:=aW (by decide)
@[simp] theorem bi3:(3:Int)<=(big:Int):=aK (by decide)
@[simp] theorem bj3 : -(big:Int)<=(3:Int):=aL (by decide)
@[simp] theorem bg4:4<=big:=aM (by decide)
@[simp] theorem bl4:4 < big:=aW (by decide)
@[simp] theorem bi4:(4:Int)<=(big:Int):=aK (by decide)
@[simp] theorem bj4 : -(big:Int)<=(4:Int):=aL (by decide)
@[simp] theorem bg5:5<=big:=aM (by decide)
@[simp] theorem bl5:5 < big:=aW (by decide)
@[simp] theorem bi5:(5:Int)<=(big:Int):=aK (by decide)
@[simp] theorem bj5 : -(big:Int)<=(5:Int):=aL (by decide)
@[simp] theorem bg6:6<=big:=aM (by decide)
@[simp] theorem bl6:6 < big:=aW (by decide)
@[simp] theorem bi6:(6:Int)<=(big:Int):=aK (by decide)
@[simp] theorem bj6 : -(big:Int)<=(6:Int):=aL (by decide)
@[simp] theorem bg7:7<=big:=aM (by decide)
@[simp] theorem bl7:7 < big:=aW (by decide)
@[simp] theorem bi7:(7:Int)<=(big:Int):=aK (by decide)
@[simp] theorem bj7 : -(big:Int)<=(7:Int):=aL (by decide)
@[simp] theorem bg8:8<=big:=aM (by decide)
@[simp] theorem bl8:8 < big:=aW (by decide)
@[simp] theorem bi8:(8:Int)<=(big:Int):=aK (by decide)
@[simp] theorem bj8 : -(big:Int)<=(8:Int):=aL (by decide)
@[simp] theorem bg9:9<=big:=aM (by decide)
@[simp] theorem bl9:9 < big:=aW (by decide)
@[simp] theorem bi9:(9:Int)<=(big:Int):=aK (by decide)
@[simp] theorem bj9 : -(big:Int)<=(9:Int):=aL (by decide)
@[simp] theorem bBg:10<=big:=aM (by decide)
@[simp] theorem bBh:10 < big:=aW (by decide)
@[simp] theorem bBi:(10:Int)<=(big:Int):=aK (by decide)
@[simp] theorem bBj : -(big:Int)<=(10:Int):=aL (by decide)
@[simp] theorem bBk:11<=big:=aM (by decide)
@[simp] theorem bBl:11 < big:=aW (by decide)
@[simp] theorem bBm:(11:Int)<=(big:Int):=aK (by decide)
@[simp] theorem bBn : -(big:Int)<=(11:Int):=aL (by decide)
@[simp] theorem bBo:12<=big:=aM (by decide)
@[simp] theorem bBp:12 < big:=aW (by decide)
@[simp] theorem bBq:(12:Int)<=(big:Int):=aK (by decide)
@[simp] theorem bBr : -(big:Int)<=(12:Int):=aL (by decide)
@[simp] theorem bBs:13<=big:=aM (by decide)
@[simp] theorem bBt:13 < big:=aW (by decide)
@[simp] theorem bBu:(13:Int)<=(big:Int):=aK (by decide)
@[simp] theorem bBv : -(big:Int)<=(13:Int):=aL (by decide)
@[simp] theorem bBw:14<=big:=aM (by decide)
@[simp] theorem bBx:14 < big:=aW (by decide)
@[simp] theorem bBy:(14:Int)<=(big:Int):=aK (by decide)
@[simp] theorem bBz : -(big:Int)<=(14:Int):=aL (by decide)
@[simp] theorem bC0:15<=big:=aM (by decide)
@[simp] theorem bC1:15 < big:=aW (by decide)
@[simp] theorem bC2:(15:Int)<=(big:Int):=aK (by decide)
@[simp] theorem bC3 : -(big:Int)<=(15:Int):=aL (by decide)
@[simp] theorem bC4:16<=big:=aM (by decide)
@[simp] theorem bC5:16 < big:=aW (by decide)
@[simp] theorem bC6:(16:Int)<=(big:Int):=aK (by decide)
@[simp] theorem bC7 : -(big:Int)<=(16:Int):=aL (by decide)
@[simp] theorem bC8:17<=big:=aM (by decide)
@[simp] theorem bC9:17 < big:=aW (by decide)
@[simp] theorem bCa:(17:Int)<=(big:Int):=aK (by decide)
@[simp] theorem bCb : -(big:Int)<=(17:Int):=aL (by decide)
@[simp] theorem bCc:18<=big:=aM (by decide)
@[simp] theorem bCd:18 < big:=aW (by decide)
@[simp] theorem bCe:(18:Int)<=(big:Int):=aK (by decide)
@[simp] theorem bCf : -(big:Int)<=(18:Int):=aL (by decide)
@[simp] theorem bCg:19<=big:=aM (by decide)
@[simp] theorem bCh:19 < big:=aW (by decide)
@[simp] theorem bCi:(19:Int)<=(big:Int):=aK (by decide)
@[simp] theorem bCj : -(big:Int)<=(19:Int):=aL (by decide)
@[simp] theorem bCk:20<=big:=aM (by decide)
@[simp] theorem bCl:20 < big:=aW (by decide)
@[simp] theorem bCm:(20:Int)<=(big:Int):=aK (by decide)
@[simp] theorem bCn : -(big:Int)<=(20:Int):=aL (by decide)
@[simp] theorem bCo:21<=big:=aM (by decide)
@[simp] theorem bCp:21 < big:=aW (by decide)
@[simp] theorem bCq:(21:Int)<=(big:Int):=aK (by decide)
@[simp] theorem bCr : -(big:Int)<=(21:Int):=aL (by decide)
@[simp] theorem bCs:22<=big:=aM (by decide)
@[simp] theorem bCt:22 < big:=aW (by decide)
@[simp] theorem bCu:(22:Int)<=(big:Int):=aK (by decide)
@[simp] theorem bCv : -(big:Int)<=(22:Int):=aL (by decide)
@[simp] theorem bCw:23<=big:=aM (by decide)
@[simp] theorem bCx:23 < big:=aW (by decide)
@[simp] theorem bCy:(23:Int)<=(big:Int):=aK (by decide)
@[simp] theorem bCz : -(big:Int)<=(23:Int):=aL (by decide)
@[simp] theorem bD0:24<=big:=aM (by decide)
@[simp] theorem bD1:24 < big:=aW (by decide)
@[simp] theorem bD2:(24:Int)<=(big:Int):=aK (by decide)
@[simp] theorem bD3 : -(big:Int)<=(24:Int):=aL (by decide)
@[simp] theorem bD4:25<=big:=aM (by decide)
@[simp] theorem bD5:25 < big:=aW (by decide)
@[simp] theorem bD6:(25:Int)<=(big:Int):=aK (by decide)
@[simp] theorem bD7 : -(big:Int)<=(25:Int):=aL (by decide)
@[simp] theorem bD8:26<=big:=aM (by decide)
@[simp] theorem bD9:26 < big:=aW (by decide)
@[simp] theorem bDa:(26:Int)<=(big:Int):=aK (by decide)
@[simp] theorem bDb : -(big:Int)<=(26:Int):=aL (by decide)
@[simp] theorem bDc:27<=big:=aM (by decide)
@[simp] theorem bDd:27 < big:=aW (by decide)
@[simp] theorem bDe:(27:Int)<=(big:Int):=aK (by decide)
@[simp] theorem bDf : -(big:Int)<=(27:Int):=aL (by decide)
@[simp] theorem bDg:28<=big:=aM (by decide)
@[simp] theorem bDh:28 < big:=aW (by decide)
@[simp] theorem bDi:(28:Int)<=(big:Int):=aK (by decide)
@[simp] theorem bDj : -(big:Int)<=(28:Int):=aL (by decide)
@[simp] theorem bDk:29<=big:=aM (by decide)
@[simp] theorem bDl:29 < big:=aW (by decide)
@[simp] theorem bDm:(29:Int)<=(big:Int):=aK (by decide)
@[simp] theorem bDn : -(big:Int)<=(29:Int):=aL (by decide)
@[simp] theorem bDo:30<=big:=aM (by decide)
@[simp] theorem bDp:30 < big:=aW (by decide)
@[simp] theorem bDq:(30:Int)<=(big:Int):=aK (by decide)
@[simp] theorem bDr : -(big:Int)<=(30:Int):=aL (by decide)
@[simp] theorem bDs:31<=big:=aM (by decide)
@[simp] theorem bDt:31 < big:=aW (by decide)
@[simp] theorem bDu:(31:Int)<=(big:Int):=aK (by decide)
@[simp] theorem bDv : -(big:Int)<=(31:Int):=aL (by decide)
@[simp] theorem bDw:32<=big:=aM (by decide)
@[simp] theorem bDx:32 < big:=aW (by decide)
@[simp] theorem bDy:(32:Int)<=(big:Int):=aK (by decide)
@[simp] theorem bDz : -(big:Int)<=(32:Int):=aL (by decide)
@[simp] theorem bE0:33<=big:=aM (by decide)
@[simp] theorem bE1:33 < big:=aW (by decide)
@[simp] theorem bE2:(33:Int)<=(big:Int):=aK (by decide)
@[simp] theorem bE3 : -(big:Int)<=(33:Int):=aL (by decide)
@[simp] theorem bE4:34<=big:=aM (by decide)
@[simp] theorem bE5:34 < big:=aW (by decide)
@[simp] theorem bE6:(34:Int)<=(big:Int):=aK (by decide)
@[simp] theorem bE7 : -(big:Int)<=(34:Int):=aL (by decide)
@[simp] theorem bE8:35<=big:=aM (by decide)
@[simp] theorem bE9:35 < big:=aW (by decide)
@[simp] theorem bEa:(35:Int)<=(big:Int):=aK (by decide)
@[simp] theorem bEb : -(big:Int)<=(35:Int):=aL (by decide)
@[simp] theorem bEc:36<=big:=aM (by decide)
@[simp] theorem bEd:36 < big:=aW (by decide)
@[simp] theorem bEe:(36:Int)<=(big:Int):=aK (by decide)
@[simp] theorem bEf : -(big:Int)<=(36:Int):=aL (by decide)
@[simp] theorem bEg:37<=big:=aM (by decide)
@[simp] theorem bEh:37 < big:=aW (by decide)
@[simp] theorem bEi:(37:Int)<=(big:Int):=aK (by decide)
@[simp] theorem bEj : -(big:Int)<=(37:Int):=aL (by decide)
@[simp] theorem bEk:38<=big:=aM (by decide)
@[simp] theorem bEl:38 < big:=aW (by decide)
@[simp] theorem bEm:(38:Int)<=(big:Int):=aK (by decide)
@[simp] theorem bEn : -(big:Int)<=(38:Int):=aL (by decide)
@[simp] theorem bEo:39<=big:=aM (by decide)
@[simp] theorem bEp:39 < big:=aW (by decide)
@[simp] theorem bEq:(39:Int)<=(big:Int):=aK (by decide)
@[simp] theorem bEr : -(big:Int)<=(39:Int):=aL (by decide)
@[simp] theorem bEs:40<=big:=aM (by decide)
@[simp] theorem bEt:40 < big:=aW (by decide)
@[simp] theorem bEu:(40:Int)<=(big:Int):=aK (by decide)
@[simp] theorem bEv : -(big:Int)<=(40:Int):=aL (by decide)
@[simp] theorem bEw:41<=big:=aM (by decide)
@[simp] theorem bEx:41 < big:=aW (by decide)
@[simp] theorem bEy:(41:Int)<=(big:Int):=aK (by decide)
@[simp] theorem bEz : -(big:Int)<=(41:Int):=aL (by decide)
@[simp] theorem bF0:42<=big:=aM (by decide)
@[simp] theorem bF1:42 < big:=aW (by decide)
@[simp] theorem bF2:(42:Int)<=(big:Int):=aK (by decide)
@[simp] theorem bF3 : -(big:Int)<=(42:Int):=aL (by decide)
@[simp] theorem bF4:43<=big:=aM (by decide)
@[simp] theorem bF5:43 < big:=aW (by decide)
@[simp] theorem bF6:(43:Int)<=(big:Int):=aK (by decide)
@[simp] theorem bF7 : -(big:Int)<=(43:Int):=aL (by decide)
@[simp] theorem bF8:44<=big:=aM (by decide)
@[simp] theorem bF9:44 < big:=aW (by decide)
@[simp] theorem bFa:(44:Int)<=(big:Int):=aK (by decide)
@[simp] theorem bFb : -(big:Int)<=(44:Int):=aL (by decide)
@[simp] theorem bFc:45<=big:=aM (by decide)
@[simp] theorem bFd:45 < big:=aW (by decide)
@[simp] theorem bFe:(45:Int)<=(big:Int):=aK (by decide)
@[simp] theorem bFf : -(big:Int)<=(45:Int):=aL (by decide)
@[simp] theorem bFg:46<=big:=aM (by decide)
@[simp] theorem bFh:46 < big:=aW (by decide)
@[simp] theorem bFi:(46:Int)<=(big:Int):=aK (by decide)
@[simp] theorem bFj : -(big:Int)<=(46:Int):=aL (by decide)
@[simp] theorem bFk:47<=big:=aM (by decide)
@[simp] theorem bFl:47 < big:=aW (by decide)
@[simp] theorem bFm:(47:Int)<=(big:Int):=aK (by decide)
@[simp] theorem bFn : -(big:Int)<=(47:Int):=aL (by decide)
@[simp] theorem bFo:48<=big:=aM (by decide)
@[simp] theorem bFp:48 < big:=aW (by decide)
@[simp] theorem bFq:(48:Int)<=(big:Int):=aK (by decide)
@[simp] theorem bFr : -(big:Int)<=(48:Int):=aL (by decide)
@[simp] theorem bFs:49<=big:=aM (by decide)
@[simp] theorem bFt:49 < big:=aW (by decide)
@[simp] theorem bFu:(49:Int)<=(big:Int):=aK (by decide)
@[simp] theorem bFv : -(big:Int)<=(49:Int):=aL (by decide)
@[simp] theorem bFw:50<=big:=aM (by decide)
@[simp] theorem bFx:50 < big:=aW (by decide)
@[simp] theorem bFy:(50:Int)<=(big:Int):=aK (by decide)
@[simp] theorem bFz : -(big:Int)<=(50:Int):=aL (by decide)
@[simp] theorem bG0:51<=big:=aM (by decide)
@[simp] theorem bG1:51 < big:=aW (by decide)
@[simp] theorem bG2:(51:Int)<=(big:Int):=aK (by decide)
@[simp] theorem bG3 : -(big:Int)<=(51:Int):=aL (by decide)
@[simp] theorem bG4:52<=big:=aM (by decide)
@[simp] theorem bG5:52 < big:=aW (by decide)
@[simp] theorem bG6:(52:Int)<=(big:Int):=aK (by decide)
@[simp] theorem bG7 : -(big:Int)<=(52:Int):=aL (by decide)
@[simp] theorem bG8:53<=big:=aM (by decide)
@[simp] theorem bG9:53 < big:=aW (by decide)
@[simp] theorem bGa:(53:Int)<=(big:Int):=aK (by decide)
@[simp] theorem bGb : -(big:Int)<=(53:Int):=aL (by decide)
@[simp] theorem bGc:54<=big:=aM (by decide)
@[simp] theorem bGd:54 < big:=aW (by decide)
@[simp] theorem bGe:(54:Int)<=(big:Int):=aK (by decide)
@[simp] theorem bGf : -(big:Int)<=(54:Int):=aL (by decide)
@[simp] theorem bGg:55<=big:=aM (by decide)
@[simp] theorem bGh:55 < big:=aW (by decide)
@[simp] theorem bGi:(55:Int)<=(big:Int):=aK (by decide)
@[simp] theorem bGj : -(big:Int)<=(55:Int):=aL (by decide)
@[simp] theorem bGk:56<=big:=aM (by decide)
@[simp] theorem bGl:56 < big:=aW (by decide)
@[simp] theorem bGm:(56:Int)<=(big:Int):=aK (by decide)
@[simp] theorem bGn : -(big:Int)<=(56:Int):=aL (by decide)
@[simp] theorem bGo:57<=big:=aM (by decide)
@[simp] theorem bGp:57 < big:=aW (by decide)
@[simp] theorem bGq:(57:Int)<=(big:Int):=aK (by decide)
@[simp] theorem bGr : -(big:Int)<=(57:Int):=aL (by decide)
@[simp] theorem bGs:58<=big:=aM (by decide)
@[simp] theorem bGt:58 < big:=aW (by decide)
@[simp] theorem bGu:(58:Int)<=(big:Int):=aK (by decide)
@[simp] theorem bGv : -(big:Int)<=(58:Int):=aL (by decide)
@[simp] theorem bGw:59<=big:=aM (by decide)
@[simp] theorem bGx:59 < big:=aW (by decide)
@[simp] theorem bGy:(59:Int)<=(big:Int):=aK (by decide)
@[simp] theorem bGz : -(big:Int)<=(59:Int):=aL (by decide)
@[simp] theorem bH0:60<=big:=aM (by decide)
@[simp] theorem bH1:60 < big:=aW (by decide)
@[simp] theorem bH2:(60:Int)<=(big:Int):=aK (by decide)
@[simp] theorem bH3 : -(big:Int)<=(60:Int):=aL (by decide)
@[simp] theorem bH4:61<=big:=aM (by decide)
@[simp] theorem bH5:61 < big:=aW (by decide)
@[simp] theorem bH6:(61:Int)<=(big:Int):=aK (by decide)
@[simp] theorem bH7 : -(big:Int)<=(61:Int):=aL (by decide)
@[simp] theorem bH8:62<=big:=aM (by decide)
@[simp] theorem bH9:62 < big:=aW (by decide)
@[simp] theorem bHa:(62:Int)<=(big:Int):=aK (by decide)
@[simp] theorem bHb : -(big:Int)<=(62:Int):=aL (by decide)
@[simp] theorem bHc:63<=big:=aM (by decide)
@[simp] theorem bHd:63 < big:=aW (by decide)
@[simp] theorem bHe:(63:Int)<=(big:Int):=aK (by decide)
@[simp] theorem bHf : -(big:Int)<=(63:Int):=aL (by decide)
@[simp] theorem bHg:64<=big:=aM (by decide)
@[simp] theorem bHh:64 < big:=aW (by decide)
@[simp] theorem bHi:(64:Int)<=(big:Int):=aK (by decide)
@[simp] theorem bHj : -(big:Int)<=(64:Int):=aL (by decide)
@[simp] theorem aU{α β:Type}(a:α)(f:α->R β):(R.ok a).bind f=f a:=rfl
@[simp] theorem aVz{α β:Type}(f:α->R β):(R.bad:R α).bind f = .bad:=rfl
@[simp] theorem rW{α:Type}(b:Bool)(f:Bool->R α):onB (.bl b) f=f b:=rfl
@[simp] theorem aZ2{α:Type}(i:Int)(f:Int->R α):inI (.int i) f=f i:=rfl
@[simp] theorem aZ3(st:PSt)(f:PSt->R Fl):aCa (.ok (.nx st)) f=f st:=rfl
@[simp] theorem aZ4(d:D)(f:PSt->R Fl):aCa (.ok (.rt d)) f = .ok (.rt d):=rfl
@[simp] theorem aIi(i:Nat)(st:PSt):aB i st=(match st[i]? with | some (some (.v d))=>R.ok d | _ => .bad):=rfl
@[simp] theorem aXe(i:Nat)(st:PSt):fX i st=(match st[i]? with | some (some (.v d))=>R.ok d | some (some (.o k xs)) => .ok (ofK k xs) | _ => .bad):=rfl
@[simp] theorem aF7(d:D)(st:PSt):eC d st = .ok d:=rfl
@[simp] theorem zK(op:Op2)(f g:Ex)(st:PSt):e2 op f g st=(f st).bind fun x=>(g st).bind fun y=>op x y:=rfl
@[simp] theorem aS1(op:D->R D)(f:Ex)(st:PSt):e1 op f st=(f st).bind op:=rfl
@[simp] theorem bBb(p:D->Bool)(f:Ex)(st:PSt):eB p f st=(f st).bind fun x=>aH (aAo x=true) (.ok (.bl (p x))):=rfl
@[simp] theorem aIj(f g:Ex)(st:PSt):mF f g st=(f st).bind fun x=>onB x fun b=>if b=true then g st else .ok (.bl false):=rfl
@[simp] theorem aUc(f g:Ex)(st:PSt):eOr f g st=(f st).bind fun x=>onB x fun b=>if b=true then .ok (.bl true) else g st:=rfl
@[simp] theorem aIk(f:Ex)(st:PSt):pY f st=(f st).bind fun x=>onB x fun b => .ok (.bl (!b)):=rfl
@[simp] theorem aZ5(st:PSt):bG st = .ok []:=rfl
@[simp] theorem aMi(f:Ex)(r:Exs)(st:PSt):aC f r st=(f st).bind fun x=>(r st).bind fun xs => .ok (x :: xs):=rfl
@[simp] theorem aZ6(r:Exs)(st:PSt):aUa r st=(r st).bind fun xs=>aH (xs.length<=big) (.ok (.tup xs)):=rfl
@[simp] theorem aPx(r:Exs)(st:PSt):nQ r st=(r st).bind fun xs=>aH (xs.length<=big) (.ok (.lst xs)):=rfl
@[simp] theorem aMj(p:List D->R D)(r:Exs)(st:PSt):aY p r st=(r st).bind p:=rfl
@[simp] theorem bAq(m:Mop)(f:Ex)(r:Exs)(st:PSt):eMt m f r st=(f st).bind fun x=>(r st).bind fun xs=>m x xs:=rfl
@[simp] theorem aMk(st:PSt):aIg st = .ok none:=rfl
@[simp] theorem aMl(f:Ex)(st:PSt):aCr f st=(f st).bind fun x=>inI x fun i => .ok (some i):=rfl
@[simp] theorem aUd(f:Ex)(lo hi:ExO)(st:PSt):eSl f lo hi st=(f st).bind fun x=>(lo st).bind fun l=>(hi st).bind fun h=>dSl x l h:=rfl
@[simp] theorem aPy(f:Ex)(st:PSt):oY f st=(f st).bind fun x=>inI x fun j=>aH (-(big:Int)<=j/\j<=(big:Int)) (.ok (fV 0 j.toNat)):=rfl
@[simp] theorem aZ7(f g:Ex)(st:PSt):aPv f g st=(f st).bind fun x=>(g st).bind fun y=>inI x fun i=>inI y fun j=>aH (-(big:Int)<=i/\i<=(big:Int) /\ -(big:Int)<=j/\j<=(big:Int)) (.ok (fV i (j - i).toNat)):=rfl
@[simp] theorem aXf(tg:Tg)(b:Bd)(st:PSt):forR tg b [] st = .ok (.nx st):=rfl
theorem jA(tg:Tg)(b:Bd)(d:D)(ds:List D)(st:PSt):forR tg b (d :: ds) st=(tg d st).bind fun s1=>(b s1).bind fun x=>match x with
  | .nx s2=>forR tg b ds s2
  | .ct s2=>forR tg b ds s2
  | .bk s2 => .ok (.nx s2)
  | .rt v => .ok (.rt v):=rfl
theorem zL(c:Ex)(b:Bd)(n:Nat)(st:PSt):iU c b (n+1) st=(c st).bind fun x=>onB x fun q=>if q=true then (b st).bind fun x=>(match x with
  | .nx s2=>iU c b n s2
  | .ct s2=>iU c b n s2
  | .bk s2 => .ok (.nx s2)
  | .rt v => .ok (.rt v)) else .ok (.nx st):=rfl
@[simp] theorem aUe(f:Ex)(st:PSt):itE f st=(f st).bind fun x=>match x with | .lst xs => .ok xs | .tup xs => .ok xs | .str xs=>aH (xs.length<=big) (.ok (xs.map fun c => .str [c])) | _ => .bad:=rfl
@[simp] theorem yC(n:Nat)(c:Ex)(b:Bd)(st:PSt):aAq n c b st=iU c b n st:=rfl
@[simp] theorem aPz(i:Nat)(f:Ex)(st:PSt):vW i f st=(f st).bind fun d=>match st[i]? with | some (some (.o .l xs))=>aH (xs.length < big) (.ok (.nx (st.set i (some (.o .l (xs++[d])))))) | _ => .bad:=rfl
@[simp] theorem aMm(i:Nat)(f:Ex)(st:PSt):nU i f st=(f st).bind fun d=>match d with | .lst xs => .ok (.nx (st.set i (some (.o .l xs)))) | _ => .bad:=rfl
@[simp] theorem aQ0(i:Nat)(g f:Ex)(st:PSt):aMg i g f st=(f st).bind fun d=>(g st).bind fun x=>inI x fun j=>match st[i]? with | some (some (.o .l xs))=>(ofO (ixN xs.length j)).bind fun k => .ok (.nx (st.set i (some (.o .l (xs.set k d))))) | _ => .bad:=rfl
@[simp] theorem aMn(i:Nat)(c f:String)(e:Ex)(st:PSt):aCs i c f e st=(e st).bind fun d=>match st[i]? with | some (some (.o (.i n c' ns) xs))=>aH (c'=c/\f ∉ ns/\ns.length < 900) (.ok (.nx (st.set i (some (.o (.i n c' (ns++[f])) (xs++[d])))))) | _ => .bad:=rfl
@[simp] theorem aMo(c f c':String)(ns:List String)(xs:List D):xZ c f (.ins c' ns xs)=aH (c'=c) (ofO ((ns.zip xs).lookup f)):=rfl
@[simp] theorem aMp(c m:String)(p:List D->R D)(dv:List D)(f:Ex)(r:Exs)(st:PSt):aF6 c m p dv f r st=(f st).bind fun x=>(r st).bind fun xs=>match x with | .ins c' ns _=>aH (c'=c/\m ∉ ns) (p (x :: (xs++dv))) | _ => .bad:=rfl
@[simp] theorem aXg(i:Nat)(t:Bool)(st:PSt):aMh i t st = .ok (.nx (st.set i (some (.o (.d t []) [])))):=rfl
@[simp] theorem aXh(i:Nat)(g f:Ex)(st:PSt):sDPut i g f st=(f st).bind fun d=>(g st).bind fun k=>match st[i]? with | some (some (.o (.d t ks) vs))=>aH (keyOk t k=true/\vs.length < big) (.ok (.nx (st.set i (some (.o (.d t (oX ks k)) (rT ks vs k d)))))) | _ => .bad:=rfl
@[simp] theorem aZ8(t:Bool)(ks vs:List D)(k:D):dIx (.dct t ks vs) k=aH (keyOk t k=true) (ofO (rH ks vs k)):=by cases k<;>rfl
@[simp] theorem aZ9(t:Bool)(ks vs:List D)(k:D):dIn k (.dct t ks vs)=aH (keyOk t k=true) (.ok (.bl (oG ks k))):=by cases k<;>rfl
@[simp] theorem aUf(t:Bool)(ks vs:List D)(k:D):eZ k (.dct t ks vs)=aH (keyOk t k=true) (.ok (.bl (!oG ks k))):=by cases k<;>rfl
@[simp] theorem aXi(ks vs:List D):cU (.dct false ks vs) = .ok (.int ks.length):=rfl
@[simp] theorem bAr(is:List Nat)(b:Bd)(st:PSt):sFz is b st=b (is.foldl fz1 st):=rfl
@[simp] theorem bAs(st:PSt)(i:Nat):fz1 st i=(match st[i]? with | some (some (.o k xs))=>st.set i (some (.v (ofK k xs))) | _=>st):=rfl
@[simp] theorem aZa(st:PSt)(f:PSt->R Fl):aCa (.ok (.bk st)) f = .ok (.bk st):=rfl
@[simp] theorem aZb(st:PSt)(f:PSt->R Fl):aCa (.ok (.ct st)) f = .ok (.ct st):=rfl
@[simp] theorem aXj(f:PSt->R Fl):aCa .bad f = .bad:=rfl
@[simp] theorem aXk(i:Int):aU8 (.int i) = .ok (.int (-i)):=rfl
@[simp] theorem aZc(x y:List Nat):aCq (.str x) [.str y] = .ok (.int (oH (eY x y 0))):=rfl
@[simp] theorem aZd(x y:List Nat)(i:Int):aCq (.str x) [.str y,.int i]=aH (0<=i) (.ok (.int (oH (eY x y i.toNat)))):=rfl
@[simp] theorem aXl(x y:List Nat):xY (.str x) [.str y]=(ofO (eY x y 0)).bind fun i => .ok (.int i):=rfl
@[simp] theorem aS2(i:Nat):oH (some i)=i:=rfl
@[simp] theorem aS3:oH none = -1:=rfl
@[simp] theorem aZe(x y:List Nat):dIn (.str x) (.str y) = .ok (.bl (eY y x 0).isSome):=rfl
@[simp] theorem aUg(x y:List Nat):eZ (.str x) (.str y) = .ok (.bl (!(eY y x 0).isSome)):=rfl
@[simp] theorem aZf(x:D)(ys:List D):dIn x (.lst ys)=aH (dM ys<=60/\plain x=true/\cV ys=true) (.ok (.bl (inD x ys))):=by cases x<;>rfl
@[simp] theorem aZg(x:D)(ys:List D):dIn x (.tup ys)=aH (dM ys<=60/\plain x=true/\cV ys=true) (.ok (.bl (inD x ys))):=by cases x<;>rfl
@[simp] theorem aUh(x:D)(ys:List D):eZ x (.lst ys)=aH (dM ys<=60/\plain x=true/\cV ys=true) (.ok (.bl (!inD x ys))):=by cases x<;>rfl
@[simp] theorem aUi(x:D)(ys:List D):eZ x (.tup ys)=aH (dM ys<=60/\plain x=true/\cV ys=true) (.ok (.bl (!inD x ys))):=by cases x<;>rfl
@[simp] theorem aUj(x:D):aH0 x .non = .ok (.bl (!isN x)):=by cases x<;>rfl
@[simp] theorem aXm(x:List D):cU (.tup x) = .ok (.int x.length):=rfl
@[simp] theorem aZh(i j:Int):dGe (.int i) (.int j) = .ok (.bl (decide (j<=i))):=rfl
@[simp] theorem aXn(x y:List D):jT (.lst x) (.lst y)=aH (x.length+y.length<=big) (.ok (.lst (x++y))):=rfl
@[simp] theorem aZi(x:List D)(l h:Option Int):dSl (.lst x) l h = .ok (.lst (cut x l h)):=rfl
@[simp] theorem aXo:aAo .non=true:=rfl
@[simp] theorem aZj(b:Bool):aAo (.bl b)=true:=rfl
@[simp] theorem aXp(b:Int):aAo (.int b)=true:=rfl
@[simp] theorem aXq(b:List Nat):aAo (.str b)=true:=rfl
@[simp] theorem aXr(b:List D):aAo (.tup b)=true:=rfl
@[simp] theorem aXs(b:List D):aAo (.lst b)=true:=rfl
@[simp] theorem aXt(t:Bool)(a b:List D):aAo (.dct t a b)=true:=rfl
@[simp] theorem aUk(i:Nat)(d:D)(st:PSt):tgN i d st = .ok (st.set i (some (.v d))):=rfl
@[simp] theorem bAt(is:List Nat)(xs:List D)(st:PSt):tgT is (.tup xs) st=oJ is xs st:=rfl
@[simp] theorem aZk(is:List Nat)(xs:List D)(st:PSt):tgT is (.lst xs) st=oJ is xs st:=rfl
@[simp] theorem aUl(st:PSt):oJ [] [] st = .ok st:=rfl
@[simp] theorem aS4(i:Nat)(is:List Nat)(d:D)(ds:List D)(st:PSt):oJ (i :: is) (d :: ds) st=oJ is ds (st.set i (some (.v d))):=rfl
@[simp] theorem aZl(st:PSt):clr [] st=st:=rfl
@[simp] theorem aXu(i:Nat)(is:List Nat)(st:PSt):clr (i :: is) st=clr is (st.set i none):=rfl
@[simp] theorem aW0(tg:Tg)(c f:Ex)(st:PSt):mV tg c f st [] = .ok []:=rfl
theorem uQ(tg:Tg)(c f:Ex)(st:PSt)(d:D)(ds:List D):mV tg c f st (d :: ds)=(tg d st).bind fun s1=>(c s1).bind fun x=>onB x fun b=>if b=true then (f s1).bind fun y=>(mV tg c f st ds).bind fun ys => .ok (y :: ys) else mV tg c f st ds:=rfl
@[simp] theorem aXv(st:PSt):jL st = .ok (.bl true):=rfl
@[simp] theorem aAr(is:List Nat)(tg:Tg)(it:ItE)(c f:Ex)(st:PSt):fK is tg it c f st=(it st).bind fun xs=>aH (xs.length<=big) ((mV tg c f (clr is st) xs).bind fun ys => .ok (.lst ys)):=rfl
@[simp] theorem aXw(st:PSt):cW st = .ok (.nx st):=rfl
@[simp] theorem aIl(a b:Bd)(st:PSt):bN a b st=aCa (a st) b:=rfl
@[simp] theorem aIm(i:Nat)(f:Ex)(st:PSt):cX i f st=(f st).bind fun d => .ok (.nx (st.set i (some (.v d)))):=rfl
@[simp] theorem aZm(tg:Tg)(f:Ex)(st:PSt):aUb tg f st=(f st).bind fun d=>(tg d st).bind fun s1 => .ok (.nx s1):=rfl
@[simp] theorem pZ(f:Ex)(st:PSt):dH f st=(f st).bind fun d => .ok (.rt d):=rfl
@[simp] theorem aH2(c:Ex)(a b:Bd)(st:PSt):sIf c a b st=(c st).bind fun x=>onB x fun q=>if q=true then a st else b st:=rfl
@[simp] theorem aIn(tg:Tg)(it:ItE)(body:Bd)(st:PSt):oZ tg it body st=(it st).bind fun xs=>forR tg body xs st:=rfl
@[simp] theorem aXx(i j:Int):jT (.int i) (.int j) = .ok (.int (i+j)):=rfl
@[simp] theorem aXy(x y:List Nat):jT (.str x) (.str y)=aH (x.length+y.length<=big) (.ok (.str (x++y))):=rfl
@[simp] theorem aXz(i j:Int):aGy (.int i) (.int j) = .ok (.int (i - j)):=rfl
@[simp] theorem aW1(i j:Int):zJ (.int i) (.int j)=aH (0 < j/\j < 1073741824) (.ok (.int (i / j))):=rfl
@[simp] theorem aY0(i j:Int):oW (.int i) (.int j)=aH (0 < j) (.ok (.int (i % j))):=rfl
@[simp] theorem aY1(i j:Int):aMf (.int i) (.int j)=aH (0<=j/\j<=1000000/\i.natAbs < 18446744073709551616) (.ok (.int (i ^ j.toNat))):=rfl
@[simp] theorem aZn(i j:Int):dLe (.int i) (.int j) = .ok (.bl (decide (i<=j))):=rfl
@[simp] theorem aZo(i j:Int):dGt (.int i) (.int j) = .ok (.bl (decide (j < i))):=rfl
@[simp] theorem bAu(x y:D):dEq x y=aH (dep x<=64/\plain x=true/\plain y=true) (.ok (.bl (eqD x y))):=rfl
@[simp] theorem bAv(x y:D):dNe x y=aH (dep x<=64/\plain x=true/\plain y=true) (.ok (.bl (!eqD x y))):=rfl
@[simp] theorem aZp:dep .non=0:=by unfold dep;rfl
@[simp] theorem bAw(b:Bool):dep (.bl b)=0:=by unfold dep;rfl
@[simp] theorem aZq(i:Int):dep (.int i)=0:=by unfold dep;rfl
@[simp] theorem aZr(s:List Nat):dep (.str s)=0:=by unfold dep;rfl
@[simp] theorem aZs(x:List D):dep (.tup x)=dM x+1:=by conv=>lhs;unfold dep
@[simp] theorem aZt(x:List D):dep (.lst x)=dM x+1:=by conv=>lhs;unfold dep
@[simp] theorem aW2:plain .non=true:=by unfold plain;rfl
@[simp] theorem aY2(b:Bool):plain (.bl b)=true:=by unfold plain;rfl
@[simp] theorem aW3(i:Int):plain (.int i)=true:=by unfold plain;rfl
@[simp] theorem aW4(s:List Nat):plain (.str s)=true:=by unfold plain;rfl
@[simp] theorem aW5(x:List D):plain (.tup x)=cV x:=by conv=>lhs;unfold plain
@[simp] theorem aW6(x:List D):plain (.lst x)=cV x:=by conv=>lhs;unfold plain
@[simp] theorem aW7(t:Bool)(k v:List D):plain (.dct t k v)=false:=by unfold plain;rfl
@[simp] theorem aW8(c:String)(n:List String)(v:List D):plain (.ins c n v)=false:=by unfold plain;rfl
@[simp] theorem aW9(c:String)(n:List String)(v:List D):plain (.exn c n v)=false:=by unfold plain;rfl
@[simp] theorem aUm:cV []=true:=by unfold cV;rfl
@[simp] theorem lL(a:D)(x:List D):cV (a :: x)=(plain a&&cV x):=by conv=>lhs;unfold cV
@[simp] theorem aY3:dM []=0:=by unfold dM;rfl
@[simp] theorem aKf(a:D)(x:List D):dM (a :: x)=max (dep a) (dM x):=by conv=>lhs;unfold dM
@[simp] theorem aZu(i j:Int):eqD (.int i) (.int j)=(i==j):=by unfold eqD;rfl
@[simp] theorem aZv(i j:List Nat):eqD (.str i) (.str j)=(i==j):=by unfold eqD;rfl
@[simp] theorem aS5:eqD .non .non=true:=by unfold eqD;rfl
@[simp] theorem aUn(b:Bool):eqD .non (.bl b)=false:=by unfold eqD;rfl
@[simp] theorem aS6(j:Int):eqD .non (.int j)=false:=by unfold eqD;rfl
@[simp] theorem aS7(t:List Nat):eqD .non (.str t)=false:=by unfold eqD;rfl
@[simp] theorem aS8(y:List D):eqD .non (.tup y)=false:=by unfold eqD;rfl
@[simp] theorem aS9(y:List D):eqD .non (.lst y)=false:=by unfold eqD;rfl
@[simp] theorem aUo(a:Bool):eqD (.bl a) .non=false:=by unfold eqD;rfl
@[simp] theorem aWa(a:Bool)(b:Bool):eqD (.bl a) (.bl b)=(a==b):=by unfold eqD;rfl
@[simp] theorem aUp(a:Bool)(j:Int):eqD (.bl a) (.int j)=((if a then (1:Int) else 0)==j):=by unfold eqD;rfl
@[simp] theorem aUq(a:Bool)(t:List Nat):eqD (.bl a) (.str t)=false:=by unfold eqD;rfl
@[simp] theorem aUr(a:Bool)(y:List D):eqD (.bl a) (.tup y)=false:=by unfold eqD;rfl
@[simp] theorem aUs(a:Bool)(y:List D):eqD (.bl a) (.lst y)=false:=by unfold eqD;rfl
@[simp] theorem aSa(i:Int):eqD (.int i) .non=false:=by unfold eqD;rfl
@[simp] theorem aUt(i:Int)(b:Bool):eqD (.int i) (.bl b)=(i==(if b then (1:Int) else 0)):=by unfold eqD;rfl
@[simp] theorem aSb(i:Int)(t:List Nat):eqD (.int i) (.str t)=false:=by unfold eqD;rfl
@[simp] theorem aSc(i:Int)(y:List D):eqD (.int i) (.tup y)=false:=by unfold eqD;rfl
@[simp] theorem aSd(i:Int)(y:List D):eqD (.int i) (.lst y)=false:=by unfold eqD;rfl
@[simp] theorem aSe(s:List Nat):eqD (.str s) .non=false:=by unfold eqD;rfl
@[simp] theorem aUu(s:List Nat)(b:Bool):eqD (.str s) (.bl b)=false:=by unfold eqD;rfl
@[simp] theorem aSf(s:List Nat)(j:Int):eqD (.str s) (.int j)=false:=by unfold eqD;rfl
@[simp] theorem aSg(s:List Nat)(y:List D):eqD (.str s) (.tup y)=false:=by unfold eqD;rfl
@[simp] theorem aSh(s:List Nat)(y:List D):eqD (.str s) (.lst y)=false:=by unfold eqD;rfl
@[simp] theorem aSi(x:List D):eqD (.tup x) .non=false:=by unfold eqD;rfl
@[simp] theorem aUv(x:List D)(b:Bool):eqD (.tup x) (.bl b)=false:=by unfold eqD;rfl
@[simp] theorem aSj(x:List D)(j:Int):eqD (.tup x) (.int j)=false:=by unfold eqD;rfl
@[simp] theorem aSk(x:List D)(t:List Nat):eqD (.tup x) (.str t)=false:=by unfold eqD;rfl
@[simp] theorem aSl(x:List D)(y:List D):eqD (.tup x) (.tup y)=dU x y:=by conv=>lhs;unfold eqD
@[simp] theorem aSm(x:List D)(y:List D):eqD (.tup x) (.lst y)=false:=by unfold eqD;rfl
@[simp] theorem aSn(x:List D):eqD (.lst x) .non=false:=by unfold eqD;rfl
@[simp] theorem aUw(x:List D)(b:Bool):eqD (.lst x) (.bl b)=false:=by unfold eqD;rfl
@[simp] theorem aSo(x:List D)(j:Int):eqD (.lst x) (.int j)=false:=by unfold eqD;rfl
@[simp] theorem aSp(x:List D)(t:List Nat):eqD (.lst x) (.str t)=false:=by unfold eqD;rfl
@[simp] theorem aSq(x:List D)(y:List D):eqD (.lst x) (.tup y)=false:=by unfold eqD;rfl
@[simp] theorem aSr(x:List D)(y:List D):eqD (.lst x) (.lst y)=dU x y:=by conv=>lhs;unfold eqD
@[simp] theorem aQ1:dU [] []=true:=by unfold dU;rfl
@[simp] theorem aP0(b:D)(y:List D):dU [] (b :: y)=false:=by unfold dU;rfl
@[simp] theorem aP1(b:D)(y:List D):dU (b :: y) []=false:=by unfold dU;rfl
@[simp] theorem aMq(a b:D)(x y:List D):dU (a :: x) (b :: y)=(eqD a b&&dU x y):=by conv=>lhs;unfold dU
@[simp] theorem aY4(x:List Nat):cU (.str x)=aH (x.length<=big) (.ok (.int x.length)):=rfl
@[simp] theorem aY5(x:List D):cU (.lst x) = .ok (.int x.length):=rfl
@[simp] theorem aZw(x:List Nat)(i:Int):dIx (.str x) (.int i)=aH (x.length<=big) (ofO ((atI x i).map fun c => .str [c])):=rfl
@[simp] theorem aZx(x:List D)(i:Int):dIx (.tup x) (.int i)=ofO (atI x i):=rfl
@[simp] theorem aZy(x:List D)(i:Int):dIx (.lst x) (.int i)=ofO (atI x i):=rfl
@[simp] theorem aZz(x:List Nat)(l h:Option Int):dSl (.str x) l h=aH (x.length<=big) (.ok (.str (cut x l h))):=rfl
@[simp] theorem bBc(xs:List D):ofK .l xs = .lst xs:=rfl
@[simp] theorem bBd(t:Bool)(ks xs:List D):ofK (.d t ks) xs = .dct t ks xs:=rfl
@[simp] theorem bBe(n:Nat)(c:String)(ns:List String)(xs:List D):ofK (.i n c ns) xs = .ins c ns xs:=rfl
@[simp] theorem aY6{α:Type}(a:α):ofO (some a) = .ok a:=rfl
@[simp] theorem gR{α:Type}{c:Prop}{r:R α}(h:c):aH c r=r:=aG h
@[simp] theorem aSs(n:Nat) : -(big:Int)<=(n:Int):=aL (by omega)
@[simp] theorem aSt{n:Int}(h:0<=n) : -(big:Int)<=n:=aL (by omega)
@[simp] theorem aQ2{np n:Nat}{b:Bd}{ds:List D}(h:ds.length=np):eN np n b ds=(b (ds.map (fun d=>some (.v d))++List.replicate (n - np) none)).bind fun x=>match x with
  | .nx _ => .ok .non
  | .rt d => .ok d
  | _ => .bad:=aG h
theorem aMr{α:Type}{xs:List α}{i:Int}(h0:0<=i)(h:i < xs.length):atI xs i=some (xs[i.toNat]'(by omega)):=by
 unfold atI ixN
 rw [if_pos h0,if_pos h]
 exact List.getElem?_eq_getElem (by omega)
theorem atI_nat{α:Type}{xs:List α}{i:Nat}(h:i < xs.length):atI xs (i:Int)=some xs[i]:=by
 rw [aMr (by omega) (by omega)]
 simp
theorem uE(lo:Int)(n:Nat):(fV lo n).length=n:=by simp [fV]
end Pu
namespace Pu
def aAs:D->R D
 | .lst x => .ok (.lst x)
 | .tup x => .ok (.lst x)
 | _ => .bad
def bls:List D->R (List Bool)
 | [] => .ok []
 | .bl b :: r=>(bls r).bind fun x => .ok (b :: x)
 | _ :: _ => .bad
def zM:List D->R (List Int)
 | [] => .ok []
 | .int i :: r=>(zM r).bind fun x => .ok (i :: x)
 | _ :: _ => .bad
def aA5:D->R D
 | .lst x=>(bls x).bind fun l => .ok (.bl (l.all id))
 | _ => .bad
theorem aMs:∀ {x:List D} {l:List Bool},bls x = .ok l->x=l.map D.bl
 | [],l,h=>by cases h;rfl
 | d :: x,l,h=>by
  cases d<;>first | (cases h;done) | skip
  obtain ⟨l',h1,h2⟩:=R.ok_of h
  cases h2
  rw [aMs h1];rfl
theorem aAt:∀ {x:List D} {l:List Int},zM x = .ok l->x=l.map D.int
 | [],l,h=>by cases h;rfl
 | d :: x,l,h=>by
  cases d<;>first | (cases h;done) | skip
  obtain ⟨l',h1,h2⟩:=R.ok_of h
  cases h2
  rw [aAt h1];rfl
theorem aIo:∀ (l:List Bool),bls (l.map D.bl) = .ok l
 | []=>rfl
 | b :: l=>by show (bls (l.map D.bl)).bind _=_;rw [aIo l];rfl
theorem yD:∀ (l:List Int),zM (l.map D.int) = .ok l
 | []=>rfl
 | b :: l=>by show (zM (l.map D.int)).bind _=_;rw [yD l];rfl
def R.nox{α:Type}(r:R α):R α:=match r with
 | .exc _ => .bad
 | r=>r
theorem R.nox_ok{α:Type}{r:R α}{a:α}(h:r.nox = .ok a):r = .ok a:=by
 cases r with
 | ok b=>exact h
 | exc x=>cases h
 | bad=>cases h
@[simp] theorem bA0{α:Type}(a:α):(R.ok a).nox = .ok a:=rfl
def sNX(b:Bd):Bd:=fun st=>(b st).nox
def eNX(f:Ex):Ex:=fun st=>(f st).nox
def pNX(p:List D->R D):List D->R D:=fun ds=>(p ds).nox
noncomputable def uR(c:String)(r:Exs):Bd:=fun st=>(r st).nox.bind fun xs=>aH (xs.length<=100) (.exc (.exn c [] []))
def aH3:List (List String × List String × (String->Bd))->String->PSt->R Fl
 | [],_,_ => .bad
 | (yes,no,b) :: hs,c,st=>if c∈yes then (b c st).nox else if c∈no then aH3 hs c st else .bad
def hNo(b:Bd):String->Bd:=fun _=>b
def aQ3(b:Bd)(hs:List (List String × List String × (String->Bd))):Bd:=fun st=>match b st with
 | .exc (.exn c [] [])=>aH3 hs c st
 | .exc _ => .bad
 | r=>r
def aDu(p:List D->R D)(r:Exs):Ex:=fun st=>(r st).nox.bind p
inductive NFl where
 | nx (xss:List (List D)) (st:PSt) | rt (d:D)
abbrev NB:=List (List D)->PSt->R NFl
def bAx(j:Nat)(f:Ex):NB:=fun xss st=>(f st).bind fun d => .ok (.nx xss (st.set j (some (.v d))))
def bAy(f:Ex):NB:=fun _ st=>(f st).bind fun d => .ok (.rt d)
def nIf(c:Ex)(a b:NB):NB:=fun xss st=>(c st).bind fun x=>onB x fun q=>if q=true then a xss st else b xss st
noncomputable def bAz(g f:Ex):NB:=fun xss st=>(g st).bind fun x=>inI x fun j=>(f st).bind fun d=>(ofO (ixN xss.length j)).bind fun k=>match xss[k]? with
 | some ys=>aH (ys.length < big) (.ok (.nx (xss.set k (ys++[d])) st))
 | none => .bad
def aMt(i:Nat):Bd:=fun st=>match st[i]? with
 | some (some (.o .l xs)) => .ok (.rt (.lst xs))
 | _ => .bad
def vX(bd:Bd)(i:Nat):Bd:=fun st=>match bd st with
 | .ok (.nx s)=>aMt i s
 | _ => .bad
def zN(l:List Int):List Int:=l.foldl (fun acc x=>if acc.any (· == x) then acc else acc++[x]) []
def atom:D->Bool
 | .non=>true
 | .bl _=>true
 | .int _=>true
 | .str _=>true
 | _=>false
def aY7:D->Bool
 | .lst xs=>xs.all atom
 | _=>false
noncomputable section
def aUx:D->R D
 | .lst xs=>aH (xs.length<=big/\xs.all aY7=true) (.ok (.lst xs))
 | _ => .bad
def unL:D->List D
 | .lst xs=>xs
 | _=>[]
open Classical in
def bBf(c:String)(np n:Nat)(b:Bd)(ds:List D):R D:=if h:∃ r,∀ x,aCt c np n b x ds=r then choose h else .bad
end
noncomputable section
end
noncomputable section
end
def vY:List Nat->List D->List D
 | c :: z,d :: ds => .tup [.str [c],d] :: vY z ds
 | _,_=>[]
def aSu(f g:Ex):ItE:=fun st=>(f st).bind fun x=>(g st).bind fun y=>match x,y with
 | .str z,.lst ds => .ok (vY z ds)
 | _,_ => .bad
noncomputable section
def yE(i:Nat)(g f:Ex):Bd:=fun st=>(g st).bind fun k=>(f st).bind fun d=>aH (aKd k=true/\atom d=true) (.ok (.nx (st.set i (some (.o (.d false [k]) [d])))))
end
noncomputable section
def uT:Op2
 | .int i,.int j=>aH (0<=j/\j<=1000000/\i.natAbs < 18446744073709551616) (.ok (.int (i * 2 ^ j.toNat)))
 | _,_ => .bad
def pA:Op2
 | .int i,.int j=>aH (0<=j) (.ok (.int (i / 2 ^ j.toNat)))
 | _,_ => .bad
def pB:Op2
 | .int i,.int j=>aH (0<=i/\0<=j) (.ok (.int ((i.toNat &&& j.toNat:Nat):Int)))
 | _,_ => .bad
def dOr:Op2
 | .int i,.int j=>aH (0<=i/\0<=j) (.ok (.int ((i.toNat ||| j.toNat:Nat):Int)))
 | _,_ => .bad
def aIp:Mop
 | .lst xs,[.int k]=>(zM xs).bind fun l=>(ofO (l.findIdx? fun i=>i==k)).bind fun n=>aH (xs.length<=big) (.ok (.int (n:Int)))
 | _,_ => .bad
end
def lV(i:Int):Nat:=if i=0 then 0 else i.natAbs.log2+1
def aA7:D->R D
 | .int i => .ok (.int (lV i:Nat))
 | _ => .bad
def aH4:Op2
 | .int i,.int j => .ok (.bl (decide (i < j)))
 | _,_ => .bad
noncomputable def iG:Op2
 | .int i,.int j=>aH ((-18446744073709551616 < i/\i < 18446744073709551616)\/(-18446744073709551616 < j/\j < 18446744073709551616)) (.ok (.int (i * j)))
 | _,_ => .bad
@[simp] theorem aY8(i j:Int):aH4 (.int i) (.int j) = .ok (.bl (decide (i < j))):=rfl
@[simp] theorem aWb(i j:Int):iG (.int i) (.int j)=aH ((-18446744073709551616 < i/\i < 18446744073709551616)\/(-18446744073709551616 < j/\j < 18446744073709551616)) (.ok (.int (i * j))):=rfl
end Pu
namespace Pu
noncomputable section
def aDv(l:List Int):List Int:=l.mergeSort fun a b=>decide (a<=b)
theorem aAu(l:List Int):(aDv l).Perm l:=List.mergeSort_perm _ _
theorem aF8(l:List Int):(aDv l).Pairwise (· <= ·):=by
 have h:=List.pairwise_mergeSort (le:=fun a b:Int=>decide (a<=b)) (fun a b c h1 h2=>by
  have:=of_decide_eq_true h1
  have:=of_decide_eq_true h2
  exact decide_eq_true (by omega)) (fun a b=>by
  rcases Int.le_total a b with h | h
  ·simp [h]
  ·simp [h]) l
 exact h.imp fun h=>of_decide_eq_true h
def aA8:D->R D
 | .lst x=>(zM x).bind fun l=>aH (l.length<=4000/\(zN l).length < 64) (.ok (.lst ((aDv (zN l)).map D.int)))
 | _ => .bad
end
end Pu
namespace Pu
noncomputable section
def vZ:D->D->D->R D
 | .dct t ks vs,k,x=>aH (keyOk t k=true) (if oG ks k=true then ofO (rH ks vs k) else .ok x)
 | _,_,_ => .bad
def aCb(f g h:Ex):Ex:=fun st=>(f st).bind fun d=>(g st).bind fun k=>(h st).bind fun x=>vZ d k x
end
end Pu
namespace Pu
noncomputable section
def zO:Bd:=bN (sIf (e2 aH4 (aB 1) (e1 cU (aB 0))) (dH (e2 dIx (aB 0) (aB 1))) (cW)) (bN (sIf (e2 dEq (aB 0) (nQ (bG))) (dH (e2 iG (eC (.int 7919)) (aB 1))) (cW)) (dH (e2 jT (e2 zJ (e2 dIx (aB 0) (e2 oW (aB 1) (e1 cU (aB 0)))) (e2 jT (aB 1) (eC (.int 1)))) (e2 iG (eC (.int 7919)) (aB 1)))))
def dC:List D->R D:=eN 2 2 zO
def uU:Bd:=bN (cX 3 (e2 oW (e2 iG (e2 jT (e2 oW (aB 0) (eC (.int 2147483647))) (e2 iG (eC (.int 7919)) (aB 1))) (eC (.int 48271))) (eC (.int 2147483629)))) (bN (cX 3 (e2 oW (e2 iG (e2 oW (e2 iG (aB 3) (aB 3)) (eC (.int 2147483647))) (eC (.int 69621))) (eC (.int 2147483587)))) (dH (e2 oW (e2 oW (e2 iG (aB 3) (aB 3)) (eC (.int 2147483629))) (aB 2))))
def bL:List D->R D:=eN 3 4 uU
def pC(st:PSt):R D:=(aY bL (aC (aB 10) (aC (e2 jT (eC (.int 11)) (aB 13)) (aC (aB 4) (bG))))) st
def gK(st:PSt):R D:=(e2 oW (e2 zJ (aB 10) (e2 dIx (nQ (aC (eC (.int 1)) (aC (eC (.int 8)) (aC (eC (.int 64)) (bG))))) (aB 13))) (aB 4)) st
def gM(st:PSt):R Fl:=(bN (cX 10 (aY dC (aC (aB 0) (aC (e2 jT (e2 jT (aB 1) (eC (.int 2))) (aB 9)) (bG))))) (bN (nU 11 (fK [13] (tgN 13) (oY (aB 5)) jL (pC))) (bN (cX 12 (aY bL (aC (aB 10) (aC (eC (.int 10)) (aC (eC (.int 7)) (bG)))))) (bN (sIf (e2 dEq (aY bL (aC (aB 3) (aC (eC (.int 6)) (aC (eC (.int 2)) (bG))))) (eC (.int 0))) (bN (nU 11 (fK [13] (tgN 13) (oY (aB 5)) jL (gK))) (cX 12 (e2 oW (e2 zJ (aB 10) (eC (.int 512))) (eC (.int 7))))) (sIf (mF (e2 dEq (aY bL (aC (aB 3) (aC (eC (.int 3)) (aC (eC (.int 2)) (bG))))) (eC (.int 0))) (e2 dGt (aY bL (aC (aB 10) (aC (eC (.int 8)) (aC (eC (.int 4)) (bG))))) (eC (.int 0)))) (aMg 11 (aY bL (aC (aB 10) (aC (eC (.int 9)) (aC (aB 5) (bG))))) (e2 oW (e2 jT (aB 9) (eC (.int 1))) (aB 4))) (cW))) (bN (sFz [11] (vW 7 (aB 11))) (vW 8 (e2 iG (aB 12) (aB 6)))))))) st
def rY:Bd:=bN (cX 3 (aY dC (aC (aB 0) (aC (aB 1) (bG))))) (bN (cX 4 (e2 jT (eC (.int 1)) (aY bL (aC (aB 3) (aC (eC (.int 1)) (aC (e2 dIx (nQ (aC (eC (.int 4)) (aC (eC (.int 5)) (aC (eC (.int 5)) (aC (aB 2) (bG)))))) (aY bL (aC (aB 3) (aC (eC (.int 5)) (aC (eC (.int 4)) (bG)))))) (bG))))))) (bN (cX 5 (e2 jT (eC (.int 1)) (aY bL (aC (aB 3) (aC (eC (.int 2)) (aC (eC (.int 3)) (bG))))))) (bN (cX 6 (e2 dIx (nQ (aC (eC (.int 1)) (aC (eC (.int 1)) (aC (eC (.int 1)) (aC (e2 jT (eC (.int 1)) (e2 iG (eC (.int 2)) (e2 oW (aY dC (aC (aB 0) (aC (e2 jT (aB 1) (eC (.int 1))) (bG)))) (e2 aMf (eC (.int 10)) (eC (.int 27)))))) (bG)))))) (aY bL (aC (aB 3) (aC (eC (.int 4)) (aC (eC (.int 4)) (bG))))))) (bN (nU 7 (nQ (bG))) (bN (nU 8 (nQ (bG))) (bN (oZ (tgN 9) (oY (aB 4)) (gM)) (sFz [7,8] (dH (aUa (aC (aB 7) (aC (aB 8) (bG))))))))))))
def gD:List D->R D:=eN 3 14 rY
def jM(st:PSt):R Fl:=(sIf (mF (e2 dEq (e2 pB (e2 pA (aB 1) (aB 5)) (eC (.int 1))) (eC (.int 1))) (e2 eZ (aB 5) (fX 3))) (vW 3 (aB 5)) (cW)) st
def rZ(st:PSt):R Fl:=(bN (oZ (tgN 5) (itE (e2 dIx (aB 0) (e2 dIx (fX 3) (aB 4)))) (jM)) (cX 4 (e2 jT (aB 4) (eC (.int 1))))) st
def mW(st:PSt):R D:=(e2 aH4 (aB 4) (e1 cU (fX 3))) st
def qC:Bd:=bN (nU 3 (nQ (aC (aB 2) (bG)))) (bN (cX 4 (eC (.int 0))) (bN (aAq 100000 (mW) (rZ)) (sFz [3] (dH (aB 3)))))
def gO:List D->R D:=eN 3 6 qC
def pD(st:PSt):R D:=(aB 3) st
def pF(st:PSt):R D:=(e2 dEq (e2 pB (e2 pA (aB 1) (aB 3)) (eC (.int 1))) (eC (.int 1))) st
def pG(st:PSt):R Fl:=(sIf (e2 dNe (e1 cU (aY gO (aC (aB 0) (aC (aB 1) (aC (aB 3) (bG)))))) (e1 cU (aB 2))) (dH (eC (.bl false))) (cW)) st
def sE:Bd:=bN (cX 2 (fK [3] (tgN 3) (oY (e1 cU (aB 0))) (pF) (pD))) (bN (oZ (tgN 3) (itE (aB 2)) (pG)) (dH (eOr (e2 dGt (e1 cU (aB 2)) (eC (.int 1))) (mF (e2 dEq (e1 cU (aB 2)) (eC (.int 1))) (e2 dIn (e2 dIx (aB 2) (eC (.int 0))) (e2 dIx (aB 0) (e2 dIx (aB 2) (eC (.int 0)))))))))
def jN:List D->R D:=eN 2 4 sE
def mX(st:PSt):R D:=(aB 1) st
def mY(st:PSt):R D:=(aY jN (aC (aB 0) (aC (aB 1) (bG)))) st
def qD:Bd:=dH (fK [1] (tgN 1) (aPv (eC (.int 1)) (e2 uT (eC (.int 1)) (e1 cU (aB 0)))) (mY) (mX))
def mG:List D->R D:=eN 1 2 qD
def uV:Bd:=dH (e2 dEq (e2 pB (e2 pA (aB 0) (aB 1)) (eC (.int 1))) (eC (.int 1)))
def cY:List D->R D:=eN 2 2 uV
def qF(st:PSt):R D:=(aB 1) st
def qG(st:PSt):R D:=(aY cY (aC (aB 0) (aC (aB 1) (bG)))) st
def uW:Bd:=dH (fK [1] (tgN 1) (oY (e1 aA7 (aB 0))) (qG) (qF))
def cC:List D->R D:=eN 1 2 uW
def jB(st:PSt):R Fl:=(cX 1 (e2 dOr (aB 1) (e2 uT (eC (.int 1)) (aB 2)))) st
def yF:Bd:=bN (cX 1 (eC (.int 0))) (bN (oZ (tgN 2) (itE (aB 0)) (jB)) (dH (aB 1)))
def jC:List D->R D:=eN 1 3 yF
def sH(st:PSt):R Fl:=(sDPut 3 (aB 4) (e2 pB (e2 dOr (aY jC (aC (e2 dIx (aB 0) (aB 4)) (bG))) (e2 uT (eC (.int 1)) (aB 4))) (aB 1))) st
def jO(st:PSt):R Fl:=(sIf (aY cY (aC (e2 dIx (fX 3) (aB 4)) (aC (aB 5) (bG)))) (sDPut 3 (aB 4) (e2 dOr (e2 dIx (fX 3) (aB 4)) (e2 dIx (fX 3) (aB 5)))) (cW)) st
def sI(st:PSt):R Fl:=(oZ (tgN 4) (itE (aB 2)) (jO)) st
def wA:Bd:=bN (cX 2 (aY cC (aC (aB 1) (bG)))) (bN (aMh 3 false) (bN (oZ (tgN 4) (itE (aB 2)) (sH)) (bN (oZ (tgN 5) (itE (aB 2)) (sI)) (sFz [3] (dH (aB 3))))))
def mH:List D->R D:=eN 2 6 wA
def wB:Bd:=bN (cX 2 (aY cC (aC (aB 1) (bG)))) (dH (eOr (e2 dGt (e1 cU (aB 2)) (eC (.int 1))) (e2 dIn (e2 dIx (aB 2) (eC (.int 0))) (e2 dIx (aB 0) (e2 dIx (aB 2) (eC (.int 0)))))))
def mJ:List D->R D:=eN 2 3 wB
def qY(st:PSt):R D:=(aB 6) st
def qZ(st:PSt):R D:=(aY cY (aC (e2 dIx (aB 2) (aB 6)) (aC (aB 4) (bG)))) st
def lR(st:PSt):R Fl:=(bN (cX 5 (aY jC (aC (fK [6] (tgN 6) (itE (aY cC (aC (e2 dIx (aB 2) (aB 4)) (bG)))) (qZ) (qY)) (bG)))) (sIf (mF (e2 eZ (aB 5) (fX 3)) (aY mJ (aC (aB 0) (aC (aB 5) (bG))))) (vW 3 (aB 5)) (cW))) st
def uF:Bd:=bN (cX 2 (aY mH (aC (aB 0) (aC (aB 1) (bG))))) (bN (nU 3 (nQ (bG))) (bN (oZ (tgN 4) (itE (aY cC (aC (aB 1) (bG)))) (lR)) (sFz [3] (dH (aB 3)))))
def lD:List D->R D:=eN 2 7 uF
def wC:Bd:=dH (aY lD (aC (e1 (xZ "Machine" "steps") (aB 0)) (aC (aB 1) (bG))))
def mK:List D->R D:=eN 2 2 wC
def yG:Bd:=dH (e2 dEq (aY mK (aC (aB 0) (aC (aB 1) (bG)))) (nQ (aC (aB 1) (bG))))
def pH:List D->R D:=eN 2 2 yG
def lE(st:PSt):R Fl:=(sIf (mF (e2 dIn (aB 8) (aB 2)) (e2 eZ (aB 8) (fX 3))) (bN (sDPut 3 (aB 8) (e2 jT (e2 dIx (fX 3) (aB 6)) (aB 7))) (vW 4 (aB 8))) (cW)) st
def uG(st:PSt):R Fl:=(bN (cX 6 (e2 dIx (fX 4) (aB 5))) (bN (oZ (tgT [7,8]) (aSu (eC (.str [97,98,99])) (e2 dIx (aB 0) (aB 6))) (lE)) (cX 5 (e2 jT (aB 5) (eC (.int 1)))))) st
def oK(st:PSt):R D:=(e2 aH4 (aB 5) (e1 cU (fX 4))) st
def sJ:Bd:=bN (yE 3 (aB 1) (eC (.str []))) (bN (nU 4 (nQ (aC (aB 1) (bG)))) (bN (cX 5 (eC (.int 0))) (bN (aAq 100000 (oK) (uG)) (sFz [3] (dH (aB 3))))))
def jD:List D->R D:=eN 3 9 sJ
def aF9:Bd:=bN (sIf (pY (aY cY (aC (aB 1) (aC (aB 2) (bG))))) (dH (eC .non)) (cW)) (dH (aCb (aY jD (aC (e1 (xZ "Machine" "steps") (aB 0)) (aC (aB 2) (aC (aY cC (aC (aB 1) (bG))) (bG))))) (aB 3) (eC .non)))
def fP:List D->R D:=eN 4 4 aF9
def fB(st:PSt):R Fl:=(bN (cX 1 (e2 dIx (e2 dIx (e1 (xZ "Machine" "steps") (aB 0)) (aB 1)) (eMt aCq (eC (.str [97,98,99])) (aC (aB 4) (bG))))) (vW 3 (aB 1))) st
def cQ:Bd:=bN (nU 3 (nQ (aC (aB 1) (bG)))) (bN (oZ (tgN 4) (itE (aB 2)) (fB)) (cW))
def rJ:Bd:=vX cQ 3
def cI:List D->R D:=eN 3 5 rJ
def wF(st:PSt):R Fl:=(sIf (e2 eZ (aB 5) (aF6 "Machine" "rooms_along" (cI) [] (aB 0) (aC (aB 2) (aC (aB 3) (bG))))) (bN (cX 3 (e2 jT (aB 3) (aY fP (aC (aB 0) (aC (aB 1) (aC (aB 4) (aC (aB 5) (bG)))))))) (cX 4 (aB 5))) (cW)) st
def uX:Bd:=bN (sIf (eNX (pY (aY pH (aC (aB 0) (aC (aB 1) (bG)))))) (uR "NoLoop" (aC (eC (.str [116,104,105,115,32,115,101,116,32,111,102,32,114,111,111,109,115,32,105,115,32,110,111,32,108,111,111,112])) (bG))) (cW)) (bN (sIf (eNX (pY (aY cY (aC (aB 1) (aC (aB 2) (bG)))))) (uR "NoLoop" (aC (eC (.str [116,104,101,32,114,111,111,109,32,105,115,32,110,111,116,32,105,110,32,116,104,101,32,108,111,111,112])) (bG))) (cW)) (bN (sNX (sIf (e2 dEq (aY cC (aC (aB 1) (bG))) (nQ (aC (aB 2) (bG)))) (dH (e2 dIx (eC (.str [97,98,99])) (eMt aIp (e2 dIx (e1 (xZ "Machine" "steps") (aB 0)) (aB 2)) (aC (aB 2) (bG))))) (cW))) (bN (sNX (cX 3 (eC (.str [])))) (bN (sNX (cX 4 (aB 2))) (bN (sNX (oZ (tgN 5) (itE (aY cC (aC (aB 1) (bG)))) (wF))) (sNX (dH (e2 jT (aB 3) (aY fP (aC (aB 0) (aC (aB 1) (aC (aB 4) (aC (aB 2) (bG))))))))))))))
def gF:List D->R D:=eN 3 6 uX
def fY:Bd:=bN (cX 3 (eC .non)) (bN (aQ3 (cX 3 (aDu gF (aC (aB 0) (aC (aB 1) (aC (aB 2) (bG)))))) ((["NoLoop"],["NoMachine"],hNo (cX 3 (eC (.str [])))) :: [])) (dH (aB 3)))
def eE:List D->R D:=eN 3 4 fY
def rA(st:PSt):R Fl:=(bN (cX 1 (e2 dIx (e2 dIx (aB 0) (aB 1)) (eMt xY (eC (.str [97,98,99])) (aC (aB 4) (bG))))) (vW 3 (aB 1))) st
def uH:Bd:=bN (nU 3 (nQ (bG))) (bN (oZ (tgN 4) (itE (aB 2)) (rA)) (sFz [3] (dH (aB 3))))
def lF:List D->R D:=eN 3 5 uH
def lW(st:PSt):R Fl:=(sIf (e2 eZ (aB 4) (eSl (eC (.str [97,98,99])) (aIg) (aCr (e1 cU (e2 dIx (aB 0) (eC (.int 0))))))) (dH (eC (.bl false))) (cW)) st
def lX(st:PSt):R D:=(aB 7) st
def lY(st:PSt):R D:=(e2 dEq (e2 pB (e2 pA (aB 1) (aB 7)) (eC (.int 1))) (eC (.int 1))) st
def nW:Bd:=bN (sIf (eOr (pY (eB aPu (aB 3))) (eOr (e2 dEq (aB 3) (eC (.str []))) (e2 dGt (e1 cU (aB 3)) (e2 iG (e1 cU (aB 0)) (e1 cU (aB 0)))))) (dH (eC (.bl false))) (cW)) (bN (oZ (tgN 4) (itE (aB 3)) (lW)) (bN (cX 5 (aY lF (aC (aB 0) (aC (aB 2) (aC (aB 3) (bG)))))) (bN (cX 6 (fK [7] (tgN 7) (oY (e1 cU (aB 0))) (lY) (lX))) (dH (mF (e2 dEq (e1 aA8 (aB 5)) (aB 6)) (mF (e2 dEq (e2 dIx (aB 5) (e1 aU8 (eC (.int 1)))) (aB 2)) (e2 dLe (e1 cU (aB 3)) (e2 iG (e1 cU (aB 6)) (e1 cU (aB 6))))))))))
def fZ:List D->R D:=eN 4 8 nW
def mZ(st:PSt):R D:=(aB 6) st
def nA(st:PSt):R D:=(e2 dEq (aCb (fX 3) (aB 6) (eC (.int 99))) (aB 4)) st
def iV(st:PSt):R Fl:=(sIf (mF (e2 dEq (e2 pB (e2 pA (aB 1) (aB 5)) (eC (.int 1))) (eC (.int 1))) (e2 eZ (aB 5) (fX 3))) (sIf (e2 dNe (fK [6] (tgN 6) (itE (e2 dIx (aB 0) (aB 5))) (nA) (mZ)) (nQ (bG))) (sDPut 3 (aB 5) (e2 jT (aB 4) (eC (.int 1)))) (cW)) (cW)) st
def nC(st:PSt):R Fl:=(oZ (tgN 5) (oY (e1 cU (aB 0))) (iV)) st
def pI:Bd:=bN (yE 3 (aB 2) (eC (.int 0))) (bN (oZ (tgN 4) (oY (e1 cU (aB 0))) (nC)) (sFz [3] (dH (aB 3))))
def gP:List D->R D:=eN 3 7 pI
def wG(st:PSt):R D:=(aB 7) st
def wH(st:PSt):R D:=(e2 dEq (aCb (aB 4) (e2 dIx (e2 dIx (aB 0) (aB 2)) (aB 7)) (eC (.int 99))) (e2 aGy (e2 dIx (aB 4) (aB 2)) (eC (.int 1)))) st
def wI(st:PSt):R Fl:=(bN (cX 6 (fK [7] (tgN 7) (oY (e1 cU (e2 dIx (aB 0) (aB 2)))) (wH) (wG))) (bN (cX 5 (e2 jT (aB 5) (e2 dIx (eC (.str [97,98,99])) (e2 dIx (aB 6) (eC (.int 0)))))) (cX 2 (e2 dIx (e2 dIx (aB 0) (aB 2)) (e2 dIx (aB 6) (eC (.int 0))))))) st
def wJ(st:PSt):R D:=(e2 dNe (aB 2) (aB 3)) st
def aAv:Bd:=bN (sIf (eOr (e2 dEq (e2 pB (e2 pA (aB 1) (aB 2)) (eC (.int 1))) (eC (.int 0))) (e2 dEq (e2 pB (e2 pA (aB 1) (aB 3)) (eC (.int 1))) (eC (.int 0)))) (dH (eC .non)) (cW)) (bN (cX 4 (aY gP (aC (aB 0) (aC (aB 1) (aC (aB 3) (bG)))))) (bN (sIf (e2 eZ (aB 2) (aB 4)) (dH (eC .non)) (cW)) (bN (cX 5 (eC (.str []))) (bN (aAq 100000 (wJ) (wI)) (dH (aB 5))))))
def iW:List D->R D:=eN 4 8 aAv
def jW:Bd:=dH (mF (eB aKe (aB 0)) (mF (e2 dGe (e1 cU (aB 0)) (eC (.int 1))) (e2 dLe (e1 cU (aB 0)) (aB 1))))
def cZ:List D->R D:=eN 2 2 jW
def uY:Bd:=dH (mF (eB isIn (aB 0)) (pY (eB aU9 (aB 0))))
def iY:List D->R D:=eN 1 1 uY
def uZ:Bd:=dH (mF (aY iY (aC (aB 0) (bG))) (mF (e2 dGe (aB 0) (eC (.int 0))) (e2 aH4 (aB 0) (aB 1))))
def nD:List D->R D:=eN 2 2 uZ
def vA(st:PSt):R D:=(aY nD (aC (aB 3) (aC (aB 2) (bG)))) st
def aAw:Bd:=dH (mF (e2 dEq (e1 cU (aB 0)) (aB 1)) (e1 aA5 (fK [3] (tgN 3) (itE (aB 0)) jL (vA))))
def wK:List D->R D:=eN 3 4 aAw
def oM(st:PSt):R D:=(aY cZ (aC (aB 1) (aC (eC (.int 3)) (bG)))) st
def oN(st:PSt):R D:=(aY wK (aC (aB 1) (aC (e1 cU (e2 dIx (aB 0) (eC (.int 0)))) (aC (e1 cU (aB 0)) (bG))))) st
def sO:Bd:=bN (sIf (pY (aY cZ (aC (aB 0) (aC (eC (.int 8)) (bG))))) (dH (eC (.bl false))) (cW)) (bN (sIf (pY (e1 aA5 (fK [1] (tgN 1) (itE (aB 0)) jL (oM)))) (dH (eC (.bl false))) (cW)) (dH (e1 aA5 (fK [1] (tgN 1) (itE (aB 0)) jL (oN)))))
def nY:List D->R D:=eN 1 2 sO
def oO(st:PSt):R D:=(mF (aY iY (aC (aB 2) (bG))) (e2 dGe (aB 2) (eC (.int 0)))) st
def sS:Bd:=bN (sIf (eOr (pY (eB aKe (aB 0))) (e2 dNe (e1 cU (aB 0)) (aB 1))) (dH (eC (.bl false))) (cW)) (dH (e1 aA5 (fK [2] (tgN 2) (itE (aB 0)) jL (oO))))
def nZ:List D->R D:=eN 2 3 sS
def gG(st:PSt):R D:=(e1 aAs (aB 3)) st
def dW:Bd:=bN (sIf (pY (aY nY (aC (aB 1) (bG)))) (aH1) (cW)) (bN (sIf (pY (aY nZ (aC (aB 2) (aC (e1 cU (aB 1)) (bG))))) (aH1) (cW)) (bN (aCs 0 "Machine" "steps" (fK [3] (tgN 3) (itE (aB 1)) jL (gG))) (bN (aCs 0 "Machine" "ranks" (e1 aAs (aB 2))) (bN (aCs 0 "Machine" "many" (e1 cU (aB 1))) (aCs 0 "Machine" "letters" (e1 cU (e2 dIx (aB 1) (eC (.int 0)))))))))
def fO:List D->R D:=aDt "Machine" 2 4 dW
def aIq(st:PSt):R D:=(e1 aAs (aB 13)) st
def aDw(st:PSt):R Fl:=(bN (cX 8 (e2 oW (e2 jT (aY dC (aC (aB 0) (aC (eC (.int 1)) (bG)))) (aB 4)) (aB 2))) (bN (cX 9 (aY eE (aC (aB 1) (aC (aB 4) (aC (aB 8) (bG)))))) (sIf (mF (e2 dIn (aB 4) (aB 3)) (e2 dEq (e2 pB (e2 pA (aB 4) (aB 8)) (eC (.int 1))) (eC (.int 1)))) (sIf (pY (aY fZ (aC (aB 6) (aC (aB 4) (aC (aB 8) (aC (aB 9) (bG))))))) (dH (eC (.bl false))) (cW)) (sIf (e2 dNe (aB 9) (eC (.str []))) (dH (eC (.bl false))) (cW))))) st
def aDx(st:PSt):R Fl:=(bN (cX 10 (aY bL (aC (aB 5) (aC (eC (.int 21)) (aC (e2 uT (eC (.int 1)) (aB 2)) (bG)))))) (bN (sIf (e2 dEq (aY bL (aC (aB 5) (aC (eC (.int 24)) (aC (eC (.int 3)) (bG))))) (eC (.int 0))) (cX 10 (e2 aGy (e2 uT (eC (.int 1)) (aB 2)) (eC (.int 1)))) (cW)) (bN (cX 8 (aY bL (aC (aB 5) (aC (eC (.int 22)) (aC (aB 2) (bG)))))) (bN (cX 11 (aY bL (aC (aB 5) (aC (eC (.int 23)) (aC (aB 2) (bG)))))) (bN (cX 12 (aY fP (aC (aB 1) (aC (aB 10) (aC (aB 8) (aC (aB 11) (bG))))))) (sIf (eOr (mF (e2 aH0 (aB 12) (eC .non)) (pY (eB aPu (aB 12)))) (e2 dNe (aB 12) (aY iW (aC (aB 6) (aC (aB 10) (aC (aB 8) (aC (aB 11) (bG)))))))) (dH (eC (.bl false))) (cW))))))) st
def aSv:Bd:=bN (aUb (tgT [6,7]) (aY gD (aC (aB 0) (aC (eC (.int 0)) (aC (eC (.int 8)) (bG)))))) (bN (cX 1 (aY fO (aC (fK [13] (tgN 13) (itE (aB 6)) jL (aIq)) (aC (e1 aAs (aB 7)) (bG))))) (bN (cX 2 (e1 cU (aB 6))) (bN (cX 3 (aY mG (aC (aB 6) (bG)))) (bN (oZ (tgN 4) (oY (e2 uT (eC (.int 1)) (aB 2))) (aDw)) (bN (oZ (tgN 5) (itE (eSl (aB 0) (aCr (eC (.int 2))) (aCr (eC (.int 12))))) (aDx)) (dH (eC (.bl true))))))))
def aCu:List D->R D:=eN 1 14 aSv
end
end Pu
namespace Pu
@[simp] theorem aWc{α β:Type}(x:D)(f:α->R β):(R.exc x:R α).bind f = .exc x:=rfl
@[simp] theorem aY9{α:Type}:(R.bad:R α).nox = .bad:=rfl
@[simp] theorem aYa{α:Type}(x:D):(R.exc x:R α).nox = .bad:=rfl
@[simp] theorem aYb(x:D)(f:PSt->R Fl):aCa (.exc x) f = .exc x:=rfl
@[simp] theorem bB0(b:Bd)(st:PSt):sNX b st=(b st).nox:=rfl
@[simp] theorem bB1(f:Ex)(st:PSt):eNX f st=(f st).nox:=rfl
@[simp] theorem bB2(p:List D->R D)(ds:List D):pNX p ds=(p ds).nox:=rfl
@[simp] theorem aWd(c:String)(r:Exs)(st:PSt):uR c r st=(r st).nox.bind fun xs=>aH (xs.length<=100) (.exc (.exn c [] [])):=rfl
@[simp] theorem aWe(p:List D->R D)(r:Exs)(st:PSt):aDu p r st=(r st).nox.bind p:=rfl
@[simp] theorem bA1(b:Bd)(hs:List (List String × List String × (String->Bd)))(st:PSt):aQ3 b hs st=(match b st with | .exc (.exn c [] [])=>aH3 hs c st | .exc _ => .bad | r=>r):=rfl
@[simp] theorem aWf(yes no:List String)(b:String->Bd)(hs:List (List String × List String × (String->Bd)))(c:String)(st:PSt):aH3 ((yes,no,b) :: hs) c st=if c∈yes then (b c st).nox else if c∈no then aH3 hs c st else .bad:=rfl
@[simp] theorem bB3(b:Bd)(c:String)(st:PSt):hNo b c st=b st:=rfl
@[simp] theorem aFa(x:List D):aA5 (.lst x)=(bls x).bind fun l => .ok (.bl (l.all id)):=rfl
@[simp] theorem aWg(x:List D):aAs (.lst x) = .ok (.lst x):=rfl
@[simp] theorem aWh(x:List D):aAs (.tup x) = .ok (.lst x):=rfl
theorem aMu{x:List D}{l:List Bool}(h:x=l.map D.bl)(ht:∀ b∈l,b=true):aA5 (.lst x) = .ok (.bl true):=by
 subst h
 rw [aFa,aIo]
 have:l.all id=true:=List.all_eq_true.mpr fun b hb=>by simp [ht b hb]
 simp [this]
end Pu
namespace Pu
@[simp] theorem bA2(j:Nat)(f:Ex)(xss:List (List D))(st:PSt):bAx j f xss st=(f st).bind fun d => .ok (.nx xss (st.set j (some (.v d)))):=rfl
@[simp] theorem bA3(f:Ex)(xss:List (List D))(st:PSt):bAy f xss st=(f st).bind fun d => .ok (.rt d):=rfl
@[simp] theorem bB4(c:Ex)(a b:NB)(xss:List (List D))(st:PSt):nIf c a b xss st=(c st).bind fun x=>onB x fun q=>if q=true then a xss st else b xss st:=rfl
@[simp] theorem bA4(g f:Ex)(xss:List (List D))(st:PSt):bAz g f xss st=(g st).bind fun x=>inI x fun j=>(f st).bind fun d=>(ofO (ixN xss.length j)).bind fun k=>match xss[k]? with
 | some ys=>aH (ys.length < big) (.ok (.nx (xss.set k (ys++[d])) st))
 | none => .bad:=rfl
end Pu
namespace Pu
def Ltr(m:Int)(x:List Nat):Prop:=∀ c∈x,97<=c/\(c:Int) < 97+m
end Pu
namespace Pu
theorem aR{a b:Bd}{st st':PSt}{r:R Fl}(h:a st = .ok (.nx st'))(h2:b st'=r):bN a b st=r:=by
 rw [aIl,h]
 exact h2
theorem dX{a b:Bd}{st:PSt}{r:R Fl}(h:a st = .ok (.nx st))(h2:b st=r):bN a b st=r:=aR h h2
theorem vB{a b:Bd}{st:PSt}{d:D}(h:a st = .ok (.rt d)):bN a b st = .ok (.rt d):=by
 rw [aIl,h]
 rfl
theorem cO{np n:Nat}{b:Bd}{ds:List D}{d:D}(h:ds.length=np)(hb:b (ds.map (fun d=>some (.v d))++List.replicate (n - np) none) = .ok (.rt d)):eN np n b ds = .ok d:=by
 rw [aQ2 h,hb]
 rfl
end Pu
namespace Pu
theorem zP(n:Nat):fV 0 n=(List.range n).map fun (k:Nat)=>D.int (k:Int):=by
 unfold fV
 refine List.map_congr_left fun k _=>?_
 rw [Int.zero_add]
theorem aAx{L:Bd}{j:Nat}(S:Option Sl->PSt)(hset:∀ x d,(S x).set j (some (.v d))=S (some (.v d)))(p:Nat->Bool)(r:Nat->D):∀ (ks:List Nat),(∀ k∈ks,L (S (some (.v (.int (k:Int)))))=if p k=true then .ok (.rt (r k)) else .ok (.nx (S (some (.v (.int (k:Int))))))) ->
  ∀ x,∃ x',forR (tgN j) L (ks.map fun (k:Nat)=>D.int (k:Int)) (S x)=match ks.find? p with | some k => .ok (.rt (r k)) | none => .ok (.nx (S x'))
 | [],_,x=>⟨x,rfl⟩
 | k :: ks,hb,x=>by
  have h0:=hb k List.mem_cons_self
  rw [List.map_cons,jA]
  simp only [aUk,aU,hset,h0]
  by_cases hp:p k=true
  ·refine ⟨x,?_⟩
   rw [if_pos hp,List.find?_cons_of_pos hp]
   rfl
  ·obtain ⟨x',e⟩:=aAx S hset p r ks (fun k hk=>hb k (List.mem_cons_of_mem _ hk)) (some (.v (.int (k:Int))))
   refine ⟨x',?_⟩
   rw [if_neg hp,List.find?_cons_of_neg hp]
   exact e
theorem yH{tg:Tg}{c f:Ex}{st:PSt}(g:D->D):∀ (ds:List D),(∀ d∈ds,∃ s1,tg d st = .ok s1/\c s1 = .ok (.bl true)/\f s1 = .ok (g d))->mV tg c f st ds = .ok (ds.map g)
 | [],_=>rfl
 | d :: ds,h=>by
  obtain ⟨s1,e1,e2,e3⟩:=h d List.mem_cons_self
  rw [uQ,e1]
  simp only [aU,e2,rW,if_true,e3,yH g ds fun d hd=>h d (List.mem_cons_of_mem _ hd),List.map_cons]
end Pu
namespace Pu
theorem cA{i:Nat}{f:Ex}{st:PSt}{d:D}(h:f st = .ok d):cX i f st = .ok (.nx (st.set i (some (.v d)))):=by rw [aIm,h,aU]
theorem tK{i:Nat}{f:Ex}{st:PSt}{xs:List D}(h:f st = .ok (.lst xs)):nU i f st = .ok (.nx (st.set i (some (.o .l xs)))):=by rw [aMm,h,aU]
theorem bA{p:List D->R D}{r:Exs}{st:PSt}{ds:List D}{x:R D}(h:r st = .ok ds)(hp:p ds=x):aY p r st=x:=by rw [aMj,h,aU,hp]
theorem aP{op:Op2}{f g:Ex}{st:PSt}{x y:D}{z:R D}(hf:f st = .ok x)(hg:g st = .ok y)(h:op x y=z):e2 op f g st=z:=by rw [zK,hf,aU,hg,aU,h]
theorem qH{c:Ex}{a b:Bd}{st:PSt}{r:R Fl}(h:c st = .ok (.bl true))(ha:a st=r):sIf c a b st=r:=by rw [aH2,h,aU,rW,if_pos rfl,ha]
theorem jX{c:Ex}{a b:Bd}{st:PSt}{r:R Fl}(h:c st = .ok (.bl false))(hb:b st=r):sIf c a b st=r:=by rw [aH2,h,aU,rW,if_neg Bool.false_ne_true,hb]
theorem lU{f g:Ex}{st:PSt}{p q:Bool}(hf:f st = .ok (.bl p))(hg:p=true->g st = .ok (.bl q)):mF f g st = .ok (.bl (p&&q)):=by
 rw [aIj,hf,aU,rW]
 cases p with
 | true=>rw [if_pos rfl,hg rfl];rfl
 | false=>rfl
theorem aAy{f g:Ex}{st:PSt}{p q:Bool}(hf:f st = .ok (.bl p))(hg:p=false->g st = .ok (.bl q)):eOr f g st = .ok (.bl (p||q)):=by
 rw [aUc,hf,aU,rW]
 cases p with
 | true=>rfl
 | false=>rw [if_neg Bool.false_ne_true,hg rfl];rfl
theorem vC{f:Ex}{st:PSt}{p:Bool}(hf:f st = .ok (.bl p)):pY f st = .ok (.bl (!p)):=by rw [aIk,hf,aU,rW]
theorem iH{f:Ex}{st:PSt}{d:D}(h:f st = .ok d):dH f st = .ok (.rt d):=by rw [pZ,h,aU]
theorem iI{tg:Tg}{it:ItE}{L:Bd}{st:PSt}{xs:List D}{r:R Fl}(h:it st = .ok xs)(hr:forR tg L xs st=r):oZ tg it L st=r:=by rw [aIn,h,aU,hr]
theorem fC{f:Ex}{r:Exs}{st:PSt}{d:D}{ds:List D}(h:f st = .ok d)(hr:r st = .ok ds):aC f r st = .ok (d :: ds):=by rw [aMi,h,aU,hr,aU]
theorem oR{r:Exs}{st:PSt}{ds:List D}(h:r st = .ok ds)(hl:ds.length<=1000:=by exact of_decide_eq_true rfl):nQ r st = .ok (.lst ds):=by rw [aPx,h,aU,aG (aM (Nat.le_trans hl (by decide)))]
theorem yI{i j:Int}(h:0 < j):oW (.int i) (.int j) = .ok (.int (i % j)):=aG h
theorem aDy{i j:Int}(h:0 < j/\j < 1073741824):zJ (.int i) (.int j) = .ok (.int (i / j)):=aG h
theorem qI(i j:Int):dEq (.int i) (.int j) = .ok (.bl (decide (i=j))):=by
 have:(i==j)=decide (i=j):=by by_cases h:i=j<;>simp [h]
 rw [<-this]
 exact aG ⟨Nat.zero_le 64,rfl,rfl⟩
theorem aH5(i j:Int):dNe (.int i) (.int j) = .ok (.bl (!decide (i=j))):=by
 have:(i==j)=decide (i=j):=by by_cases h:i=j<;>simp [h]
 rw [<-this]
 exact aG ⟨Nat.zero_le 64,rfl,rfl⟩
theorem yJ{i:Nat}{f:Ex}{st:PSt}{d:D}{xs:List D}(h:f st = .ok d)(hs:st[i]?=some (some (.o .l xs)))(hl:xs.length < 1000000):vW i f st = .ok (.nx (st.set i (some (.o .l (xs++[d]))))):=by
 rw [aPz,h,aU,hs]
 exact aG (aW (Nat.lt_trans hl (by decide)))
theorem aAz{f:Ex}{st:PSt}{n:Nat}(h:f st = .ok (.int n))(hn:n<=1000000):oY f st = .ok ((List.range n).map fun (k:Nat)=>D.int (k:Int)):=by
 rw [aPy,h,aU,<-zP]
 exact aG ⟨aL (by omega),aK (by omega)⟩
theorem wL{E C:Ex}{is:List Nat}{tg:Tg}{it:ItE}{st:PSt}{ys xs:List D}(h:it st = .ok xs)(hl:xs.length<=1000000)(hc:mV tg C E (clr is st) xs = .ok ys):fK is tg it C E st = .ok (.lst ys):=by
 rw [aAr,h,aU,aG (aM (Nat.le_trans hl (by decide))),hc,aU]
theorem aB0{c:Ex}{b:Bd}{st st':PSt}{n:Nat}{r:R Fl}(hc:c st = .ok (.bl true))(hb:b st = .ok (.nx st'))(hr:iU c b n st'=r):iU c b (n+1) st=r:=by
 rw [zL,hc,aU,rW,if_pos rfl,hb]
 exact hr
theorem yK{c:Ex}{b:Bd}{st:PSt}{n:Nat}(hc:c st = .ok (.bl false)):iU c b (n+1) st = .ok (.nx st):=by rw [zL,hc,aU,rW,if_neg Bool.false_ne_true]
theorem qJ{tg:Tg}{L:Bd}{d:D}{ds:List D}{st s1 s2:PSt}{r:R Fl}(ht:tg d st = .ok s1)(hL:L s1 = .ok (.nx s2))(hr:forR tg L ds s2=r):forR tg L (d :: ds) st=r:=by
 rw [jA,ht,aU,hL]
 exact hr
theorem gA{xs:List D}{i:Int}{d:D}(h:atI xs i=some d):dIx (.lst xs) (.int i) = .ok d:=by
 show ofO (atI xs i)=_
 rw [h]
 rfl
theorem aUy{p q:Nat}(h:p < q):decide ((p:Int) < (q:Int))=true:=decide_eq_true (by omega)
theorem aUz{p q:Nat}(h:¬ p < q):decide ((p:Int) < (q:Int))=false:=decide_eq_false (by omega)
theorem jE{r:R D}{p q:Bool}(h:r = .ok (.bl p))(e:p=q):r = .ok (.bl q):=by rw [h,e]
theorem aFb{f:Ex}{st:PSt}{xs:List D}(h:f st = .ok (.lst xs)):itE f st = .ok xs:=by rw [aUe,h,aU]
end Pu
namespace Pu
def nats(l:List Nat):List D:=l.map fun (x:Nat)=>D.int (x:Int)
structure Mch(S:List (List Nat))(rk:List Nat)(c:Nat):Prop where
 one:1<=S.length
 most:S.length<=8
 c1:1<=c
 c3:c<=3
 row:∀ r∈S,r.length=c/\∀ x∈r,x < S.length
 rks:rk.length=S.length
def stD(S:List (List Nat)):List D:=S.map fun r=>D.lst (nats r)
theorem aFc{tg:Tg}{c f:Ex}{st:PSt}{P:D->D->Prop}:∀ (ds:List D),(∀ d∈ds,∃ s1 y,tg d st = .ok s1/\c s1 = .ok (.bl true)/\f s1 = .ok y/\P d y)->∃ ys,mV tg c f st ds = .ok ys/\ys.length=ds.length/\∀ y∈ys,∃ d∈ds,P d y
 | [],_=>⟨[],rfl,rfl,fun _ h=>nomatch h⟩
 | d :: ds,h=>by
  obtain ⟨s1,y,e1,e2,e3,e4⟩:=h d List.mem_cons_self
  obtain ⟨ys,e5,e6,e7⟩:=aFc ds fun d hd=>h d (List.mem_cons_of_mem _ hd)
  refine ⟨y :: ys,?_,by simp [e6],fun z hz=>?_⟩
  ·rw [uQ,e1]
   simp [e2,e3,e5]
  ·rcases List.mem_cons.mp hz with rfl | hz
   ·exact ⟨d,List.mem_cons_self,e4⟩
   ·obtain ⟨d',h1,h2⟩:=e7 z hz
    exact ⟨d',List.mem_cons_of_mem _ h1,h2⟩
theorem aH6{lo:Int}{n:Nat}{d:D}(h:d∈fV lo n):∃ k:Nat,k < n/\d = .int (lo+k):=by
 unfold fV at h
 obtain ⟨k,h1,h2⟩:=List.mem_map.mp h
 exact ⟨k,List.mem_range.mp h1,h2.symm⟩
theorem aIr:∀ (ys:List D) (n:Int),(∀ y∈ys,∃ i:Int,y = .int i/\0<=i/\i < n)->∃ r:List Nat,ys=nats r/\∀ x∈r,(x:Int) < n
 | [],_,_=>⟨[],rfl,fun _ h=>nomatch h⟩
 | y :: ys,n,h=>by
  obtain ⟨i,rfl,h0,h1⟩:=h y List.mem_cons_self
  obtain ⟨r,rfl,h2⟩:=aIr ys n fun y hy=>h y (List.mem_cons_of_mem _ hy)
  refine ⟨i.toNat :: r,?_,fun x hx=>?_⟩
  ·unfold nats;rw [List.map_cons,Int.toNat_of_nonneg h0]
  ·rcases List.mem_cons.mp hx with rfl | hx
   ·rw [Int.toNat_of_nonneg h0];exact h1
   ·exact h2 x hx
theorem aMv{E:Ex}{st:PSt}{j v n:Nat}{P:D->Prop}(hv:st[v]?=some (some (.v (.int n))))(hn:n<=100000)(hE:∀ k:Nat,k < n->∃ y,E ((st.set j none).set j (some (.v (.int k)))) = .ok y/\P y) :
  ∃ ys,fK [j] (tgN j) (oY (aB v)) jL E st = .ok (.lst ys)/\ys.length=n/\∀ y∈ys,P y:=by
 obtain ⟨ys,e1,e2,e3⟩:=aFc (tg:=tgN j) (c:=jL) (f:=E) (st:=st.set j none) (P:=fun _ y=>P y) (fV 0 n) (fun d hd=>by
  obtain ⟨k,hk,rfl⟩:=aH6 hd
  obtain ⟨y,h1,h2⟩:=hE k hk
  rw [Int.zero_add]
  exact ⟨_,y,rfl,rfl,h1,h2⟩)
 rw [uE] at e2
 refine ⟨ys,?_,e2,fun y hy=>let ⟨_,_,h⟩:=e3 y hy;h⟩
 simp [hv,show (n:Int)<=(big:Int) from aK (by omega),uE,show n<=big from aM (by omega),e1]
theorem aCv{E:Ex}{st:PSt}{j v n:Nat}{m:Int}(hv:st[v]?=some (some (.v (.int n))))(hn:n<=100000)(hE:∀ k:Nat,k < n->∃ i,E ((st.set j none).set j (some (.v (.int k)))) = .ok (.int i)/\0<=i/\i < m) :
  ∃ r,fK [j] (tgN j) (oY (aB v)) jL E st = .ok (.lst (nats r))/\r.length=n/\∀ x∈r,(x:Int) < m:=by
 obtain ⟨ys,e1,e2,e3⟩:=aMv (P:=fun y=>∃ i:Int,y = .int i/\0<=i/\i < m) hv hn fun k hk=>let ⟨i,h1,h2⟩:=hE k hk;⟨_,h1,i,rfl,h2⟩
 obtain ⟨r,rfl,h⟩:=aIr ys m e3
 exact ⟨r,e1,by rw [<-e2];unfold nats;simp,h⟩
end Pu
namespace Pu
theorem aA9{tg:Tg}{L:Bd}(P:PSt->Prop):∀ (ks:List D),(∀ d∈ks,∀ st,P st->∃ s1 st',tg d st = .ok s1/\L s1 = .ok (.nx st')/\P st')->∀ st,P st->∃ st',P st'/\forR tg L ks st = .ok (.nx st')
 | [],_,st,p=>⟨st,p,rfl⟩
 | d :: ks,h,st,p=>by
  obtain ⟨s1,st',e1,e2,p'⟩:=h d List.mem_cons_self st p
  obtain ⟨st2,p2,e3⟩:=aA9 P ks (fun d hd=>h d (List.mem_cons_of_mem _ hd)) st' p'
  refine ⟨st2,p2,?_⟩
  rw [jA,e1]
  simp only [aU,e2]
  exact e3
theorem aQ4{α:Type}{xs:List α}{i:Int}(h0:0<=i)(h:i < xs.length):∃ a∈xs,atI xs i=some a:=⟨_,List.getElem_mem _,aMr h0 h⟩
theorem wM{E:Ex}{st:PSt}{j v:Nat}{xs:List D}(hv:st[v]?=some (some (.v (.lst xs))))(hl:xs.length<=100000)(h:∀ d∈xs,E ((st.set j none).set j (some (.v d))) = .ok (.bl true)):e1 aA5 (fK [j] (tgN j) (itE (aB v)) jL E) st = .ok (.bl true):=by
 have e:=yH (tg:=tgN j) (c:=jL) (f:=E) (st:=st.set j none) (fun _=>D.bl true) xs fun d hd=>⟨_,rfl,rfl,h d hd⟩
 have e2:xs.map (fun _=>D.bl true)=(xs.map fun _=>true).map D.bl:=by simp
 simp [hv,show xs.length<=big from aM (by omega),e]
 rw [e2,<-aFa]
 exact aMu rfl fun b hb=>by obtain ⟨_,_,z⟩:=List.mem_map.mp hb;exact z.symm
theorem aCw{E:Ex}{st:PSt}{j v:Nat}{xs:List D}(hv:st[v]?=some (some (.v (.lst xs))))(hl:xs.length<=100000)(h:∀ d∈xs,E ((st.set j none).set j (some (.v d))) = .ok d):fK [j] (tgN j) (itE (aB v)) jL E st = .ok (.lst xs):=by
 have e:=yH (tg:=tgN j) (c:=jL) (f:=E) (st:=st.set j none) id xs fun d hd=>⟨_,rfl,rfl,h d hd⟩
 simp [hv,show xs.length<=big from aM (by omega),e]
theorem aCx(i:Int):iY [.int i] = .ok (.bl true):=by
 unfold iY uY
 simp [isIn,aU9]
theorem aKg{x n:Nat}(h:x < n):nD [.int x,.int n] = .ok (.bl true):=by
 have hw:=aCx x
 unfold nD uZ
 simp [hw,h]
theorem aCy(xs:List D)(m:Int):cZ [.lst xs,.int m] = .ok (.bl (decide (1<=(xs.length:Int))&&decide ((xs.length:Int)<=m))):=by
 unfold cZ jW
 by_cases h:1<=xs.length
 ·have h':(1:Int)<=xs.length:=by omega
  simp [aKe,h,h']
 ·have h':¬ (1:Int)<=xs.length:=by omega
  simp [aKe,h,h']
theorem bR(r:List Nat):(nats r).length=r.length:=by unfold nats;simp
theorem eF(S:List (List Nat)):(stD S).length=S.length:=by unfold stD;simp
theorem aB1{r:List Nat}{d:D}(h:d∈nats r):∃ x∈r,d = .int (x:Nat):=by
 obtain ⟨x,h1,h2⟩:=List.mem_map.mp h
 exact ⟨x,h1,h2.symm⟩
theorem aAa{S:List (List Nat)}{d:D}(h:d∈stD S):∃ r∈S,d = .lst (nats r):=by
 obtain ⟨x,h1,h2⟩:=List.mem_map.mp h
 exact ⟨x,h1,h2.symm⟩
theorem aV0(r:List Nat)(n:Nat)(h:∀ x∈r,x < n)(hl:r.length<=1000):wK [.lst (nats r),.int r.length,.int n] = .ok (.bl true):=by
 have e:=wM (E:=vA) (st:=[some (.v (.lst (nats r))),some (.v (.int r.length)),some (.v (.int n)),none]) (j:=3) (v:=0) (xs:=nats r) rfl (by rw [bR];omega) (fun d hd=>by
  obtain ⟨x,hx,rfl⟩:=aB1 hd
  have:=h x hx
  simp [vA,aKg this])
 refine cO rfl ?_
 unfold aAw
 have h1:e2 dEq (e1 cU (aB 0)) (aB 1) [some (.v (.lst (nats r))),some (.v (.int r.length)),some (.v (.int n)),none] = .ok (.bl true):=by simp [bR]
 show dH _ [some (.v (.lst (nats r))),some (.v (.int r.length)),some (.v (.int n)),none]=_
 rw [pZ,aIj,h1]
 show (e1 aA5 _ _).bind _=_
 rw [e]
 rfl
def mD(S:List (List Nat))(rk:List Nat)(c:Nat):D := .ins "Machine" ["steps", "ranks", "many", "letters"] [.lst (stD S),.lst (nats rk),.int S.length,.int c]
section
variable{S:List (List Nat)}{rk:List Nat}{c:Nat}
theorem Mch.row0(M:Mch S rk c):∃ r T,S=r :: T/\r.length=c:=by
 cases S with
 | nil=>exact absurd M.one (by simp)
 | cons r T=>exact ⟨r,T,rfl,(M.row r List.mem_cons_self).1⟩
theorem Mch.at0(M:Mch S rk c):∃ r,r∈S/\atI (stD S) 0=some (.lst (nats r))/\r.length=c:=by
 obtain ⟨r,T,rfl,h⟩:=M.row0
 refine ⟨r,List.mem_cons_self,?_,h⟩
 have:=atI_nat (xs:=stD (r :: T)) (i:=0) (by simp [stD])
 simpa [stD] using this
theorem aMw(M:Mch S rk c):nY [.lst (stD S)] = .ok (.bl true):=by
 obtain ⟨r0,hr0,e0,l0⟩:=M.at0
 have h1:=M.one
 have h8:=M.most
 have f1:=aCy (stD S) 8
 rw [eF] at f1
 have f1':cZ [.lst (stD S),.int 8] = .ok (.bl true):=by rw [f1];congr 2;simp;omega
 have a1:=wM (E:=oM) (st:=[some (.v (.lst (stD S))),none]) (j:=1) (v:=0) (xs:=stD S) rfl (by rw [eF];omega) (fun d hd=>by
  obtain ⟨r,hr,rfl⟩:=aAa hd
  have f:=aCy (nats r) 3
  rw [bR,(M.row r hr).1] at f
  have h3:=M.c3
  have h0:=M.c1
  simp [oM,f]
  omega)
 have a2:=wM (E:=oN) (st:=[some (.v (.lst (stD S))),none]) (j:=1) (v:=0) (xs:=stD S) rfl (by rw [eF];omega) (fun d hd=>by
  obtain ⟨r,hr,rfl⟩:=aAa hd
  have h3:=M.c3
  have f:=aV0 r S.length (M.row r hr).2 (by rw [(M.row r hr).1];omega)
  have el:(nats r0).length=r.length:=by rw [bR,l0,(M.row r hr).1]
  simp [oN,e0,el,eF,f])
 refine cO rfl ?_
 unfold sO
 refine dX (by simp [f1']) (dX ?_ ?_)
 ·rw [aH2,aIk]
  show ((e1 aA5 _ [some (.v (.lst (stD S))),none]).bind _).bind _=_
  rw [a1];rfl
 ·rw [pZ]
  show (e1 aA5 _ [some (.v (.lst (stD S))),none]).bind _=_
  rw [a2];rfl
theorem aMx(M:Mch S rk c):nZ [.lst (nats rk),.int S.length] = .ok (.bl true):=by
 have h8:=M.most
 have a1:=wM (E:=oO) (st:=[some (.v (.lst (nats rk))),some (.v (.int S.length)),none]) (j:=2) (v:=0) (xs:=nats rk) rfl (by rw [bR,M.rks];omega) (fun d hd=>by
  obtain ⟨x,hx,rfl⟩:=aB1 hd
  simp [oO,aCx])
 refine cO rfl ?_
 unfold sS
 refine dX (by simp [aKe,bR,M.rks]) ?_
 rw [pZ]
 show (e1 aA5 _ [some (.v (.lst (nats rk))),some (.v (.int S.length)),none]).bind _=_
 rw [a1];rfl
theorem tL:xZ "Machine" "steps" (mD S rk c) = .ok (.lst (stD S)):=by unfold mD;rw [aMo,aG rfl];rfl
end
end Pu
namespace Pu
section
variable{S:List (List Nat)}{rk:List Nat}{c:Nat}
theorem aQ5(M:Mch S rk c):fO [.lst (stD S),.lst (nats rk)] = .ok (mD S rk c):=by
 obtain ⟨r0,hr0,e0,l0⟩:=M.at0
 have h8:=M.most
 refine aPw fun x=>?_
 unfold aCt
 rw [aG (show ([D.lst (stD S),D.lst (nats rk)]:List D).length=2 from rfl)]
 have hs:=aMw M
 have hk:=aMx M
 have cp:=aCw (E:=gG) (st:=[some (.o (.i x "Machine" []) []),some (.v (.lst (stD S))),some (.v (.lst (nats rk))),none]) (j:=3) (v:=1) (xs:=stD S) rfl (by rw [eF];omega) (fun d hd=>by
  obtain ⟨r,hr,rfl⟩:=aAa hd
  simp [gG])
 have key:dW [some (.o (.i x "Machine" []) []),some (.v (.lst (stD S))),some (.v (.lst (nats rk))),none] = .ok (.nx [some (.o (.i x "Machine" ["steps", "ranks", "many", "letters"]) [.lst (stD S),.lst (nats rk),.int S.length,.int c]),some (.v (.lst (stD S))),some (.v (.lst (nats rk))),none]):=by
  unfold dW
  refine dX (by simp [hs]) (dX (by simp [eF,hk]) ?_)
  refine aR (st':=[some (.o (.i x "Machine" ["steps"]) [.lst (stD S)]),some (.v (.lst (stD S))),some (.v (.lst (nats rk))),none]) ?_ ?_
  ·rw [aMn,cp]
   simp
  refine aR (st':=[some (.o (.i x "Machine" ["steps", "ranks"]) [.lst (stD S),.lst (nats rk)]),some (.v (.lst (stD S))),some (.v (.lst (nats rk))),none]) (by simp) ?_
  refine aR (st':=[some (.o (.i x "Machine" ["steps", "ranks", "many"]) [.lst (stD S),.lst (nats rk),.int S.length]),some (.v (.lst (stD S))),some (.v (.lst (nats rk))),none]) (by simp [eF]) ?_
  simp [e0,bR,l0]
 show (dW [some (.o (.i x "Machine" []) []),some (.v (.lst (stD S))),some (.v (.lst (nats rk))),none]).bind _=_
 rw [key]
 simp [mD]
end
end Pu
namespace Pu
theorem yL(x:Nat)(l:List Nat):nats (x :: l) = .int (x:Nat) :: nats l:=rfl
theorem dY:∀ l:List Nat,cV (nats l)=true/\dM (nats l)=0/\dU (nats l) (nats l)=true
 | []=>⟨rfl,by unfold nats;simp,by unfold nats;simp [dU]⟩
 | x :: l=>by
  obtain ⟨h1,h2,h3⟩:=dY l
  rw [yL]
  refine ⟨by simp [h1],by simp [h2],?_⟩
  unfold dU
  rw [h3]
  simp
end Pu
namespace Pu
section
variable{S:List (List Nat)}{rk:List Nat}{c:Nat}
def stp(S:List (List Nat))(q a:Nat):Nat:=(S.getD q []).getD a 0
theorem vD(M:Mch S rk c){q a:Nat}(hq:q < S.length)(ha:a < c):∃ r,atI (stD S) (q:Int)=some (.lst (nats r))/\atI (nats r) (a:Int)=some (.int (stp S q a))/\stp S q a < S.length:=by
 have hr:=M.row S[q] (List.getElem_mem hq)
 have ha':a < S[q].length:=by rw [hr.1];exact ha
 have e:stp S q a=S[q][a]:=by
  simp [stp,List.getD_eq_getElem?_getD,List.getElem?_eq_getElem hq,List.getElem?_eq_getElem ha']
 refine ⟨S[q],?_,?_,?_⟩
 ·rw [atI_nat (by rw [eF];exact hq)];simp [stD]
 ·rw [atI_nat (by rw [bR];exact ha'),e];simp [nats]
 ·rw [e];exact hr.2 _ (List.getElem_mem ha')
theorem aFd{m:Nat}(h:m<=3){ch:Nat}(h1:97<=ch)(h2:(ch:Int) < 97+m):eY [97,98,99] [ch] 0=some (ch - 97):=by
 have:ch=97\/ch=98\/ch=99:=by omega
 rcases this with rfl | rfl | rfl<;>rfl
theorem aIs(M:Mch S rk c){q ch:Nat}(hq:q < S.length)(h1:97<=ch)(h2:(ch:Int) < 97+c):∃ r,atI (stD S) (q:Int)=some (.lst (nats r))/\atI (nats r) (((ch - 97:Nat)):Int)=some (.int (stp S q (ch - 97)))/\stp S q (ch - 97) < S.length:=vD M hq (by omega)
def runs(S:List (List Nat)):Nat->List Nat->List Nat
 | _,[]=>[]
 | q,ch :: x=>stp S q (ch - 97) :: runs S (stp S q (ch - 97)) x
def lM(S:List (List Nat)):Nat->List Nat->Nat
 | q,[]=>q
 | q,ch :: x=>lM S (stp S q (ch - 97)) x
end
theorem gH:∀ (n:Nat) (l:List Nat),l.Nodup->(∀ x∈l,x < n)->l.length<=n
 | 0,l,_,h=>by
  cases l with
  | nil=>exact Nat.le_refl _
  | cons x l=>exact absurd (h x List.mem_cons_self) (by omega)
 | n+1,l,nd,h=>by
  have ih:=gH n (l.erase n) (nd.erase n) fun x hx=>by
   have h1:=h x (List.mem_of_mem_erase hx)
   have h2:x≠n:=fun e=>((nd.mem_erase_iff).mp hx).1 e
   omega
  by_cases hm:n∈l
  ·rw [List.length_erase_of_mem hm] at ih;omega
  ·rw [List.erase_of_not_mem hm] at ih;omega
theorem tM(g:Nat)(l:List Nat):inD (.int g) (nats l)=decide (g∈l):=by
 unfold inD nats
 rw [List.any_map]
 by_cases h:g∈l
 ·rw [decide_eq_true h,List.any_eq_true]
  exact ⟨g,h,by simp [eqD]⟩
 ·rw [decide_eq_false h,List.any_eq_false]
  intro x hx
  have : ¬ (x : Int) = (g : Int) := fun z => h (by have : x = g := by omega
                                                   rw [<-this];exact hx)
  simp [eqD,this]
theorem qK{S:List (List Nat)}{q:Nat}(hq:q < S.length):atI (stD S) (q:Int)=some (.lst (nats S[q])):=by
 rw [atI_nat (by rw [eF];exact hq)]
 unfold stD
 rw [List.getElem_map]
end Pu
namespace Pu
section
variable{S:List (List Nat)}{rk:List Nat}{c:Nat}
theorem aB2(M:Mch S rk c)(a t:Option Sl)(ha:a=some (.v (mD S rk c))):∀ (x:List Nat) (q:Nat) (acc:List Nat) (l:Option Sl),q < S.length->Ltr c x->acc.length+x.length<=1000000->∃ l',forR (tgN 4) fB (x.map fun ch=>D.str [ch]) [a,some (.v (.int q)),t,some (.o .l (nats acc)),l] =
  .ok (.nx [a,some (.v (.int (lM S q x))),t,some (.o .l (nats (acc++runs S q x))),l'])
 | [],q,acc,l,_,_,_=>⟨l,by simp [lM,runs]⟩
 | ch :: x,q,acc,l,h,hx,hl=>by
  rw [List.length_cons] at hl
  obtain ⟨h1,h2⟩:=hx ch List.mem_cons_self
  obtain ⟨r,e1,e2,h3⟩:=aIs M h h1 h2
  obtain ⟨l',e⟩:=aB2 M a t ha x (stp S q (ch - 97)) (acc++[stp S q (ch - 97)]) (some (.v (.str [ch]))) h3 (fun z hz=>hx z (List.mem_cons_of_mem _ hz)) (by rw [List.length_append,List.length_singleton];omega)
  refine ⟨l',?_⟩
  have f:=aFd M.c3 h1 h2
  have en:nats (acc++[stp S q (ch - 97)])=nats acc++[D.int (stp S q (ch - 97))]:=by unfold nats;simp
  rw [en] at e
  rw [List.map_cons,jA,show runs S q (ch :: x)=stp S q (ch - 97) :: runs S (stp S q (ch - 97)) x from rfl,show acc++stp S q (ch - 97) :: runs S (stp S q (ch - 97)) x=acc++[stp S q (ch - 97)]++runs S (stp S q (ch - 97)) x by simp,show lM S q (ch :: x)=lM S (stp S q (ch - 97)) x from rfl,<-e]
  subst ha
  simp [fB,tL,e1,f,e2,bR,show acc.length < big from aW (by omega)]
theorem aMy(M:Mch S rk c){q:Nat}(hq:q < S.length)(x:List Nat)(hx:Ltr c x)(hl:x.length<=500000):cI [mD S rk c,.int q,.str x] = .ok (.lst (nats (q :: runs S q x))):=by
 obtain ⟨l',e⟩:=aB2 M _ (some (.v (.str x))) rfl x q [q] none hq hx (by simp;omega)
 refine cO rfl ?_
 have hb:cQ [some (.v (mD S rk c)),some (.v (.int q)),some (.v (.str x)),none,none] = .ok (.nx [some (.v (mD S rk c)),some (.v (.int (lM S q x))),some (.v (.str x)),some (.o .l (nats ([q]++runs S q x))),l']):=by
  unfold cQ
  refine aR (st':=[some (.v (mD S rk c)),some (.v (.int q)),some (.v (.str x)),some (.o .l (nats [q])),none]) (by simp [nats]) (aR (by
   simp [show x.length<=big from aM (by omega)]
   exact e) rfl)
 show vX cQ 3 [some (.v (mD S rk c)),some (.v (.int q)),some (.v (.str x)),none,none]=_
 unfold vX
 rw [hb]
 rfl
end
end Pu
namespace Pu
def slB(u v:List Nat):Prop:=u.length < v.length\/(u.length=v.length/\u < v)
theorem aMz:∀ {u v:List Nat} (a b:Nat),u.length=v.length->u < v->u++[a] < v++[b]
 | [],[],_,_,_,h=>absurd h (List.lt_irrefl _)
 | [],_ :: _,_,_,h,_=>by simp at h
 | _ :: _,[],_,_,h,_=>by simp at h
 | x :: u,y :: v,a,b,h,h2=>by
  rw [List.cons_append,List.cons_append,List.cons_lt_cons_iff]
  rcases List.cons_lt_cons_iff.mp h2 with h3 | ⟨h3,h4⟩
  ·exact .inl h3
  ·exact .inr ⟨h3,aMz a b (by simpa using h) h4⟩
theorem aIt:∀ (u:List Nat) {a b:Nat},a < b->u++[a] < u++[b]
 | [],a,b,h=>by
  show [a] < [b]
  rw [List.cons_lt_cons_iff]
  exact .inl h
 | x :: u,a,b,h=>by
  rw [List.cons_append,List.cons_append,List.cons_lt_cons_iff]
  exact .inr ⟨rfl,aIt u h⟩
theorem aIu{u v:List Nat}(a b:Nat)(h:slB u v):slB (u++[a]) (v++[b]):=by
 rcases h with h | ⟨h1,h2⟩
 ·exact .inl (by rw [List.length_append,List.length_append];simpa using h)
 ·exact .inr ⟨by rw [List.length_append,List.length_append,h1];rfl,aMz a b h1 h2⟩
theorem aN0(u:List Nat){a b:Nat}(h:a < b):slB (u++[a]) (u++[b]) := .inr ⟨by simp,aIt u h⟩
theorem aQ6(u:List Nat)(a:Nat):slB [] (u++[a]) := .inl (by simp)
theorem tQ(S:List (List Nat)):∀ (x:List Nat) (q ch:Nat),lM S q (x++[ch])=stp S (lM S q x) (ch - 97)
 | [],_,_=>rfl
 | y :: x,q,ch=>tQ S x _ ch
def bst(al:Nat->Bool)(acc:List (Nat × List Nat))(g:Nat)(w:List Nat):List (Nat × List Nat):=if al g=true/\g ∉ acc.map (·.1) then acc++[(g,w)] else acc
structure BM(S:List (List Nat))(s c:Nat)(al:Nat->Bool)(p j:Nat)(acc:List (Nat × List Nat)):Prop where
 nd:(acc.map (·.1)).Nodup
 hd:acc[0]?=some (s,[])
 lt:∀ x∈acc,x.1 < S.length/\lM S s x.2=x.1/\Ltr c x.2
 par:∀ (k:Nat) (x:Nat × List Nat),acc[k]?=some x->1<=k->al x.1=true/\∃ q y ch,acc[q]?=some y/\x.2=y.2++[ch]/\(q < p\/(q=p/\ch < 97+j))
 ord:∀ (i k:Nat) (x y:Nat × List Nat),acc[i]?=some x->acc[k]?=some y->i < k->slB x.2 y.2
 cls:∀ (i:Nat) (x:Nat × List Nat) (l:Nat),acc[i]?=some x->l < c->(i < p\/(i=p/\l < j))->al (stp S x.1 l)=true->∃ y∈acc,y.1=stp S x.1 l/\(y.2=x.2++[97+l]\/slB y.2 (x.2++[97+l]))
section
variable{S:List (List Nat)}{rk:List Nat}{s c p j:Nat}{al:Nat->Bool}{acc:List (Nat × List Nat)}
theorem BM.start(hs:s < S.length):BM S s c al 0 0 [(s,[])] where
 nd:=by simp
 hd:=rfl
 lt:=fun x hx=>by rw [List.mem_singleton.mp hx];exact ⟨hs,rfl,fun _ h=>nomatch h⟩
 par:=fun k x e h=>by
  have:k < 1:=(List.getElem?_eq_some_iff.mp e).1
  omega
 ord:=fun i k x y e1 e2 h=>by
  have:k < 1:=(List.getElem?_eq_some_iff.mp e2).1
  omega
 cls:=fun i x l _ _ h=>by omega
theorem BM.next(b:BM S s c al p c acc):BM S s c al (p+1) 0 acc where
 nd:=b.nd
 hd:=b.hd
 lt:=b.lt
 par:=fun k x e h=>by
  obtain ⟨h0,q,y,ch,h1,h2,h3⟩:=b.par k x e h
  exact ⟨h0,q,y,ch,h1,h2,.inl (by omega)⟩
 ord:=b.ord
 cls:=fun i x l e hl h ha=>b.cls i x l e hl (by omega) ha
theorem BM.below(b:BM S s c al p j acc){x y:Nat × List Nat}{k:Nat}(hx:acc[p]?=some x)(hy:acc[k]?=some y):slB y.2 (x.2++[97+j]):=by
 by_cases hk:k=0
 ·subst hk
  rw [b.hd] at hy
  cases hy
  exact aQ6 _ _
 ·obtain ⟨_,q,z,ch,h1,h2,h3⟩:=b.par k y hy (by omega)
  rw [h2]
  rcases h3 with h3 | ⟨rfl,h3⟩
  ·exact aIu _ _ (b.ord q p z x h1 hx h3)
  ·rw [hx] at h1
   cases h1
   exact aN0 _ h3
theorem BM.turn(M:Mch S rk c)(b:BM S s c al p j acc){x:Nat × List Nat}(hx:acc[p]?=some x)(hj:j < c):BM S s c al p (j+1) (bst al acc (stp S x.1 j) (x.2++[97+j])):=by
 have hxm:x∈acc:=List.mem_of_getElem? hx
 obtain ⟨x1,x2,x3⟩:=b.lt x hxm
 have hg:stp S x.1 j < S.length:=by obtain ⟨_,_,_,h⟩:=vD M x1 hj;exact h
 unfold bst
 by_cases hc:al (stp S x.1 j)=true/\stp S x.1 j ∉ acc.map (·.1)
 ·rw [if_pos hc]
  have old:∀ {k:Nat} {y:Nat × List Nat},acc[k]?=some y->(acc++[(stp S x.1 j,x.2++[97+j])])[k]?=some y:=fun {k y} e=>by
   rw [List.getElem?_append_left (List.getElem?_eq_some_iff.mp e).1];exact e
  have inv:∀ {k:Nat} {y:Nat × List Nat},(acc++[(stp S x.1 j,x.2++[97+j])])[k]?=some y->acc[k]?=some y\/(k=acc.length/\y=(stp S x.1 j,x.2++[97+j])):=fun {k y} e=>by
   by_cases hk:k < acc.length
   ·rw [List.getElem?_append_left hk] at e;exact .inl e
   ·have hlt:=(List.getElem?_eq_some_iff.mp e).1
    rw [List.length_append,List.length_singleton] at hlt
    have:k=acc.length:=by omega
    subst this
    rw [List.getElem?_append_right (Nat.le_refl _),Nat.sub_self] at e
    simp at e
    exact .inr ⟨rfl,e.symm⟩
  have lt_of:∀ {k:Nat} {y:Nat × List Nat},acc[k]?=some y->k < acc.length:=fun e=>(List.getElem?_eq_some_iff.mp e).1
  refine ⟨?_,old b.hd,fun y hy=>?_,fun k y e h=>?_,fun i k y z e1 e2 h=>?_,fun i y l e hl h ha=>?_⟩
  ·rw [List.map_append,List.nodup_append]
   refine ⟨b.nd,by simp,fun a ha b' hb=>?_⟩
   rw [List.map_singleton,List.mem_singleton] at hb
   rw [hb]
   show a≠stp S x.1 j
   exact fun z=>hc.2 (by rw [<-z];exact ha)
  ·rcases List.mem_append.mp hy with hy | hy
   ·exact b.lt y hy
   ·rw [List.mem_singleton.mp hy]
    refine ⟨hg,?_,fun ch hch=>?_⟩
    ·show lM S s (x.2++[97+j])=_
     rw [tQ,x2,show 97+j - 97=j by omega]
    ·rcases List.mem_append.mp hch with h | h
     ·exact x3 ch h
     ·rw [List.mem_singleton.mp h]
      constructor<;>omega
  ·rcases inv e with e | ⟨rfl,rfl⟩
   ·obtain ⟨h0,q,z,ch,h1,h2,h3⟩:=b.par k y e h
    exact ⟨h0,q,z,ch,old h1,h2,h3.imp id fun h=>⟨h.1,by omega⟩⟩
   ·exact ⟨hc.1,p,x,97+j,old hx,rfl,.inr ⟨rfl,by omega⟩⟩
  ·rcases inv e2 with e2 | ⟨rfl,rfl⟩
   ·rcases inv e1 with e1 | ⟨rfl,_⟩
    ·exact b.ord i k y z e1 e2 h
    ·have:=lt_of e2
     omega
   ·rcases inv e1 with e1 | ⟨rfl,_⟩
    ·exact b.below hx e1
    ·omega
  ·rcases inv e with e' | ⟨rfl,rfl⟩
   ·by_cases hip:i=p/\l=j
    ·obtain ⟨rfl,rfl⟩:=hip
     rw [hx] at e'
     cases e'
     exact ⟨_,List.mem_append_right _ (List.mem_singleton.mpr rfl),rfl,.inl rfl⟩
    ·obtain ⟨z,h1,h2⟩:=b.cls i y l e' hl (by omega) ha
     exact ⟨z,List.mem_append_left _ h1,h2⟩
   ·have:=lt_of hx
    omega
 ·rw [if_neg hc]
  refine ⟨b.nd,b.hd,b.lt,fun k y e h=>?_,b.ord,fun i y l e hl h ha=>?_⟩
  ·obtain ⟨h0,q,z,ch,h1,h2,h3⟩:=b.par k y e h
   exact ⟨h0,q,z,ch,h1,h2,h3.imp id fun h=>⟨h.1,by omega⟩⟩
  ·by_cases hip:i=p/\l=j
   ·obtain ⟨rfl,rfl⟩:=hip
    rw [hx] at e
    cases e
    have hm:stp S x.1 l∈acc.map (·.1):=Classical.byContradiction fun z=>hc ⟨ha,z⟩
    obtain ⟨y,hy,ey⟩:=List.mem_map.mp hm
    obtain ⟨k,hk⟩:=List.mem_iff_getElem?.mp hy
    exact ⟨y,hy,ey,.inr (b.below hx hk)⟩
   ·exact b.cls i y l e hl (by omega) ha
theorem BM.len(b:BM S s c al p j acc):acc.length<=S.length:=by
 have h:=b.nd
 have hsub:∀ x∈acc.map (·.1),x∈List.range S.length:=fun x hx=>by
  obtain ⟨y,hy,rfl⟩:=List.mem_map.mp hx
  exact List.mem_range.mpr (b.lt y hy).1
 have:=gH S.length (acc.map (·.1)) h fun x hx=>List.mem_range.mp (hsub x hx)
 rwa [List.length_map] at this
def kD(acc:List (Nat × List Nat)):List D:=acc.map fun x=>D.int (x.1:Nat)
theorem aB3(acc:List (Nat × List Nat)):(kD acc).length=acc.length:=by unfold kD;simp
theorem aH7(acc:List (Nat × List Nat))(g:Nat)(w:List Nat):kD (acc++[(g,w)])=kD acc++[.int g]:=by unfold kD;simp
theorem aSw{k:Nat}{x:Nat × List Nat}(h:acc[k]?=some x):atI (kD acc) (k:Int)=some (.int x.1):=by
 have hk:=(List.getElem?_eq_some_iff.mp h).1
 rw [atI_nat (by rw [aB3];exact hk)]
 unfold kD
 rw [List.getElem_map,(List.getElem?_eq_some_iff.mp h).2]
theorem aN1{g:Nat}{w:List Nat}{k:Nat}{x:Nat × List Nat}(h:acc[k]?=some x):(bst al acc g w)[k]?=some x:=by
 unfold bst
 split
 ·rw [List.getElem?_append_left (List.getElem?_eq_some_iff.mp h).1];exact h
 ·exact h
theorem aH8(g:Nat)(acc:List (Nat × List Nat)):oG (kD acc) (.int g)=decide (g∈acc.map (·.1)):=by
 unfold oG kD
 rw [List.any_map]
 by_cases h:g∈acc.map (·.1)
 ·rw [decide_eq_true h,List.any_eq_true]
  obtain ⟨x,hx,e⟩:=List.mem_map.mp h
  exact ⟨x,hx,by simp [eqK,e]⟩
 ·rw [decide_eq_false h,List.any_eq_false]
  intro x hx
  have:¬ (x.1:Int)=(g:Int):=fun z=>h (List.mem_map.mpr ⟨x,hx,by omega⟩)
  simp [eqK,this]
theorem aIv(acc:List (Nat × List Nat)):kD acc=nats (acc.map (·.1)):=by
 unfold kD nats
 rw [List.map_map]
 rfl
end
end Pu
namespace Pu
def wD(acc:List (Nat × List Nat)):List D:=acc.map fun x=>D.str x.2
theorem aN2{acc:List (Nat × List Nat)}(nd:(acc.map (·.1)).Nodup){x:Nat × List Nat}(hx:x∈acc):rH (kD acc) (wD acc) (.int x.1)=some (.str x.2):=by
 unfold rH kD wD
 rw [List.zip_map',List.find?_map]
 have:acc.find? ((fun p:D × D=>eqK p.1 (.int x.1)) ∘ fun a=>(D.int (a.1:Nat),D.str a.2))=some x:=by
  induction acc with
  | nil=>cases hx
  | cons y acc ih =>
   rw [List.find?_cons]
   rw [List.map_cons,List.nodup_cons] at nd
   rcases List.mem_cons.mp hx with rfl | hx
   ·simp [eqK]
   ·have:¬ (y.1:Int)=(x.1:Int):=fun z=>nd.1 (List.mem_map.mpr ⟨x,hx,by omega⟩)
    simp only [Function.comp,eqK,beq_eq_false_iff_ne.mpr this]
    exact ih nd.2 hx
 rw [this]
 rfl
section
variable{S:List (List Nat)}{rk:List Nat}{s c p j:Nat}{al:Nat->Bool}{acc:List (Nat × List Nat)}
theorem BM.wlen(b:BM S s c al p j acc):∀ (k:Nat) (x:Nat × List Nat),acc[k]?=some x->x.2.length<=k:=by
 intro k
 induction k using Nat.strongRecOn with
 | ind k ih =>
  intro x hx
  by_cases hk:k=0
  ·subst hk
   rw [b.hd] at hx
   cases hx
   exact Nat.le_refl _
  ·obtain ⟨_,q,y,ch,h1,h2,_⟩:=b.par k x hx (by omega)
   have hl:x.2.length=y.2.length+1:=by rw [h2];simp
   have hq:q < k:=by
    rcases Nat.lt_trichotomy q k with h | h | h
    ·exact h
    ·subst h
     rw [hx] at h1
     cases h1
     omega
    ·rcases b.ord k q x y hx h1 h with h3 | ⟨h3,_⟩ <;> omega
   have:=ih q hq y h1
   omega
def wst(S:List (List Nat))(s:Nat)(als:List Nat)(acc:List (Nat × List Nat))(p:Nat)(x6 x7 x8:Option Sl):PSt :=
 [some (.v (.lst (stD S))),some (.v (.int s)),some (.v (.lst (nats als))),some (.o (.d false (kD acc)) (wD acc)),some (.o .l (kD acc)),some (.v (.int p)),x6,x7,x8]
theorem aV1(acc:List (Nat × List Nat)):(wD acc).length=acc.length:=by unfold wD;simp
theorem aV2(acc:List (Nat × List Nat))(g:Nat)(w:List Nat):wD (acc++[(g,w)])=wD acc++[.str w]:=by unfold wD;simp
theorem aKh(M:Mch S rk c)(als:List Nat)(b:BM S s c (fun g=>decide (g∈als)) p j acc){x:Nat × List Nat}(hx:acc[p]?=some x)(ch g:Nat) :
  lE (wst S s als acc p (some (.v (.int x.1))) (some (.v (.str [ch]))) (some (.v (.int g)))) = .ok (.nx (wst S s als (bst (fun g=>decide (g∈als)) acc g (x.2++[ch])) p (some (.v (.int x.1))) (some (.v (.str [ch]))) (some (.v (.int g))))):=by
 have n8:=M.most
 have hlen:=b.len
 have hw:=b.wlen p x hx
 have hp:p < acc.length:=(List.getElem?_eq_some_iff.mp hx).1
 obtain ⟨p1,p2,_⟩:=dY als
 have t1:e2 dIn (aB 8) (aB 2) (wst S s als acc p (some (.v (.int x.1))) (some (.v (.str [ch]))) (some (.v (.int g)))) = .ok (.bl (decide (g∈als))):=aP rfl rfl (by rw [<-tM];exact aG ⟨by rw [p2];decide,rfl,p1⟩)
 have t2:e2 eZ (aB 8) (fX 3) (wst S s als acc p (some (.v (.int x.1))) (some (.v (.str [ch]))) (some (.v (.int g)))) = .ok (.bl (!decide (g∈acc.map (·.1)))):=aP rfl rfl (by rw [<-aH8];exact aG rfl)
 have t:=lU t1 fun _=>t2
 unfold bst
 by_cases h:decide (g∈als)=true/\g ∉ acc.map (·.1)
 ·rw [if_pos h]
  rw [h.1,decide_eq_false h.2] at t
  have hk:oG (kD acc) (.int g)=false:=by rw [aH8,decide_eq_false h.2]
  have ek:oX (kD acc) (.int g)=kD (acc++[(g,x.2++[ch])]):=by
   unfold oX
   rw [hk,aH7]
   rfl
  have ev:rT (kD acc) (wD acc) (.int g) (.str (x.2++[ch]))=wD (acc++[(g,x.2++[ch])]):=by
   unfold rT
   rw [hk,aV2]
   rfl
  refine qH t (aR (st':=[some (.v (.lst (stD S))),some (.v (.int s)),some (.v (.lst (nats als))),some (.o (.d false (kD (acc++[(g,x.2++[ch])]))) (wD (acc++[(g,x.2++[ch])]))),some (.o .l (kD acc)),some (.v (.int p)),some (.v (.int x.1)),some (.v (.str [ch])),some (.v (.int g))]) ?_ ?_)
  ·have e:e2 jT (e2 dIx (fX 3) (aB 6)) (aB 7) (wst S s als acc p (some (.v (.int x.1))) (some (.v (.str [ch]))) (some (.v (.int g)))) = .ok (.str (x.2++[ch])):=by
    refine aP (x := .str x.2) (y := .str [ch]) (aP rfl rfl ?_) rfl (aG (aM (by show x.2.length+1<=_;omega)))
    show aH (keyOk false (.int x.1)=true) (ofO (rH (kD acc) (wD acc) (.int x.1)))=_
    rw [aG (c:=keyOk false (.int x.1)=true) rfl,aN2 b.nd (List.mem_of_getElem? hx)]
    rfl
   unfold sDPut
   rw [e,<-ek,<-ev]
   exact aG ⟨rfl,aW (by rw [aV1];omega)⟩
  ·rw [yJ (xs:=kD acc) (d := .int g) rfl rfl (by rw [aB3];omega),<-aH7 acc g (x.2++[ch])]
   rfl
 ·rw [if_neg h]
  refine jX (jE t ?_) rfl
  cases h1:decide (g∈als) with
  | false=>rfl
  | true=>rw [decide_eq_true (Classical.byContradiction fun z=>h ⟨h1,z⟩)];rfl
theorem aB4(M:Mch S rk c)(als:List Nat):∀ (m j:Nat) (acc:List (Nat × List Nat)) (x7 x8:Option Sl) (x:Nat × List Nat),j+m=c->BM S s c (fun g=>decide (g∈als)) p j acc->acc[p]?=some x ->
  ∃ acc' x7' x8',forR (tgT [7,8]) lE ((List.range' j m).map fun l=>D.tup [.str [97+l],.int (stp S x.1 l)]) (wst S s als acc p (some (.v (.int x.1))) x7 x8) = .ok (.nx (wst S s als acc' p (some (.v (.int x.1))) x7' x8'))/\BM S s c (fun g=>decide (g∈als)) p c acc'/\acc'[p]?=some x
 | 0,j,acc,x7,x8,x,hj,b,hx=>⟨acc,x7,x8,rfl,by rw [show c=j by omega] at b ⊢; exact b,hx⟩
 | m+1,j,acc,x7,x8,x,hj,b,hx=>by
  obtain ⟨acc',x7',x8',e,b',hx'⟩:=aB4 M als m (j+1) _ (some (.v (.str [97+j]))) (some (.v (.int (stp S x.1 j)))) x (by omega) (b.turn M hx (by omega)) (aN1 hx)
  refine ⟨acc',x7',x8',?_,b',hx'⟩
  rw [List.range'_succ,List.map_cons,jA]
  show (lE (wst S s als acc p (some (.v (.int x.1))) (some (.v (.str [97+j]))) (some (.v (.int (stp S x.1 j)))))).bind _=_
  rw [aKh M als b hx]
  exact e
theorem aQ7(M:Mch S rk c){h:Nat}(hh:h < S.length):vY [97,98,99] (nats S[h])=(List.range' 0 c).map fun l=>D.tup [.str [97+l],.int (stp S h l)]:=by
 have hr:=(M.row S[h] (List.getElem_mem hh)).1
 have e:∀ l,stp S h l=S[h].getD l 0:=fun l=>by simp [stp,List.getD_eq_getElem?_getD,List.getElem?_eq_getElem hh]
 have h1:=M.c1
 have h3:=M.c3
 simp only [e]
 generalize S[h]=r at hr
 match r,hr with
 | [],hr=>simp at hr;omega
 | [a],hr=>subst hr;rfl
 | [a,b],hr=>subst hr;rfl
 | [a,b,d],hr=>subst hr;rfl
 | _ :: _ :: _ :: _ :: r,hr=>simp at hr;omega
theorem aB5(M:Mch S rk c)(als:List Nat):∀ (m p:Nat) (acc:List (Nat × List Nat)) (x6 x7 x8:Option Sl) (f:Nat),S.length+1<=m+p->m<=f->BM S s c (fun g=>decide (g∈als)) p 0 acc->p<=acc.length ->
  ∃ acc' x6' x7' x8',iU oK uG f (wst S s als acc p x6 x7 x8) = .ok (.nx (wst S s als acc' acc'.length x6' x7' x8'))/\BM S s c (fun g=>decide (g∈als)) acc'.length 0 acc'
 | 0,p,acc,x6,x7,x8,f,hm,hf,b,hp=>by have:=b.len;omega
 | m+1,p,acc,x6,x7,x8,f,hm,hf,b,hp=>by
  obtain ⟨f,rfl⟩:∃ g,f=g+1:=⟨f - 1,by omega⟩
  have test:oK (wst S s als acc p x6 x7 x8) = .ok (.bl (decide ((p:Int) < ((kD acc).length:Nat)))):=aP rfl rfl rfl
  rw [aB3] at test
  by_cases h:p < acc.length
  ·have hx:acc[p]?=some acc[p]:=List.getElem?_eq_getElem h
   generalize acc[p]=x at hx
   obtain ⟨l1,_,_⟩:=b.lt x (List.mem_of_getElem? hx)
   obtain ⟨acc',x7',x8',e,b',hx'⟩:=aB4 M als c 0 acc x7 x8 x (by omega) b hx
   have hp':p < acc'.length:=(List.getElem?_eq_some_iff.mp hx').1
   obtain ⟨acc2,y6,y7,y8,ew,b3⟩:=aB5 M als m (p+1) acc' (some (.v (.int x.1))) x7' x8' f (by omega) (by omega) b'.next (by omega)
   refine ⟨acc2,y6,y7,y8,aB0 (jE test (aUy h)) (st':=wst S s als acc' (p+1) (some (.v (.int x.1))) x7' x8') ?_ ew,b3⟩
   refine aR (st':=wst S s als acc p (some (.v (.int x.1))) x7 x8) (cA (aP rfl rfl (gA (aSw hx)))) (aR (st':=wst S s als acc' p (some (.v (.int x.1))) x7' x8') (iI (xs:=vY [97,98,99] (nats S[x.1])) ?_ ?_) (cA rfl))
   ·show ((e2 dIx (aB 0) (aB 6)) (wst S s als acc p (some (.v (.int x.1))) x7 x8)).bind _=_
    rw [aP (rfl:aB 0 (wst S s als acc p (some (.v (.int x.1))) x7 x8) = .ok (.lst (stD S))) rfl (gA (qK l1))]
    rfl
   ·rw [aQ7 M l1]
    exact e
  ·have:p=acc.length:=by omega
   subst this
   exact ⟨acc,x6,x7,x8,yK (jE test (aUz h)),b⟩
theorem aIw(M:Mch S rk c){s:Nat}(hs:s < S.length)(als:List Nat):∃ acc,jD [.lst (stD S),.int s,.lst (nats als)] = .ok (.dct false (kD acc) (wD acc))/\BM S s c (fun g=>decide (g∈als)) acc.length 0 acc:=by
 have n8:=M.most
 obtain ⟨acc,x6,x7,x8,e,b⟩:=aB5 M als (S.length+1) 0 [(s,[])] none none none 100000 (by omega) (by omega) (BM.start hs) (by simp)
 refine ⟨acc,cO rfl ?_,b⟩
 unfold sJ
 refine aR (st':=[some (.v (.lst (stD S))),some (.v (.int s)),some (.v (.lst (nats als))),some (.o (.d false (kD [(s,[])])) (wD [(s,[])])),none,none,none,none,none]) (by simp [yE,aKd,atom,kD,wD]) ?_
 refine aR (st':=[some (.v (.lst (stD S))),some (.v (.int s)),some (.v (.lst (nats als))),some (.o (.d false (kD [(s,[])])) (wD [(s,[])])),some (.o .l (kD [(s,[])])),none,none,none,none]) (by simp [kD]) ?_
 refine aR (st':=wst S s als [(s,[])] 0 none none none) (by simp [wst]) ?_
 refine aR (st':=wst S s als acc acc.length x6 x7 x8) (by rw [yC];exact e) ?_
 simp [wst,ofK]
end
end Pu
namespace Pu
def orN(l:List Nat):Nat->Nat:=fun b=>l.foldl (fun b r=>b ||| 2 ^ r) b
theorem aIx(r:Nat):∀ (l:List Nat) (b:Nat),(orN l b).testBit r=(b.testBit r||decide (r∈l))
 | [],b=>by simp [orN]
 | x :: l,b=>by
  show (orN l (b ||| 2 ^ x)).testBit r=_
  rw [aIx r l,Nat.testBit_or,Nat.testBit_two_pow]
  by_cases h:x=r
  ·simp [h]
  ·have h':¬ r=x:=fun z=>h z.symm
   simp [h,h']
def aDz(l:List Nat):Nat:=orN l 0
theorem pJ(l:List Nat)(r:Nat):(aDz l).testBit r=decide (r∈l):=by
 unfold aDz
 rw [aIx,Nat.zero_testBit,Bool.false_or]
def aX(n:Nat):List Nat:=(List.range (lV n)).filter fun r=>n.testBit r
theorem aFe{n r:Nat}(h:lV n<=r):n.testBit r=false:=by
 unfold lV at h
 by_cases h0:(n:Int)=0
 ·have:n=0:=by omega
  rw [this,Nat.zero_testBit]
 ·rw [if_neg h0] at h
  have hn:n≠0:=fun z=>h0 (by rw [z];rfl)
  have h1:n < 2 ^ (n.log2+1):=(Nat.log2_lt hn).mp (Nat.lt_succ_self _)
  exact Nat.testBit_lt_two_pow (Nat.lt_of_lt_of_le h1 (Nat.pow_le_pow_right (by decide) (by simpa using h)))
theorem bU{n r:Nat}:r∈aX n ↔ n.testBit r=true:=by
 unfold aX
 rw [List.mem_filter,List.mem_range]
 refine ⟨fun h=>h.2,fun h=>⟨?_,h⟩⟩
 rcases Nat.lt_or_ge r (lV n) with h1 | h1
 ·exact h1
 ·rw [aFe h1] at h;cases h
theorem yM(n:Nat):aDz (aX n)=n:=Nat.eq_of_testBit_eq fun r=>by
 rw [pJ]
 cases h:n.testBit r with
 | true=>exact decide_eq_true (bU.mpr h)
 | false=>exact decide_eq_false fun z=>by rw [bU.mp z] at h;cases h
theorem cR{n k r:Nat}(h:n < 2 ^ k)(hr:r∈aX n):r < k:=by
 rw [bU] at hr
 rcases Nat.lt_or_ge r k with h1 | h1
 ·exact h1
 ·rw [Nat.testBit_lt_two_pow (Nat.lt_of_lt_of_le h (Nat.pow_le_pow_right (by decide) h1))] at hr
  cases hr
theorem aFf{n k:Nat}(h:n < 2 ^ k):lV n<=k:=by
 unfold lV
 by_cases h0:(n:Int)=0
 ·rw [if_pos h0];exact Nat.zero_le _
 ·rw [if_neg h0]
  have hn:n≠0:=fun z=>h0 (by rw [z];rfl)
  have:n.log2 < k:=(Nat.log2_lt hn).mpr h
  show (n:Int).natAbs.log2+1<=k
  rw [Int.natAbs_natCast]
  omega
@[simp] theorem aN3(i j:Int):uT (.int i) (.int j)=aH (0<=j/\j<=1000000/\i.natAbs < 18446744073709551616) (.ok (.int (i * 2 ^ j.toNat))):=rfl
@[simp] theorem aYc(i j:Int):pA (.int i) (.int j)=aH (0<=j) (.ok (.int (i / 2 ^ j.toNat))):=rfl
@[simp] theorem aB6(i j:Int):pB (.int i) (.int j)=aH (0<=i/\0<=j) (.ok (.int ((i.toNat &&& j.toNat:Nat):Int))):=rfl
@[simp] theorem aQ8(i j:Int):dOr (.int i) (.int j)=aH (0<=i/\0<=j) (.ok (.int ((i.toNat ||| j.toNat:Nat):Int))):=rfl
@[simp] theorem aSx(i:Int):aA7 (.int i) = .ok (.int (lV i:Nat)):=rfl
theorem aB7(n r:Nat):(((n:Int) / 2 ^ r).toNat &&& (1:Int).toNat)=if n.testBit r=true then 1 else 0:=by
 have e:((n:Int) / 2 ^ r).toNat=n / 2 ^ r:=by
  have:(n:Int) / 2 ^ r=((n / 2 ^ r:Nat):Int):=by push_cast;rfl
  rw [this,Int.toNat_natCast]
 rw [e,show (1:Int).toNat=1 from rfl,Nat.and_one_is_mod,Nat.testBit_eq_decide_div_mod_eq]
 by_cases h:n / 2 ^ r % 2=1
 ·simp [h]
 ·have:n / 2 ^ r % 2=0:=by omega
  simp [this]
theorem vG(n r:Nat):cY [.int n,.int r] = .ok (.bl (n.testBit r)):=by
 have hb:=aB7 n r
 have h0:0<=(n:Int) / 2 ^ r:=Int.ediv_nonneg (by omega) (Int.pow_nonneg (by decide))
 refine cO rfl ?_
 unfold uV
 show dH _ [some (.v (.int n)),some (.v (.int r))]=_
 have e1:e2 pA (aB 0) (aB 1) [some (.v (.int n)),some (.v (.int r))] = .ok (.int ((n:Int) / 2 ^ r)):=by simp
 have e2':e2 pB (e2 pA (aB 0) (aB 1)) (eC (.int 1)) [some (.v (.int n)),some (.v (.int r))] = .ok (.int ((if n.testBit r=true then 1 else 0:Nat):Int)):=by
  rw [zK,e1,aU,aF7,aU,aB6,aG ⟨h0,by decide⟩,hb]
 rw [pZ,zK,e2']
 cases n.testBit r<;>simp
theorem lN{tg:Tg}{C E:Ex}{st:PSt}{q:Nat->Bool}{G:Nat->D}:∀ (ks:List Nat),(∀ k∈ks,∃ s1,tg (.int k) st = .ok s1/\C s1 = .ok (.bl (q k))/\E s1 = .ok (G k))->mV tg C E st (nats ks) = .ok ((ks.filter q).map G)
 | [],_=>rfl
 | k :: ks,h=>by
  obtain ⟨s1,e1,e2,e3⟩:=h k List.mem_cons_self
  have ih:=lN ks fun k hk=>h k (List.mem_cons_of_mem _ hk)
  show mV tg C E st (.int k :: nats ks)=_
  rw [uQ,e1]
  cases hq:q k with
  | true =>
   rw [List.filter_cons_of_pos hq,List.map_cons]
   simp [e2,e3,hq,ih]
  | false =>
   rw [List.filter_cons_of_neg (by rw [hq];decide)]
   simp [e2,hq,ih]
theorem aFg(n:Nat):fV 0 n=nats (List.range n):=by
 rw [zP]
 rfl
theorem pK{n k:Nat}(h:n < 2 ^ k)(hk:k<=2000):cC [.int n] = .ok (.lst (nats (aX n))):=by
 have hb:=aFf h
 have e:=lN (tg:=tgN 1) (C:=qG) (E:=qF) (st:=[some (.v (.int n)),none]) (q:=fun r=>n.testBit r) (G:=fun r => .int r) (List.range (lV n)) (fun r _=>⟨_,rfl,by
  simp [qG,vG n r],by simp [qF]⟩)
 refine cO rfl ?_
 unfold uW
 show dH _ [some (.v (.int n)),none]=_
 have hi:oY (e1 aA7 (aB 0)) [some (.v (.int n)),none] = .ok (nats (List.range (lV n))):=by
  simp [show ((lV n:Nat):Int)<=(big:Int) from aK (by omega)]
  exact aFg _
 rw [pZ,aAr,hi]
 simp only [aU,bR,List.length_range]
 rw [aG (aM (by omega)),show clr [1] [some (Sl.v (D.int n)),none]=[some (.v (.int n)),none] from rfl,e]
 rfl
theorem aCz(a:Option Sl):∀ (l:List Nat) (b:Nat) (x2:Option Sl),(∀ r∈l,r<=1000000)->∃ x2',forR (tgN 2) jB (nats l) [a,some (.v (.int b)),x2] = .ok (.nx [a,some (.v (.int (orN l b))),x2'])
 | [],b,x2,_=>⟨x2,rfl⟩
 | r :: l,b,x2,h=>by
  obtain ⟨x2',e⟩:=aCz a l (b ||| 2 ^ r) (some (.v (.int r))) fun r hr=>h r (List.mem_cons_of_mem _ hr)
  refine ⟨x2',?_⟩
  have hr:=h r List.mem_cons_self
  have hr':(r:Int)<=1000000:=by omega
  have ee:((1:Int) * 2 ^ (r:Int).toNat)=((2 ^ r:Nat):Int):=by push_cast;simp
  show forR (tgN 2) jB (.int r :: nats l) _=_
  rw [jA]
  have e3:(2:Int) ^ r=((2 ^ r:Nat):Int):=by push_cast;rfl
  have t:jB [a,some (.v (.int b)),some (.v (.int r))] = .ok (.nx [a,some (.v (.int ((b ||| 2 ^ r:Nat):Int))),some (.v (.int r))]):=by
   have h1:e2 uT (eC (.int 1)) (aB 2) [a,some (.v (.int b)),some (.v (.int r))] = .ok (.int ((2 ^ r:Nat):Int)):=by
    simp only [zK,aF7,aIi,aU,List.getElem?_cons_succ,List.getElem?_cons_zero]
    rw [aN3,aG ⟨by omega,hr',by decide⟩,ee]
   unfold jB
   rw [aIm,zK,h1]
   simp only [aIi,aU,List.getElem?_cons_succ,List.getElem?_cons_zero]
   rw [aQ8,aG ⟨Int.natCast_nonneg _,Int.natCast_nonneg _⟩,Int.toNat_natCast,Int.toNat_natCast]
   rfl
  show (jB [a,some (.v (.int b)),some (.v (.int r))]).bind _=_
  rw [t]
  exact e
theorem aIy{l:List Nat}(h:∀ r∈l,r<=1000000)(hl:l.length<=1000000):jC [.lst (nats l)] = .ok (.int (aDz l)):=by
 obtain ⟨x2',e⟩:=aCz (some (.v (.lst (nats l)))) l 0 none h
 refine cO rfl ?_
 unfold yF
 refine aR (st':=[some (.v (.lst (nats l))),some (.v (.int 0)),none]) (by simp) ?_
 refine aR (st':=[some (.v (.lst (nats l))),some (.v (.int (aDz l))),x2']) ?_ (by simp)
 rw [aIn,show itE (aB 0) [some (Sl.v (D.lst (nats l))),some (.v (.int 0)),none] = .ok (nats l) from rfl,aU]
 exact e
theorem aB8{n k:Nat}(h:n < 2 ^ k):(List.range k).filter (fun r=>n.testBit r)=aX n:=by
 have hb:=aFf h
 unfold aX
 obtain ⟨d,rfl⟩:∃ d,k=lV n+d:=⟨k - lV n,by omega⟩
 have h0:((List.range d).map (lV n + ·)).filter (fun r=>n.testBit r)=[]:=List.filter_eq_nil_iff.mpr fun x hx=>by
  obtain ⟨y,_,rfl⟩:=List.mem_map.mp hx
  rw [aFe (Nat.le_add_right _ _)]
  decide
 rw [List.range_add,List.filter_append,h0,List.append_nil]
end Pu
namespace Pu
inductive Rch (S:List (List Nat)) (c:Nat) (al:Nat->Bool) (s:Nat):Nat->Prop where
 | here:Rch S c al s s
 | on {r l:Nat}:Rch S c al s r->l < c->al (stp S r l)=true->Rch S c al s (stp S r l)
theorem dI(n:Nat):(aX n).Nodup:=List.nodup_range.filter _
theorem aIz{l:List Nat}{k:Nat}(h:∀ r∈l,r < k):aDz l < 2 ^ k:=Nat.lt_pow_two_of_testBit _ fun r hr=>by
 rw [pJ]
 exact decide_eq_false fun z=>by have:=h r z;omega
open Classical in
noncomputable def gJ(S:List (List Nat))(c n r:Nat):Nat:=aDz ((List.range S.length).filter fun g=>decide (Rch S c (fun g=>n.testBit g) r g))
section
variable{S:List (List Nat)}{rk:List Nat}{c n:Nat}
theorem aH9(M:Mch S rk c){al:Nat->Bool}{s g:Nat}(hs:s < S.length)(h:Rch S c al s g):g < S.length:=by
 induction h with
 | here=>exact hs
 | on _ hl _ ih=>obtain ⟨_,_,_,h⟩:=vD M ih hl;exact h
theorem aE0{al:Nat->Bool}{s g:Nat}(hs:al s=true)(h:Rch S c al s g):al g=true:=by
 cases h with
 | here=>exact hs
 | on _ _ ha=>exact ha
open Classical in
theorem mL(M:Mch S rk c){r:Nat}(hr:r < S.length)(g:Nat):(gJ S c n r).testBit g=true ↔ Rch S c (fun g=>n.testBit g) r g:=by
 unfold gJ
 rw [pJ,decide_eq_true_eq,List.mem_filter,List.mem_range,decide_eq_true_eq]
 exact ⟨fun h=>h.2,fun h=>⟨aH9 M hr h,h⟩⟩
theorem wN:gJ S c n r < 2 ^ S.length:=aIz fun g hg=>List.mem_range.mp (List.mem_filter.mp hg).1
theorem wO(M:Mch S rk c){a b:Nat}(ha:a < S.length):b∈S.getD a [] ↔ ∃ l,l < c/\stp S a l=b:=by
 have hr:=(M.row S[a] (List.getElem_mem ha)).1
 have hg:S.getD a []=S[a]:=by rw [List.getD_eq_getElem?_getD,List.getElem?_eq_getElem ha];rfl
 have e:∀ l,stp S a l=S[a].getD l 0:=fun l=>by unfold stp;rw [hg]
 rw [hg]
 constructor
 ·intro h
  obtain ⟨l,hl,rfl⟩:=List.mem_iff_getElem.mp h
  exact ⟨l,by omega,by rw [e,List.getD_eq_getElem?_getD,List.getElem?_eq_getElem hl];rfl⟩
 ·rintro ⟨l,hl,rfl⟩
  have hl':l < S[a].length:=by omega
  rw [e,List.getD_eq_getElem?_getD,List.getElem?_eq_getElem hl']
  exact List.getElem_mem hl'
theorem Rch.trans{al:Nat->Bool}{a b d:Nat}(h1:Rch S c al a b)(h2:Rch S c al b d):Rch S c al a d:=by
 induction h2 with
 | here=>exact h1
 | on _ hl ha ih=>exact .on ih hl ha
end
theorem aN4(g:Nat)(l:List Nat):dIn (.int g) (.lst (nats l)) = .ok (.bl (decide (g∈l))):=by
 obtain ⟨p1,p2,_⟩:=dY l
 rw [<-tM]
 exact aG ⟨by rw [p2];exact Nat.zero_le 60,rfl,p1⟩
theorem aHa{n:Nat}(h:n<=1000000):uT (.int 1) (.int n) = .ok (.int ((2 ^ n:Nat):Int)):=by
 have e:((2 ^ n:Nat):Int)=1 * 2 ^ (n:Int).toNat:=by rw [Int.one_mul,Int.toNat_natCast];push_cast;rfl
 rw [e]
 exact aG ⟨by omega,by omega,by decide⟩
theorem aQ9(a b:Nat):pB (.int a) (.int b) = .ok (.int ((a &&& b:Nat):Int)):=by
 rw [<-Int.toNat_natCast a,<-Int.toNat_natCast b]
 exact aG ⟨by omega,by omega⟩
theorem sU(g:Nat)(l:List Nat):oG (nats l) (.int g)=decide (g∈l):=by
 unfold oG nats
 rw [List.any_map]
 by_cases h:g∈l
 ·rw [decide_eq_true h,List.any_eq_true]
  exact ⟨g,h,by simp [eqK]⟩
 ·rw [decide_eq_false h,List.any_eq_false]
  intro x hx
  have : ¬ (x : Int) = (g : Int) := fun z => h (by have e : x = g := by omega
                                                   rw [<-e];exact hx)
  simp [eqK,this]
theorem pL(V:Nat->D){g:Nat}:∀ {l:List Nat},g∈l->rH (nats l) (l.map V) (.int g)=some (V g)
 | [],h=>nomatch h
 | x :: l,h=>by
  show rH (.int x :: nats l) (V x :: l.map V) (.int g)=_
  unfold rH
  rw [List.zip_cons_cons,List.find?_cons]
  by_cases e:x=g
  ·simp [eqK,e]
  ·have:¬ (x:Int)=(g:Int):=by omega
   simp only [eqK,beq_eq_false_iff_ne.mpr this]
   exact pL V ((List.mem_cons.mp h).resolve_left fun z=>e z.symm)
theorem aB9(l:List Nat)(x:Nat):nats (l++[x])=nats l++[.int x]:=by unfold nats;simp
theorem wQ{ks vs:List D}{g:Nat}{d:D}(h:rH ks vs (.int g)=some d):dIx (.dct false ks vs) (.int g) = .ok d:=by
 show aH (keyOk false (.int g)=true) (ofO (rH ks vs (.int g)))=_
 rw [aG (c:=keyOk false (.int g)=true) rfl,h]
 rfl
end Pu
namespace Pu
section
variable{S:List (List Nat)}{rk:List Nat}{s c p j:Nat}{al:Nat->Bool}{acc:List (Nat × List Nat)}
theorem BM.sound(b:BM S s c al p j acc):∀ (k:Nat) (x:Nat × List Nat),acc[k]?=some x->Rch S c al s x.1:=by
 intro k
 induction k using Nat.strongRecOn with
 | ind k ih =>
  intro x hx
  by_cases hk:k=0
  ·subst hk
   rw [b.hd] at hx
   cases hx
   exact .here
  ·obtain ⟨h0,q,y,ch,h1,h2,_⟩:=b.par k x hx (by omega)
   have hl:x.2.length=y.2.length+1:=by rw [h2];simp
   have hq:q < k:=by
    rcases Nat.lt_trichotomy q k with h | h | h
    ·exact h
    ·subst h
     rw [hx] at h1
     cases h1
     omega
    ·rcases b.ord k q x y hx h1 h with h3 | ⟨h3,_⟩ <;> omega
   obtain ⟨_,x2,x3⟩:=b.lt x (List.mem_of_getElem? hx)
   obtain ⟨_,y2,_⟩:=b.lt y (List.mem_of_getElem? h1)
   have hch:=x3 ch (by rw [h2];simp)
   have e:x.1=stp S y.1 (ch - 97):=by rw [<-x2,h2,tQ,y2]
   rw [e] at h0 ⊢
   exact .on (ih q hq y h1) (by omega) h0
theorem BM.whole(b:BM S s c al acc.length 0 acc){g:Nat}:g∈acc.map (·.1) ↔ Rch S c al s g:=by
 constructor
 ·intro h
  obtain ⟨x,hx,rfl⟩:=List.mem_map.mp h
  obtain ⟨k,hk⟩:=List.mem_iff_getElem?.mp hx
  exact b.sound k x hk
 ·intro h
  induction h with
  | here=>exact List.mem_map.mpr ⟨_,List.mem_of_getElem? b.hd,rfl⟩
  | on _ hl ha ih =>
   obtain ⟨x,hx,rfl⟩:=List.mem_map.mp ih
   obtain ⟨k,hk⟩:=List.mem_iff_getElem?.mp hx
   obtain ⟨y,h1,h2,_⟩:=b.cls k x _ hk hl (.inl (List.getElem?_eq_some_iff.mp hk).1) ha
   exact List.mem_map.mpr ⟨y,h1,h2⟩
end
end Pu
namespace Pu
inductive Pw (B:Nat->Nat->Prop) (K:Nat->Prop):Nat->Nat->Prop where
 | one {a b:Nat}:B a b->Pw B K a b
 | mid {a m b:Nat}:K m->Pw B K a m->Pw B K m b->Pw B K a b
theorem Pw.cut{B:Nat->Nat->Prop}{K K':Nat->Prop}{k a b:Nat}(hK:∀ m,K' m->K m\/m=k)(h:Pw B K' a b):Pw B K a b\/(Pw B K a k/\Pw B K k b):=by
 induction h with
 | one h=>exact .inl (.one h)
 | mid hm _ _ i1 i2 =>
  rename_i a m b _ _
  rcases hK m hm with hm | rfl
  ·rcases i1 with x | ⟨x1,x2⟩
   ·rcases i2 with y | ⟨y1,y2⟩
    ·exact .inl (.mid hm x y)
    ·exact .inr ⟨.mid hm x y1,y2⟩
   ·rcases i2 with y | ⟨y1,y2⟩
    ·exact .inr ⟨x1,.mid hm x2 y⟩
    ·exact .inr ⟨x1,y2⟩
  ·exact .inr ⟨i1.elim id fun z=>z.1,i2.elim id fun z=>z.2⟩
theorem Pw.mono{B:Nat->Nat->Prop}{K K':Nat->Prop}{a b:Nat}(hK:∀ m,K m->K' m)(h:Pw B K a b):Pw B K' a b:=by
 induction h with
 | one h=>exact .one h
 | mid hm _ _ i1 i2=>exact .mid (hK _ hm) i1 i2
def fL(V:Nat->Nat)(m:Nat):Nat->Nat:=fun r=>if (V r).testBit m=true then V r ||| V m else V r
theorem aJ0{B:Nat->Nat->Prop}{R:Nat->Prop}(hR:∀ a b,R a->B a b->R b):∀ (ks ds:List Nat) (V:Nat->Nat),(∀ k∈ks,R k)->(∀ r,R r->∀ g,(V r).testBit g=true ↔ Pw B (· ∈ ds) r g)->∀ r,R r->∀ g,((ks.foldl fL V) r).testBit g=true ↔ Pw B (· ∈ ds++ks) r g
 | [],ds,V,_,h,r,hr,g=>by rw [List.append_nil];exact h r hr g
 | k :: ks,ds,V,hk,h,r,hr,g=>by
  have e:ds++k :: ks=(ds++[k])++ks:=by simp
  rw [e]
  refine aJ0 hR ks (ds++[k]) (fL V k) (fun x hx=>hk x (List.mem_cons_of_mem _ hx)) (fun r hr g=>?_) r hr g
  have hk':=hk k List.mem_cons_self
  have up:∀ {a b:Nat},Pw B (· ∈ ds) a b->Pw B (· ∈ ds++[k]) a b:=fun z=>z.mono fun m hm=>List.mem_append_left _ hm
  have in_k:k∈ds++[k]:=by simp
  unfold fL
  by_cases hb:(V r).testBit k=true
  ·rw [if_pos hb,Nat.testBit_or,Bool.or_eq_true,h r hr g,h k hk' g]
   constructor
   ·rintro (z | z)
    ·exact up z
    ·exact .mid in_k (up ((h r hr k).mp hb)) (up z)
   ·intro z
    rcases z.cut (K:=(· ∈ ds)) (k:=k) (fun m hm=>by simpa using hm) with y | ⟨_,y⟩
    ·exact .inl y
    ·exact .inr y
  ·rw [if_neg hb,h r hr g]
   constructor
   ·exact up
   ·intro z
    rcases z.cut (K:=(· ∈ ds)) (k:=k) (fun m hm=>by simpa using hm) with y | ⟨y,_⟩
    ·exact y
    ·exact absurd ((h r hr k).mpr y) hb
section
variable{S:List (List Nat)}{rk:List Nat}{c n:Nat}
def lZ(S:List (List Nat))(n:Nat):Nat->Nat:=fun r=>(aDz (S.getD r []) ||| 2 ^ r) &&& n
theorem aN5{r g:Nat}:(lZ S n r).testBit g=true ↔ (r=g\/g∈S.getD r [])/\n.testBit g=true:=by
 unfold lZ
 rw [Nat.testBit_and,Nat.testBit_or,pJ,Nat.testBit_two_pow,Bool.and_eq_true,Bool.or_eq_true,decide_eq_true_eq,decide_eq_true_eq]
 exact ⟨fun h=>⟨h.1.symm,h.2⟩,fun h=>⟨h.1.symm,h.2⟩⟩
theorem aKi(M:Mch S rk c)(hn:n < 2 ^ S.length){r:Nat}(hr:r∈aX n)(g:Nat):(((aX n).foldl fL (lZ S n)) r).testBit g=true ↔ Rch S c (fun g=>n.testBit g) r g:=by
 have hp:=aJ0 (B:=fun a b=>(a=b\/b∈S.getD a [])/\n.testBit b=true) (R:=(· ∈ aX n)) (fun a b _ h=>bU.mpr h.2) (aX n) [] (lZ S n) (fun k hk=>hk) (fun r _ g=>by
  rw [aN5]
  constructor
  ·exact fun h => .one h
  ·intro h
   cases h with
   | one h=>exact h
   | mid h _ _=>cases h) r hr g
 rw [hp,List.nil_append]
 clear hp
 constructor
 ·intro h
  have hi:∀ {a b:Nat},Pw (fun a b=>(a=b\/b∈S.getD a [])/\n.testBit b=true) (· ∈ aX n) a b->a∈aX n->Rch S c (fun g=>n.testBit g) a b:=by
   intro a b h
   induction h with
   | one h =>
    intro ha
    obtain ⟨rfl | h1,h2⟩:=h
    ·exact .here
    ·obtain ⟨l,hl,rfl⟩:=(wO M (cR hn ha)).mp h1
     exact .on .here hl h2
   | mid hm _ _ i1 i2=>exact fun ha=>Rch.trans (i1 ha) (i2 hm)
  exact hi h hr
 ·intro h
  induction h with
  | here=>exact .one ⟨.inl rfl,bU.mp hr⟩
  | on h1 hl ha ih =>
   have hx:_∈aX n:=bU.mpr (aE0 (al:=fun g=>n.testBit g) (bU.mp hr) h1)
   exact .mid hx ih (.one ⟨.inr ((wO M (cR hn hx)).mpr ⟨_,hl,rfl⟩),ha⟩)
theorem aN6(M:Mch S rk c)(hn:n < 2 ^ S.length){r:Nat}(hr:r∈aX n):((aX n).foldl fL (lZ S n)) r=gJ S c n r:=Nat.eq_of_testBit_eq fun g=>by
 have e:=(aKi M hn hr g).trans (mL M (cR hn hr) g).symm
 cases h1:(((aX n).foldl fL (lZ S n)) r).testBit g with
 | true=>exact (e.mp h1).symm
 | false =>
  cases h2:(gJ S c n r).testBit g with
  | true=>rw [e.mpr h2] at h1;cases h1
  | false=>rfl
theorem aJ1(a b:Nat):dOr (.int a) (.int b) = .ok (.int ((a ||| b:Nat):Int)):=by
 rw [<-Int.toNat_natCast a,<-Int.toNat_natCast b]
 exact aG ⟨by omega,by omega⟩
def rK(S:List (List Nat))(n:Nat)(ks:List Nat)(V:Nat->Nat)(x4 x5:Option Sl):PSt:=[some (.v (.lst (stD S))),some (.v (.int n)),some (.v (.lst (nats (aX n)))),some (.o (.d false (nats ks)) (ks.map fun r=>D.int (V r:Nat))),x4,x5]
theorem aJ2{ks:List Nat}{V:Nat->Nat}{r:Nat}{x:D}(hr:r ∉ ks):oX (nats ks) (.int r)=nats (ks++[r])/\rT (nats ks) (ks.map fun r=>D.int (V r:Nat)) (.int r) x=(ks.map fun r=>D.int (V r:Nat))++[x]:=by
 have hk:oG (nats ks) (.int r)=false:=by rw [sU,decide_eq_false hr]
 unfold oX rT
 rw [hk,aB9]
 exact ⟨rfl,rfl⟩
theorem aQa{ks:List Nat}{V:Nat->Nat}{r x:Nat}(hr:r∈ks):oX (nats ks) (.int r)=nats ks/\rT (nats ks) (ks.map fun r=>D.int (V r:Nat)) (.int r) (.int x)=ks.map fun k=>D.int ((if k=r then x else V k:Nat):Int):=by
 have hk:oG (nats ks) (.int r)=true:=by rw [sU,decide_eq_true hr]
 unfold oX rT
 rw [hk,if_pos rfl,if_pos rfl]
 refine ⟨rfl,?_⟩
 unfold nats
 rw [List.zip_map',List.map_map]
 refine List.map_congr_left fun k _=>?_
 show (if eqK (.int (k:Int)) (.int (r:Int))=true then D.int (x:Int) else D.int (V k:Int))=_
 by_cases e:k=r
 ·rw [if_pos e,if_pos (by rw [e];simp [eqK])]
 ·have:¬ (k:Int)=(r:Int):=by omega
  rw [if_neg e,if_neg (by simp [eqK,this])]
theorem aE1{i:Nat}{g f:Ex}{st:PSt}{k d:D}{ks vs:List D}(hf:f st = .ok d)(hg:g st = .ok k)(hs:st[i]?=some (some (.o (.d false ks) vs)))(hk:keyOk false k=true)(hl:vs.length < 1000):sDPut i g f st = .ok (.nx (st.set i (some (.o (.d false (oX ks k)) (rT ks vs k d))))):=by
 unfold sDPut
 rw [hf,aU,hg,aU,hs]
 exact aG ⟨hk,aW (by omega)⟩
theorem aD0(M:Mch S rk c):∀ (rs ks:List Nat) (x4:Option Sl),(ks++rs).Nodup->(∀ r∈ks++rs,r < S.length)->∃ x4',forR (tgN 4) sH (nats rs) (rK S n ks (lZ S n) x4 none) = .ok (.nx (rK S n (ks++rs) (lZ S n) x4' none))
 | [],ks,x4,_,_=>⟨x4,by rw [List.append_nil];rfl⟩
 | r :: rs,ks,x4,nd,hl=>by
  have n8:=M.most
  have h1:ks++r :: rs=(ks++[r])++rs:=by simp
  rw [h1] at nd hl
  obtain ⟨x4',e⟩:=aD0 M rs (ks++[r]) (some (.v (.int r))) nd hl
  refine ⟨x4',?_⟩
  rw [h1]
  have hr:r ∉ ks:=fun z=>(List.nodup_append.mp (List.nodup_append.mp nd).1).2.2 r z r (List.mem_singleton.mpr rfl) rfl
  have hrl:r < S.length:=hl r (by simp)
  have hlen:ks.length<=S.length:=gH S.length ks (List.nodup_append.mp (List.nodup_append.mp nd).1).1 fun x hx=>hl x (by simp [hx])
  have hg:S.getD r []=S[r]:=by rw [List.getD_eq_getElem?_getD,List.getElem?_eq_getElem hrl];rfl
  have hrow:=M.row S[r] (List.getElem_mem hrl)
  have c3:=M.c3
  have hb:=aIy (l:=S[r]) (fun x hx=>by have:=hrow.2 x hx;omega) (by rw [hrow.1];omega)
  obtain ⟨p1,p2⟩:=aJ2 (V:=lZ S n) (x := .int (lZ S n r:Nat)) hr
  refine qJ rfl (s2:=rK S n (ks++[r]) (lZ S n) (some (.v (.int r))) none) ?_ e
  have hv:e2 pB (e2 dOr (aY jC (aC (e2 dIx (aB 0) (aB 4)) (bG))) (e2 uT (eC (.int 1)) (aB 4))) (aB 1) (rK S n ks (lZ S n) (some (.v (.int r))) none) = .ok (.int (lZ S n r:Nat)):=by
   unfold lZ
   rw [hg]
   exact aP (aP (bA (fC (aP rfl rfl (gA (qK hrl))) rfl) hb) (aP rfl rfl (aHa (by omega))) (aJ1 _ _)) rfl (aQ9 _ _)
  refine (aE1 hv rfl rfl rfl (by rw [List.length_map];omega)).trans ?_
  rw [p1,p2]
  unfold rK
  rw [List.map_append]
  rfl
theorem aKj{ks:List Nat}{V:Nat->Nat}{r m:Nat}(hl:ks.length < 1000)(hr:r∈ks)(hm:m∈ks):jO (rK S n ks V (some (.v (.int r))) (some (.v (.int m)))) = .ok (.nx (rK S n ks (fun k=>if k=r then fL V m r else V k) (some (.v (.int r))) (some (.v (.int m))))):=by
 have gr:e2 dIx (fX 3) (aB 4) (rK S n ks V (some (.v (.int r))) (some (.v (.int m)))) = .ok (.int (V r:Nat)):=aP rfl rfl (wQ (pL (fun r=>D.int (V r:Nat)) hr))
 have gm:e2 dIx (fX 3) (aB 5) (rK S n ks V (some (.v (.int r))) (some (.v (.int m)))) = .ok (.int (V m:Nat)):=aP rfl rfl (wQ (pL (fun r=>D.int (V r:Nat)) hm))
 have t:=bA (fC gr (show aC (aB 5) bG (rK S n ks V (some (.v (.int r))) (some (.v (.int m)))) = .ok [.int m] from rfl)) (vG (V r) m)
 by_cases hb:(V r).testBit m=true
 ·rw [hb] at t
  obtain ⟨p1,p2⟩:=aQa (V:=V) (x:=V r ||| V m) hr
  refine qH t ((aE1 (aP gr gm (aJ1 _ _)) rfl rfl rfl (by rw [List.length_map];omega)).trans ?_)
  rw [p1,p2]
  unfold fL
  rw [if_pos hb]
  rfl
 ·rw [Bool.eq_false_iff.mpr hb] at t
  refine jX t ?_
  have:(fun k=>if k=r then fL V m r else V k)=V:=funext fun k=>by
   by_cases e:k=r
   ·rw [if_pos e,e];unfold fL;rw [if_neg hb]
   ·rw [if_neg e]
  rw [this]
  rfl
theorem aD1{ks:List Nat}{V:Nat->Nat}{m:Nat}(hl:ks.length < 1000)(hm:m∈ks):∀ (rs:List Nat) (W:Nat->Nat) (x4:Option Sl),(∀ r∈rs,r∈ks)->W m=V m->(∀ r∈rs,W r=V r\/W r=fL V m r)->∃ W' x4',forR (tgN 4) jO (nats rs) (rK S n ks W x4 (some (.v (.int m)))) = .ok (.nx (rK S n ks W' x4' (some (.v (.int m)))))/\∀ r,W' r=if r∈rs then fL V m r else W r
 | [],W,x4,_,_,_=>⟨W,x4,rfl,fun r=>by rw [if_neg (by simp)]⟩
 | r :: rs,W,x4,hs,hw,hv=>by
  have ho:fL W m r=fL V m r:=by
   rcases hv r List.mem_cons_self with h | h
   ·unfold fL;rw [h,hw]
   ·unfold fL at h ⊢
    rw [h,hw]
    by_cases hb:(V r).testBit m=true
    ·rw [if_pos hb]
     by_cases hb2:(V r ||| V m).testBit m=true
     ·rw [if_pos hb2,Nat.or_assoc,Nat.or_self]
     ·rw [if_neg hb2]
    ·rw [if_neg hb,if_neg hb]
  have hom:fL V m m=V m:=by
   unfold fL
   split
   ·exact Nat.or_self _
   ·rfl
  obtain ⟨W',x4',e,h⟩:=aD1 hl hm rs (fun k=>if k=r then fL W m r else W k) (some (.v (.int r))) (fun x hx=>hs x (List.mem_cons_of_mem _ hx)) (by
   show (if m=r then fL W m r else W m)=V m
   by_cases e:m=r
   ·rw [if_pos e,ho,<-e,hom]
   ·rw [if_neg e,hw]) (fun x hx=>by
   show (if x=r then fL W m r else W x)=V x\/(if x=r then fL W m r else W x)=fL V m x
   by_cases e:x=r
   ·rw [if_pos e,ho,e];exact .inr rfl
   ·rw [if_neg e];exact hv x (List.mem_cons_of_mem _ hx))
  refine ⟨W',x4',qJ rfl (aKj hl (hs r List.mem_cons_self) hm) e,fun x=>?_⟩
  rw [h x]
  by_cases hx:x∈rs
  ·rw [if_pos hx,if_pos (List.mem_cons_of_mem _ hx)]
  ·rw [if_neg hx]
   by_cases e:x=r
   ·rw [if_pos e,if_pos (by rw [e];exact List.mem_cons_self),ho,e]
   ·rw [if_neg e,if_neg (by simp [e,hx])]
theorem aBa{ks:List Nat}{V W:Nat->Nat}{x4 x5:Option Sl}(h:∀ k∈ks,V k=W k):rK S n ks V x4 x5=rK S n ks W x4 x5:=by
 unfold rK
 rw [List.map_congr_left fun k hk=>congrArg (fun x:Nat=>D.int (x:Int)) (h k hk)]
theorem aD2(hl:(aX n).length < 1000):∀ (ms:List Nat) (V:Nat->Nat) (x4 x5:Option Sl),(∀ m∈ms,m∈aX n)->∃ x4' x5',forR (tgN 5) sI (nats ms) (rK S n (aX n) V x4 x5) = .ok (.nx (rK S n (aX n) (ms.foldl fL V) x4' x5'))
 | [],V,x4,x5,_=>⟨x4,x5,rfl⟩
 | m :: ms,V,x4,x5,hs=>by
  obtain ⟨W,y4,e,h⟩:=aD1 (S:=S) (n:=n) (V:=V) hl (hs m List.mem_cons_self) (aX n) V x4 (fun r hr=>hr) rfl fun r _ => .inl rfl
  obtain ⟨z4,z5,e'⟩:=aD2 hl ms (fL V m) y4 (some (.v (.int m))) fun x hx=>hs x (List.mem_cons_of_mem _ hx)
  refine ⟨z4,z5,qJ rfl (iI (L:=jO) rfl e) ?_⟩
  rw [aBa (W:=fL V m) fun k hk=>by rw [h k,if_pos hk]]
  exact e'
theorem aN7(M:Mch S rk c)(hn:n < 2 ^ S.length):mH [.lst (stD S),.int n] = .ok (.dct false (nats (aX n)) ((aX n).map fun r=>D.int (gJ S c n r:Nat))):=by
 have n8:=M.most
 have hro:=pK hn (by omega)
 have hlen:(aX n).length<=S.length:=gH S.length _ (dI _) fun x hx=>cR hn hx
 obtain ⟨x4,e1⟩:=aD0 (n:=n) M (aX n) [] none (dI n) fun r hr=>cR hn hr
 obtain ⟨y4,y5,e2⟩:=aD2 (S:=S) (n:=n) (by omega) (aX n) (lZ S n) x4 none fun m hm=>hm
 refine cO rfl (aR (st':=[some (.v (.lst (stD S))),some (.v (.int n)),some (.v (.lst (nats (aX n)))),none,none,none]) (cA (bA rfl hro)) (aR (st':=rK S n [] (lZ S n) none none) rfl (aR (iI rfl e1) (aR (iI rfl e2) ?_))))
 rw [aBa fun k hk=>aN6 M hn hk]
 rfl
end
end Pu
namespace Pu
noncomputable def gQ(S:List (List Nat))(c n r:Nat):Nat:=aDz ((aX (gJ S c n r)).filter fun g=>(gJ S c n g).testBit r)
def roundN(S:List (List Nat))(m:Nat):Bool:=decide (1 < (aX m).length)||decide ((aX m).headD 0∈S.getD ((aX m).headD 0) [])
noncomputable def oU(S:List (List Nat))(c n:Nat):List Nat:=(aX n).foldl (fun ps r=>if gQ S c n r ∉ ps/\roundN S (gQ S c n r)=true then ps++[gQ S c n r] else ps) []
section
variable{S:List (List Nat)}{rk:List Nat}{c n:Nat}
theorem aQb:gQ S c n r < 2 ^ S.length:=aIz fun g hg=>cR wN (List.mem_filter.mp hg).1
theorem aN8(M:Mch S rk c){m:Nat}(hm:m < 2 ^ S.length)(h0:m≠0):mJ [.lst (stD S),.int m] = .ok (.bl (roundN S m)):=by
 have n8:=M.most
 have hro:=pK hm (by omega)
 obtain ⟨r,T,eT⟩:∃ r T,aX m=r :: T:=by
  cases h:aX m with
  | nil =>
   refine absurd ?_ h0
   have:=yM m
   rw [h] at this
   exact this.symm
  | cons r T=>exact ⟨r,T,rfl⟩
 rw [eT] at hro
 have hr:r < S.length:=cR hm (by rw [eT];exact List.mem_cons_self)
 refine cO rfl (aR (st':=[some (.v (.lst (stD S))),some (.v (.int m)),some (.v (.lst (nats (r :: T))))]) (cA (bA rfl hro)) (iH ?_))
 have ln:e1 cU (aB 2) [some (.v (.lst (stD S))),some (.v (.int m)),some (.v (.lst (nats (r :: T))))] = .ok (.int ((T.length+1:Nat):Int)):=by
  show R.ok (D.int (((nats (r :: T)).length:Nat):Int))=_
  rw [bR]
  rfl
 have v0:e2 dIx (aB 2) (eC (.int 0)) [some (.v (.lst (stD S))),some (.v (.int m)),some (.v (.lst (nats (r :: T))))] = .ok (.int r):=aP rfl rfl (gA (atI_nat (i:=0) (by rw [bR];exact Nat.succ_pos _)))
 have hg:S.getD r []=S[r]:=by rw [List.getD_eq_getElem?_getD,List.getElem?_eq_getElem hr];rfl
 have t:=aAy (aP ln (rfl:eC (.int 1) _=_) (rfl:dGt _ _=_)) fun _=>aP v0 (aP (rfl:aB 0 _ = .ok (.lst (stD S))) v0 (gA (qK hr))) (aN4 r S[r])
 refine jE t ?_
 unfold roundN
 rw [eT]
 show (decide ((1:Int) < ((T.length+1:Nat):Int))||decide (r∈S[r]))=(decide (1 < T.length+1)||decide (r∈S.getD r []))
 rw [hg]
 congr 1
 exact decide_eq_decide.mpr (by omega)
noncomputable def pst(S:List (List Nat))(c n:Nat)(ps:List Nat)(x4 x5:Option Sl):PSt:=[some (.v (.lst (stD S))),some (.v (.int n)),some (.v (.dct false (nats (aX n)) ((aX n).map fun r=>D.int (gJ S c n r:Nat)))),some (.o .l (nats ps)),x4,x5,none]
theorem aHb(M:Mch S rk c)(hn:n < 2 ^ S.length){r:Nat}(hr:r∈aX n)(ps:List Nat)(hps:ps.length<=1000)(x5:Option Sl):∃ x5',lR (pst S c n ps (some (.v (.int r))) x5) = .ok (.nx (pst S c n (if gQ S c n r ∉ ps/\roundN S (gQ S c n r)=true then ps++[gQ S c n r] else ps) (some (.v (.int r))) x5')):=by
 have n8:=M.most
 have hrl:=cR hn hr
 have hrb:=bU.mp hr
 have hro:=pK (wN (S:=S) (c:=c) (n:=n) (r:=r)) (by omega)
 have hin:∀ g∈aX (gJ S c n r),g∈aX n:=fun g hg=>bU.mpr (aE0 (al:=fun g=>n.testBit g) hrb ((mL M hrl g).mp (bU.mp hg)))
 have gk:∀ {g:Nat},g∈aX n->rH (nats (aX n)) ((aX n).map fun r=>D.int (gJ S c n r:Nat)) (.int g)=some (.int (gJ S c n g:Nat)):=fun {g} h=>pL (fun r=>D.int (gJ S c n r:Nat)) h
 have hlen:(aX (gJ S c n r)).length<=S.length:=gH S.length _ (dI _) fun x hx=>cR wN hx
 have ce:=lN (tg:=tgN 6) (C:=qZ) (E:=qY) (st:=pst S c n ps (some (.v (.int r))) x5) (q:=fun g=>(gJ S c n g).testBit r) (G:=fun g => .int g) (aX (gJ S c n r)) (fun g hg=>⟨_,rfl,bA (fC (aP rfl rfl (wQ (gk (hin g hg)))) rfl) (vG (gJ S c n g) r),rfl⟩)
 have hi:itE (aY cC (aC (e2 dIx (aB 2) (aB 4)) bG)) (pst S c n ps (some (.v (.int r))) x5) = .ok (nats (aX (gJ S c n r))):=aFb (bA (fC (aP rfl rfl (wQ (gk hr))) rfl) hro)
 have hcomp:=wL (is:=[6]) hi (by rw [bR];omega) ce
 have hbi:jC [.lst (nats ((aX (gJ S c n r)).filter fun g=>(gJ S c n g).testBit r))] = .ok (.int (gQ S c n r)):=aIy (fun g hg=>by have:=cR wN (List.mem_filter.mp hg).1;omega) (by have:=List.length_filter_le (fun g=>(gJ S c n g).testBit r) (aX (gJ S c n r));omega)
 have hne:gQ S c n r≠0:=fun z=>by
  have:(gQ S c n r).testBit r=true:=by
   unfold gQ
   rw [pJ,decide_eq_true_eq,List.mem_filter]
   have h0:(gJ S c n r).testBit r=true:=(mL M hrl r).mpr .here
   exact ⟨bU.mpr h0,h0⟩
  rw [z,Nat.zero_testBit] at this
  cases this
 have hgo:=aN8 M (aQb (S:=S) (c:=c) (n:=n) (r:=r)) hne
 obtain ⟨p1,p2,_⟩:=dY ps
 refine ⟨some (.v (.int (gQ S c n r))),aR (st':=pst S c n ps (some (.v (.int r))) (some (.v (.int (gQ S c n r))))) (cA (bA (fC hcomp rfl) hbi)) ?_⟩
 have t:=lU (st:=pst S c n ps (some (.v (.int r))) (some (.v (.int (gQ S c n r))))) (aP (f:=aB 5) (g:=fX 3) rfl rfl (show eZ (.int (gQ S c n r)) (.lst (nats ps)) = .ok (.bl (!decide (gQ S c n r∈ps))) by rw [<-tM];exact aG ⟨by rw [p2];exact Nat.zero_le 60,rfl,p1⟩)) fun _=>bA (r:=aC (aB 0) (aC (aB 5) bG)) rfl hgo
 by_cases h:gQ S c n r ∉ ps/\roundN S (gQ S c n r)=true
 ·rw [if_pos h]
  refine qH (jE t (by rw [decide_eq_false h.1,h.2];rfl)) ?_
  rw [yJ (xs:=nats ps) (d := .int (gQ S c n r)) rfl rfl (by rw [bR];omega),<-aB9]
  rfl
 ·rw [if_neg h]
  refine jX (jE t ?_) rfl
  cases h1:roundN S (gQ S c n r) with
  | false=>rw [Bool.and_false]
  | true=>rw [decide_eq_true (Classical.byContradiction fun z=>h ⟨z,h1⟩)];rfl
theorem aBb(M:Mch S rk c)(hn:n < 2 ^ S.length):∀ (rs:List Nat) (ps:List Nat) (x4 x5:Option Sl),(∀ r∈rs,r∈aX n)->ps.length+rs.length<=1000->∃ x4' x5',forR (tgN 4) lR (nats rs) (pst S c n ps x4 x5) = .ok (.nx (pst S c n (rs.foldl (fun ps r=>if gQ S c n r ∉ ps/\roundN S (gQ S c n r)=true then ps++[gQ S c n r] else ps) ps) x4' x5'))
 | [],ps,x4,x5,_,_=>⟨x4,x5,rfl⟩
 | r :: rs,ps,x4,x5,h,hl=>by
  rw [List.length_cons] at hl
  obtain ⟨x5',e1⟩:=aHb M hn (h r List.mem_cons_self) ps (by omega) x5
  obtain ⟨y4,y5,e2⟩:=aBb M hn rs (if gQ S c n r ∉ ps/\roundN S (gQ S c n r)=true then ps++[gQ S c n r] else ps) (some (.v (.int r))) x5' (fun r hr=>h r (List.mem_cons_of_mem _ hr)) (by
   split
   ·rw [List.length_append,List.length_singleton];omega
   ·omega)
  exact ⟨y4,y5,qJ rfl e1 e2⟩
theorem aFh(M:Mch S rk c)(hn:n < 2 ^ S.length):lD [.lst (stD S),.int n] = .ok (.lst (nats (oU S c n))):=by
 have n8:=M.most
 have hro:=pK hn (by omega)
 have hlen:(aX n).length<=S.length:=gH S.length _ (dI _) fun x hx=>cR hn hx
 obtain ⟨y4,y5,e⟩:=aBb M hn (aX n) [] none none (fun _ h=>h) (by simp;omega)
 exact cO rfl (aR (cA (bA rfl (aN7 M hn))) (aR (st':=pst S c n [] none none) (tK (oR rfl)) (aR (iI (aFb (bA rfl hro)) e) rfl)))
theorem aN9(M:Mch S rk c)(hn:n < 2 ^ S.length):mK [mD S rk c,.int n] = .ok (.lst (nats (oU S c n))) :=
 cO rfl (iH (bA (fC (show xZ "Machine" "steps" (mD S rk c)=_ from tL) rfl) (aFh M hn)))
end
end Pu
namespace Pu
section
variable{S:List (List Nat)}{rk:List Nat}{c n:Nat}
theorem aAb:∀ (l m:List Nat),dU (nats l) (nats m)=decide (l=m)
 | [],[]=>by simp [nats,dU]
 | [],y :: m=>by simp [nats,dU]
 | x :: l,[]=>by simp [nats,dU]
 | x :: l,y :: m=>by
  rw [yL,yL]
  unfold dU
  rw [aAb l m]
  by_cases h:x=y
  ·subst h
   simp [eqD]
  ·have:¬ (x:Int)=(y:Int):=by omega
   simp [eqD,h,this]
def inN(n:Nat):Nat->Bool:=fun g=>n.testBit g
def Mut(S:List (List Nat))(c n a b:Nat):Prop:=Rch S c (inN n) a b/\Rch S c (inN n) b a
theorem aE2(M:Mch S rk c){r g:Nat}(hr:r < S.length):(gQ S c n r).testBit g=true ↔ Mut S c n r g:=by
 unfold gQ
 rw [pJ,decide_eq_true_eq,List.mem_filter,bU,mL M hr]
 constructor
 ·rintro ⟨h1,h2⟩
  exact ⟨h1,(mL M (aH9 M hr h1) r).mp h2⟩
 ·rintro ⟨h1,h2⟩
  exact ⟨h1,(mL M (aH9 M hr h1) r).mpr h2⟩
def LpN(S:List (List Nat))(c n:Nat):Prop:=n≠0/\(∀ a∈aX n,∀ b∈aX n,Rch S c (inN n) a b)/\roundN S n=true
theorem aFi(f:Nat->Nat)(q:Nat->Bool):∀ (rs ps:List Nat) (m:Nat),m∈rs.foldl (fun ps r=>if f r ∉ ps/\q (f r)=true then ps++[f r] else ps) ps ↔ m∈ps\/∃ r∈rs,f r=m/\q m=true
 | [],ps,m=>by simp
 | r :: rs,ps,m=>by
  rw [List.foldl_cons,aFi f q rs]
  by_cases h:f r ∉ ps/\q (f r)=true
  ·rw [if_pos h]
   constructor
   ·rintro (h1 | ⟨r',h1,h2⟩)
    ·rcases List.mem_append.mp h1 with h1 | h1
     ·exact .inl h1
     ·rw [List.mem_singleton] at h1
      exact .inr ⟨r,List.mem_cons_self,h1.symm,by rw [h1];exact h.2⟩
    ·exact .inr ⟨r',List.mem_cons_of_mem _ h1,h2⟩
   ·rintro (h1 | ⟨r',h1,h2,h3⟩)
    ·exact .inl (List.mem_append_left _ h1)
    ·rcases List.mem_cons.mp h1 with rfl | h1
     ·exact .inl (List.mem_append_right _ (by rw [h2];simp))
     ·exact .inr ⟨r',h1,h2,h3⟩
  ·rw [if_neg h]
   constructor
   ·rintro (h1 | ⟨r',h1,h2⟩)
    ·exact .inl h1
    ·exact .inr ⟨r',List.mem_cons_of_mem _ h1,h2⟩
   ·rintro (h1 | ⟨r',h1,h2,h3⟩)
    ·exact .inl h1
    ·rcases List.mem_cons.mp h1 with rfl | h1
     ·refine .inl (Classical.byContradiction fun z=>h ⟨by rw [h2];exact z,by rw [h2];exact h3⟩)
     ·exact .inr ⟨r',h1,h2,h3⟩
theorem aKk{m:Nat}:m∈oU S c n ↔ ∃ r∈aX n,gQ S c n r=m/\roundN S m=true:=by
 unfold oU
 rw [aFi (fun r=>gQ S c n r) (roundN S)]
 simp
theorem aFj(f:Nat->Nat)(q:Nat->Bool)(m:Nat):∀ (rs:List Nat),(∀ r∈rs,f r=m)->rs.foldl (fun ps r=>if f r ∉ ps/\q (f r)=true then ps++[f r] else ps) [m]=[m]
 | [],_=>rfl
 | r :: rs,h=>by
  rw [List.foldl_cons,if_neg fun z=>z.1 (by rw [h r List.mem_cons_self];simp)]
  exact aFj f q m rs fun r hr=>h r (List.mem_cons_of_mem _ hr)
theorem yN(M:Mch S rk c)(hn:n < 2 ^ S.length):oU S c n=[n] ↔ LpN S c n:=by
 constructor
 ·intro h
  have hm:n∈oU S c n:=by rw [h];simp
  obtain ⟨r,hr,e,hq⟩:=aKk.mp hm
  have hrl:=cR hn hr
  refine ⟨(fun z=>by rw [z] at hr;rw [bU,Nat.zero_testBit] at hr;cases hr),fun a ha b hb=>?_,hq⟩
  have ha':=(aE2 (n:=n) M hrl).mp (by rw [e];exact bU.mp ha)
  have hb':=(aE2 (n:=n) M hrl).mp (by rw [e];exact bU.mp hb)
  exact Rch.trans ha'.2 hb'.1
 ·rintro ⟨h0,hs,hq⟩
  have all:∀ r∈aX n,gQ S c n r=n:=fun r hr=>Nat.eq_of_testBit_eq fun g=>by
   have e:(gQ S c n r).testBit g=true ↔ n.testBit g=true:=by
    rw [aE2 M (cR hn hr)]
    constructor
    ·exact fun z=>aE0 (al:=inN n) (bU.mp hr) z.1
    ·exact fun z=>⟨hs r hr g (bU.mpr z),hs g (bU.mpr z) r hr⟩
   cases h1:(gQ S c n r).testBit g with
   | true=>exact (e.mp h1).symm
   | false =>
    cases h2:n.testBit g with
    | true=>rw [e.mpr h2] at h1;cases h1
    | false=>rfl
  unfold oU
  cases h:aX n with
  | nil =>
   refine absurd ?_ h0
   have:=yM n
   rw [h] at this
   exact this.symm
  | cons r T =>
   rw [h] at all
   have er:=all r List.mem_cons_self
   rw [List.foldl_cons,if_pos ⟨by simp,by rw [er];exact hq⟩,er,List.nil_append]
   exact aFj (fun r=>gQ S c n r) (roundN S) n T fun r hr=>all r (List.mem_cons_of_mem _ hr)
end
end Pu
namespace Pu
section
variable{S:List (List Nat)}{rk:List Nat}{c n:Nat}
theorem aBc(M:Mch S rk c)(hn:n < 2 ^ S.length):pH [mD S rk c,.int n] = .ok (.bl (decide (oU S c n=[n]))):=by
 have e:=aN9 M hn
 obtain ⟨p1,p2,_⟩:=dY (oU S c n)
 have h:=aAb (oU S c n) [n]
 refine cO rfl ?_
 unfold yG
 have e1:[D.int (n:Int)]=nats [n]:=rfl
 simp [e,p1,p2]
 rw [e1,h]
end
end Pu
namespace Pu
def cvL(ns:List Int)(k:Nat):Int:=if k < ns.length then ns.getD k 0 else if ns.length=0 then 7919 * (k:Int) else ns.getD (k % ns.length) 0 / ((k:Int)+1)+7919 * (k:Int)
theorem aJ3{ns:List Int}{k:Nat}(h:k < ns.length):atI (ns.map D.int) (k:Int)=some (.int (ns.getD k 0)):=by
 rw [atI_nat (by simpa using h)]
 simp [List.getD_eq_getElem?_getD,List.getElem?_eq_getElem h]
theorem aBd:∀ ns:List Int,cV (ns.map D.int)=true/\dM (ns.map D.int)=0
 | []=>⟨rfl,by simp⟩
 | x :: ns=>by
  obtain ⟨h1,h2⟩:=aBd ns
  rw [List.map_cons]
  exact ⟨by simp [h1],by simp [h2]⟩
theorem aNa(ns:List Int):dU (ns.map D.int) []=decide (ns.length=0):=by
 cases ns<;>simp [dU]
theorem aNb(ns:List Int)(k:Nat)(hk:k<=100000):dC [.lst (ns.map D.int),.int k] = .ok (.int (cvL ns k)):=by
 have ln:e1 cU (aB 0) [some (.v (.lst (ns.map D.int))),some (.v (.int k))] = .ok (.int (ns.length:Nat)):=by
  show R.ok (D.int (((ns.map D.int).length:Nat):Int))=_
  rw [List.length_map]
 have m7:∀ i:Int,iG (.int 7919) (.int i) = .ok (.int (7919 * i)):=fun i=>aG (.inl (by decide))
 refine cO rfl ?_
 unfold cvL
 by_cases h:k < ns.length
 ·rw [if_pos h]
  exact vB (qH (aP rfl ln (by show R.ok (D.bl (decide ((k:Int) < (ns.length:Nat))))=_;rw [aUy h])) (iH (aP rfl rfl (gA (aJ3 h)))))
 ·rw [if_neg h]
  obtain ⟨p1,p2⟩:=aBd ns
  have t2:e2 dEq (aB 0) (nQ (bG)) [some (.v (.lst (ns.map D.int))),some (.v (.int k))] = .ok (.bl (decide (ns.length=0))):=aP rfl (oR rfl) (by
   rw [<-aNa]
   exact aG ⟨by show dM (ns.map D.int)+1<=64;rw [p2];decide,p1,rfl⟩)
  refine aR (jX (aP rfl ln (by show R.ok (D.bl (decide ((k:Int) < (ns.length:Nat))))=_;rw [aUz h])) rfl) ?_
  by_cases h0:ns.length=0
  ·rw [if_pos h0]
   exact vB (qH (jE t2 (decide_eq_true h0)) (iH (aP rfl rfl (m7 _))))
  ·rw [if_neg h0]
   have hm:k % ns.length < ns.length:=Nat.mod_lt _ (Nat.pos_of_ne_zero h0)
   have ec:((k % ns.length:Nat):Int)=(k:Int) % (ns.length:Nat):=by push_cast;rfl
   have e:=aJ3 hm
   rw [ec] at e
   exact aR (jX (jE t2 (decide_eq_false h0)) rfl) (iH (aP (aP (aP rfl (aP rfl ln (yI (by omega))) (gA e)) (aP rfl rfl rfl) (aDy ⟨by omega,by omega⟩)) (aP rfl rfl (m7 _)) rfl))
theorem tR(ns:List Int)(i:Int)(h:0<=i)(hi:i<=100000):dC [.lst (ns.map D.int),.int i] = .ok (.int (cvL ns i.toNat)):=by
 have:=aNb ns i.toNat (by omega)
 rwa [Int.toNat_of_nonneg h] at this
def rM(c k m:Int):Int :=
 let a:=(c % 2147483647+7919 * k) * 48271 % 2147483629
 let b:=a * a % 2147483647 * 69621 % 2147483587
 b * b % 2147483629 % m
theorem oA(c k:Int){m:Int}(h:0 < m):0<=rM c k m/\rM c k m < m:=⟨Int.emod_nonneg _ (by omega),Int.emod_lt_of_pos _ h⟩
theorem gB(c k m:Int)(h:0 < m):bL [.int c,.int k,.int m] = .ok (.int (rM c k m)):=by
 unfold bL uU rM
 have a0:∀ x:Int,0<=x % 2147483629:=fun x=>Int.emod_nonneg _ (by decide)
 have a1:∀ x:Int,x % 2147483629 < 2147483629:=fun x=>Int.emod_lt_of_pos _ (by decide)
 have b0:∀ x:Int,0<=x % 2147483587:=fun x=>Int.emod_nonneg _ (by decide)
 have b1:∀ x:Int,x % 2147483587 < 2147483587:=fun x=>Int.emod_lt_of_pos _ (by decide)
 generalize hA:(c % 2147483647+7919 * k) * 48271 % 2147483629=a
 have h1:=a0 ((c % 2147483647+7919 * k) * 48271)
 have h2:=a1 ((c % 2147483647+7919 * k) * 48271)
 rw [hA] at h1 h2
 generalize hB:a * a % 2147483647 * 69621 % 2147483587=b
 have h3:=b0 (a * a % 2147483647 * 69621)
 have h4:=b1 (a * a % 2147483647 * 69621)
 rw [hB] at h3 h4
 have g1 : -18446744073709551616 < a:=by omega
 have g2:a < 18446744073709551616:=by omega
 have g3 : -18446744073709551616 < b:=by omega
 have g4:b < 18446744073709551616:=by omega
 simp [hA,g1,g2,hB,g3,g4,h]
end Pu
namespace Pu
section
variable{ns:List Int}{cl f:Int}{n c:Nat}
def mst(ns:List Int)(mo cl f:Int)(n c:Nat)(S rk:List D)(x9 x10 x11 x12:Option Sl):PSt :=
 [some (.v (.lst (ns.map D.int))),some (.v (.int 0)),some (.v (.int mo)),some (.v (.int cl)),some (.v (.int n)),some (.v (.int c)),some (.v (.int f)),some (.o .l S),some (.o .l rk),x9,x10,x11,x12,none]
theorem aNc(r:List Nat)(k v:Nat):(nats r).set k (.int (v:Int))=nats (r.set k v):=by
 unfold nats
 rw [List.map_set]
theorem aQc(S:List (List Nat))(r:List Nat):stD (S++[r])=stD S++[.lst (nats r)]:=by unfold stD;simp
theorem aKl(rk:List Nat){v:Int}(h:0<=v):nats (rk++[v.toNat])=nats rk++[.int v]:=by
 unfold nats
 rw [List.map_append,List.map_singleton,Int.toNat_of_nonneg h]
theorem aQd{v f:Int}(h0:0<=v)(h7:v < 7):iG (.int v) (.int f) = .ok (.int (v * f)):=aG (.inl ⟨by omega,by omega⟩)
theorem aV3{i:Nat}{g e:Ex}{st:PSt}{d:D}{j:Int}{xs:List D}(he:e st = .ok d)(hg:g st = .ok (.int j))(hs:st[i]?=some (some (.o .l xs)))(h0:0<=j)(h1:j < xs.length):aMg i g e st = .ok (.nx (st.set i (some (.o .l (xs.set j.toNat d))))):=by
 have:ixN xs.length j=some j.toNat:=by
  unfold ixN
  rw [if_pos h0,if_pos h1]
 rw [aQ0,he,aU,hg,aU,hs]
 show R.bind (ofO (ixN xs.length j)) _=_
 rw [this]
 rfl
theorem aHc(mo:Int)(hf:0<=f)(hn:1<=n/\n<=8)(hc:1<=c/\c<=3)(S:List (List Nat))(rk:List Nat)(hS:S.length<=1000)(hrk:rk.length<=1000)(x:Nat)(hx:x < n)(x10 x11 x12:Option Sl) :
  ∃ r v y10 y11 y12,gM (mst ns mo cl f n c (stD S) (nats rk) (some (.v (.int x))) x10 x11 x12) = .ok (.nx (mst ns mo cl f n c (stD (S++[r])) (nats (rk++[v])) (some (.v (.int x))) y10 y11 y12))/\r.length=c/\∀ z∈r,z < n:=by
 have hcell:=tR ns (0+2+x) (by omega) (by omega)
 generalize cvL ns (0+2+(x:Int)).toNat=one at hcell
 have n0:(0:Int) < n:=by omega
 have c0:(0:Int) < c:=by omega
 obtain ⟨r0,e0,l0,b0⟩:=aCv (E:=pC) (st:=mst ns mo cl f n c (stD S) (nats rk) (some (.v (.int x))) (some (.v (.int one))) x11 x12) (j:=13) (v:=5) (n:=c) (m:=n) rfl (by omega) (fun k hk=>⟨rM one (11+k) n,bA rfl (gB _ _ _ n0),oA _ _ n0⟩)
 have m0:=gB one 10 7 (by decide)
 obtain ⟨m1,m2⟩:=oA one 10 (m:=7) (by decide)
 generalize rM one 10 7=rv at m0 m1 m2
 obtain ⟨r1,e1',l1,b1⟩:=aCv (E:=gK) (st:=mst ns mo cl f n c (stD S) (nats rk) (some (.v (.int x))) (some (.v (.int one))) (some (.o .l (nats r0))) (some (.v (.int rv)))) (j:=13) (v:=5) (n:=c) (m:=n) rfl (by omega) (fun k hk=>by
  have go:∀ w:Int,0 < w/\w < 1073741824->atI [D.int 1,.int 8,.int 64] (k:Int)=some (.int w)->∃ i,gK (((mst ns mo cl f n c (stD S) (nats rk) (some (.v (.int x))) (some (.v (.int one))) (some (.o .l (nats r0))) (some (.v (.int rv)))).set 13 none).set 13 (some (.v (.int k)))) = .ok (.int i)/\0<=i/\i < n:=fun w hw ha=>by
   refine ⟨one / w % n,aP (aP rfl (aP (oR rfl) rfl (?_:_=R.ok (D.int w))) (aDy hw)) rfl (yI n0),Int.emod_nonneg _ (by omega),Int.emod_lt_of_pos _ n0⟩
   show ofO (atI [D.int 1,.int 8,.int 64] (k:Int))=_
   rw [ha]
   rfl
  have h3:k=0\/k=1\/k=2:=by omega
  rcases h3 with rfl | rfl | rfl
  ·exact go 1 (by decide) rfl
  ·exact go 8 (by decide) rfl
  ·exact go 64 (by decide) rfl)
 have m6:=gB cl 6 2 (by decide)
 have m3:=gB cl 3 2 (by decide)
 have m8:=gB one 8 4 (by decide)
 have m9:=gB one 9 c c0
 obtain ⟨m91,m92⟩:=oA one 9 (m:=c) c0
 have up:∀ {r:List Nat} {v:Int} (b:Bd),0<=v->v < 7->r.length=c->(∀ z∈r,z < n)->b (mst ns mo cl f n c (stD S) (nats rk) (some (.v (.int x))) (some (.v (.int one))) (some (.o .l (nats r0))) (some (.v (.int rv)))) = .ok (.nx (mst ns mo cl f n c (stD S) (nats rk) (some (.v (.int x))) (some (.v (.int one))) (some (.o .l (nats r))) (some (.v (.int v))))) ->
   ∃ r v y10 y11 y12,(bN b (bN (sFz [11] (vW 7 (aB 11))) (vW 8 (e2 iG (aB 12) (aB 6))))) (mst ns mo cl f n c (stD S) (nats rk) (some (.v (.int x))) (some (.v (.int one))) (some (.o .l (nats r0))) (some (.v (.int rv)))) = .ok (.nx (mst ns mo cl f n c (stD (S++[r])) (nats (rk++[v])) (some (.v (.int x))) y10 y11 y12))/\r.length=c/\∀ z∈r,z < n:=fun {r v} b h0 h7 hl hr h=>by
  refine ⟨r,(v * f).toNat,some (.v (.int one)),some (.v (.lst (nats r))),some (.v (.int v)),aR h ?_,hl,hr⟩
  rw [aQc,aKl rk (Int.mul_nonneg h0 hf)]
  refine aR (st':=mst ns mo cl f n c (stD S++[.lst (nats r)]) (nats rk) (some (.v (.int x))) (some (.v (.int one))) (some (.v (.lst (nats r)))) (some (.v (.int v)))) ?_ ?_
  ·exact yJ (st:=mst ns mo cl f n c (stD S) (nats rk) (some (.v (.int x))) (some (.v (.int one))) (some (.v (.lst (nats r)))) (some (.v (.int v)))) rfl rfl (by rw [eF];omega)
  ·exact yJ (aP rfl rfl (aQd h0 h7)) rfl (by rw [bR];omega)
 have key:∃ r v y10 y11 y12,(bN (sIf (e2 dEq (aY bL (aC (aB 3) (aC (eC (.int 6)) (aC (eC (.int 2)) (bG))))) (eC (.int 0))) (bN (nU 11 (fK [13] (tgN 13) (oY (aB 5)) jL (gK))) (cX 12 (e2 oW (e2 zJ (aB 10) (eC (.int 512))) (eC (.int 7))))) (sIf (mF (e2 dEq (aY bL (aC (aB 3) (aC (eC (.int 3)) (aC (eC (.int 2)) (bG))))) (eC (.int 0))) (e2 dGt (aY bL (aC (aB 10) (aC (eC (.int 8)) (aC (eC (.int 4)) (bG))))) (eC (.int 0)))) (aMg 11 (aY bL (aC (aB 10) (aC (eC (.int 9)) (aC (aB 5) (bG))))) (e2 oW (e2 jT (aB 9) (eC (.int 1))) (aB 4))) (cW))) (bN (sFz [11] (vW 7 (aB 11))) (vW 8 (e2 iG (aB 12) (aB 6))))) (mst ns mo cl f n c (stD S) (nats rk) (some (.v (.int x))) (some (.v (.int one))) (some (.o .l (nats r0))) (some (.v (.int rv)))) = .ok (.nx (mst ns mo cl f n c (stD (S++[r])) (nats (rk++[v])) (some (.v (.int x))) y10 y11 y12))/\r.length=c/\∀ z∈r,z < n:=by
  have t6:=aP (op:=dEq) (f:=aY bL (aC (aB 3) (aC (eC (.int 6)) (aC (eC (.int 2)) (bG))))) (g:=eC (.int 0)) (st:=mst ns mo cl f n c (stD S) (nats rk) (some (.v (.int x))) (some (.v (.int one))) (some (.o .l (nats r0))) (some (.v (.int rv)))) (bA rfl m6) rfl (qI _ _)
  by_cases h6:rM cl 6 2=0
  ·rw [decide_eq_true h6] at t6
   refine up (r:=r1) (v:=one / 512 % 7) _ (Int.emod_nonneg _ (by decide)) (Int.emod_lt_of_pos _ (by decide)) l1 (fun z hz=>by have:=b1 z hz;omega) (qH t6 ?_)
   exact aR (st':=mst ns mo cl f n c (stD S) (nats rk) (some (.v (.int x))) (some (.v (.int one))) (some (.o .l (nats r1))) (some (.v (.int rv)))) (tK e1') (cA (aP (aP rfl rfl (aDy (by decide))) rfl (yI (by decide))))
  ·rw [decide_eq_false h6] at t6
   have t3:=lU (st:=mst ns mo cl f n c (stD S) (nats rk) (some (.v (.int x))) (some (.v (.int one))) (some (.o .l (nats r0))) (some (.v (.int rv)))) (aP (bA (r:=aC (aB 3) (aC (eC (.int 3)) (aC (eC (.int 2)) (bG)))) rfl m3) (rfl:eC (.int 0) _=_) (qI _ _)) (fun _=>aP (op:=dGt) (bA (r:=aC (aB 10) (aC (eC (.int 8)) (aC (eC (.int 4)) (bG)))) rfl m8) (rfl:eC (.int 0) _=_) rfl)
   cases h3:decide (rM cl 3 2=0)&&decide (0 < rM one 8 4) with
   | true =>
    rw [h3] at t3
    have hv:((x:Int)+1) % n=(((x+1) % n:Nat):Int):=by push_cast;rfl
    have hp:=aNc r0 (rM one 9 c).toNat ((x+1) % n)
    rw [<-hv] at hp
    refine up (r:=r0.set (rM one 9 c).toNat ((x+1) % n)) (v:=rv) _ m1 m2 (by rw [List.length_set];exact l0) (fun z hz=>by
     rcases List.mem_or_eq_of_mem_set hz with hz | rfl
     ·have:=b0 z hz;omega
     ·exact Nat.mod_lt _ (by omega)) (jX t6 (qH t3 ?_))
    rw [<-hp]
    exact aV3 (aP (aP rfl rfl rfl) rfl (yI n0)) (bA rfl m9) rfl m91 (by rw [bR,l0];exact m92)
   | false =>
    rw [h3] at t3
    exact up (r:=r0) (v:=rv) _ m1 m2 l0 (fun z hz=>by have:=b0 z hz;omega) (jX t6 (jX t3 rfl))
 obtain ⟨r,v,y10,y11,y12,hk,hl,hr⟩:=key
 refine ⟨r,v,y10,y11,y12,?_,hl,hr⟩
 exact aR (st':=mst ns mo cl f n c (stD S) (nats rk) (some (.v (.int x))) (some (.v (.int one))) x11 x12) (cA (bA rfl hcell)) (aR (st':=mst ns mo cl f n c (stD S) (nats rk) (some (.v (.int x))) (some (.v (.int one))) (some (.o .l (nats r0))) x12) (tK e0) (aR (st':=mst ns mo cl f n c (stD S) (nats rk) (some (.v (.int x))) (some (.v (.int one))) (some (.o .l (nats r0))) (some (.v (.int rv)))) (cA (bA rfl m0)) hk))
theorem aBe(mo:Int)(hf:0<=f)(hn:1<=n/\n<=8)(hc:1<=c/\c<=3):∀ (ks:List Nat) (S:List (List Nat)) (rk:List Nat) (x9 x10 x11 x12:Option Sl),(∀ x∈ks,x < n)->S.length+ks.length<=1000->rk.length=S.length->(∀ r∈S,r.length=c/\∀ z∈r,z < n) ->
  ∃ S' rk' y9 y10 y11 y12,forR (tgN 9) gM (ks.map fun (k:Nat)=>D.int (k:Int)) (mst ns mo cl f n c (stD S) (nats rk) x9 x10 x11 x12) = .ok (.nx (mst ns mo cl f n c (stD S') (nats rk') y9 y10 y11 y12))/\S'.length=S.length+ks.length/\rk'.length=S'.length/\∀ r∈S',r.length=c/\∀ z∈r,z < n
 | [],S,rk,x9,x10,x11,x12,_,_,he,hr=>⟨S,rk,x9,x10,x11,x12,rfl,rfl,he,hr⟩
 | x :: ks,S,rk,x9,x10,x11,x12,hk,hl,he,hr=>by
  rw [List.length_cons] at hl
  obtain ⟨r,v,y10,y11,y12,t,tl,tr⟩:=aHc (ns:=ns) (cl:=cl) mo hf hn hc S rk (by omega) (by omega) x (hk x List.mem_cons_self) x10 x11 x12
  obtain ⟨S',rk',z9,z10,z11,z12,e,h1,h2,h3⟩:=aBe mo hf hn hc ks (S++[r]) (rk++[v]) (some (.v (.int x))) y10 y11 y12 (fun x hx=>hk x (List.mem_cons_of_mem _ hx)) (by rw [List.length_append,List.length_singleton];omega) (by rw [List.length_append,List.length_append,List.length_singleton,List.length_singleton,he]) (fun r' hr'=>by
   rcases List.mem_append.mp hr' with h | h
   ·exact hr r' h
   ·rw [List.mem_singleton.mp h];exact ⟨tl,tr⟩)
  refine ⟨S',rk',z9,z10,z11,z12,?_,by rw [h1,List.length_append,List.length_singleton,List.length_cons];omega,h2,h3⟩
  rw [<-e,List.map_cons,jA]
  show (gM (mst ns mo cl f n c (stD S) (nats rk) (some (.v (.int x))) x10 x11 x12)).bind _=_
  rw [t]
  rfl
end
theorem aSy{xs:List D}{a:Int}(h:xs.length=4)(h0:0<=a)(h1:a < 4):∃ d∈xs,dIx (.lst xs) (.int a) = .ok d:=by
 obtain ⟨d,hd,e⟩:=aQ4 h0 (show a < xs.length by omega)
 exact ⟨d,hd,by show ofO (atI xs a)=_;rw [e];rfl⟩
theorem aNd(ns:List Int){mo:Int}(h1:1<=mo)(h8:mo<=8):∃ S rk c,gD [.lst (ns.map D.int),.int 0,.int mo] = .ok (.tup [.lst (stD S),.lst (nats rk)])/\Mch S rk c:=by
 have hc0:=tR ns 0 (by decide) (by decide)
 have hc1:=tR ns (0+1) (by decide) (by decide)
 generalize cvL ns (0:Int).toNat=cl at hc0
 generalize cvL ns (0+1:Int).toNat=cl1 at hc1
 let st (x3 x4 x5 x6 x7 x8:Option Sl):PSt:=[some (.v (.lst (ns.map D.int))),some (.v (.int 0)),some (.v (.int mo)),x3,x4,x5,x6,x7,x8,none,none,none,none,none]
 obtain ⟨w,hw,w1,w8⟩:∃ w:Int,e2 dIx (nQ (aC (eC (.int 4)) (aC (eC (.int 5)) (aC (eC (.int 5)) (aC (aB 2) bG))))) (aY bL (aC (aB 3) (aC (eC (.int 5)) (aC (eC (.int 4)) bG)))) (st (some (.v (.int cl))) none none none none none) = .ok (.int w)/\1<=w/\w<=8:=by
  obtain ⟨a1,a2⟩:=oA cl 5 (m:=4) (by decide)
  obtain ⟨d,hd,e⟩:=aSy (xs:=[.int 4,.int 5,.int 5,.int mo]) rfl a1 a2
  have:∃ w:Int,d = .int w/\1<=w/\w<=8:=by
   simp only [List.mem_cons,List.not_mem_nil,or_false] at hd
   rcases hd with rfl | rfl | rfl | rfl
   ·exact ⟨4,rfl,by decide,by decide⟩
   ·exact ⟨5,rfl,by decide,by decide⟩
   ·exact ⟨5,rfl,by decide,by decide⟩
   ·exact ⟨mo,rfl,h1,h8⟩
  obtain ⟨w,rfl,hw⟩:=this
  exact ⟨w,aP (oR rfl) (bA rfl (gB cl 5 4 (by decide))) e,hw⟩
 have m1:=gB cl 1 w (by omega)
 obtain ⟨m11,m12⟩:=oA cl 1 (m:=w) (by omega)
 have m2:=gB cl 2 3 (by decide)
 obtain ⟨m21,m22⟩:=oA cl 2 (m:=3) (by decide)
 obtain ⟨n,hn⟩:∃ n:Nat,1+rM cl 1 w=n:=⟨(1+rM cl 1 w).toNat,by omega⟩
 obtain ⟨c,hc⟩:∃ c:Nat,1+rM cl 2 3=c:=⟨(1+rM cl 2 3).toNat,by omega⟩
 obtain ⟨f,hf,f0⟩:∃ f:Int,e2 dIx (nQ (aC (eC (.int 1)) (aC (eC (.int 1)) (aC (eC (.int 1)) (aC (e2 jT (eC (.int 1)) (e2 iG (eC (.int 2)) (e2 oW (aY dC (aC (aB 0) (aC (e2 jT (aB 1) (eC (.int 1))) (bG)))) (e2 aMf (eC (.int 10)) (eC (.int 27)))))) (bG)))))) (aY bL (aC (aB 3) (aC (eC (.int 4)) (aC (eC (.int 4)) (bG))))) (st (some (.v (.int cl))) (some (.v (.int n))) (some (.v (.int c))) none none none) = .ok (.int f)/\0<=f:=by
  obtain ⟨a1,a2⟩:=oA cl 4 (m:=4) (by decide)
  have g0:0<=cl1 % 10 ^ 27:=Int.emod_nonneg _ (by decide)
  obtain ⟨d,hd,e⟩:=aSy (xs:=[.int 1,.int 1,.int 1,.int (1+2 * (cl1 % 10 ^ 27))]) rfl a1 a2
  have:∃ w:Int,d = .int w/\0<=w:=by
   simp only [List.mem_cons,List.not_mem_nil,or_false] at hd
   rcases hd with rfl | rfl | rfl | rfl
   ·exact ⟨1,rfl,by decide⟩
   ·exact ⟨1,rfl,by decide⟩
   ·exact ⟨1,rfl,by decide⟩
   ·exact ⟨_,rfl,by omega⟩
  obtain ⟨w,rfl,hw⟩:=this
  refine ⟨w,aP (oR (fC rfl (fC rfl (fC rfl (fC (aP rfl (aP rfl (aP (bA rfl hc1) (aP rfl rfl (?_:_=R.ok (D.int (10 ^ 27)))) (yI (j:=10 ^ 27) (by decide))) (?_:_=R.ok (D.int (2 * (cl1 % 10 ^ 27))))) rfl) rfl))))) (bA rfl (gB cl 4 4 (by decide))) e,hw⟩
  ·exact aG ⟨by decide,by decide,by decide⟩
  ·exact aG (.inl (by decide))
 obtain ⟨S,rk,y9,y10,y11,y12,e,k1,k2,k3⟩:=aBe (ns:=ns) (cl:=cl) (f:=f) (n:=n) (c:=c) mo f0 (by omega) (by omega) (List.range n) [] [] none none none none (fun x hx=>List.mem_range.mp hx) (by simp;omega) rfl (fun _ h=>nomatch h)
 rw [List.length_range,List.length_nil,Nat.zero_add] at k1
 refine ⟨S,rk,c,cO rfl ?_,⟨by omega,by omega,by omega,by omega,by rw [k1];exact k3,k2⟩⟩
 refine aR (st':=st (some (.v (.int cl))) none none none none none) (cA (bA rfl hc0)) ?_
 refine aR (st':=st (some (.v (.int cl))) (some (.v (.int n))) none none none none) (cA (aP rfl (bA (fC rfl (fC rfl (fC hw rfl))) m1) (by rw [<-hn];rfl))) ?_
 refine aR (st':=st (some (.v (.int cl))) (some (.v (.int n))) (some (.v (.int c))) none none none) (cA (aP rfl (bA rfl m2) (by rw [<-hc];rfl))) ?_
 refine aR (st':=st (some (.v (.int cl))) (some (.v (.int n))) (some (.v (.int c))) (some (.v (.int f))) none none) (cA hf) ?_
 refine aR (st':=st (some (.v (.int cl))) (some (.v (.int n))) (some (.v (.int c))) (some (.v (.int f))) (some (.o .l [])) none) (tK (oR rfl)) ?_
 refine aR (st':=mst ns mo cl f n c [] [] none none none none) (tK (oR rfl)) ?_
 refine aR (st':=mst ns mo cl f n c (stD S) (nats rk) y9 y10 y11 y12) (iI (aAz rfl (by omega)) e) ?_
 exact iH (aG (aM (by show 2<=_;decide)))
end Pu
namespace Pu
theorem aNe{a b n r:Nat}{st:PSt}(ha:st[a]?=some (some (.v (.int (n:Int)))))(hb:st[b]?=some (some (.v (.int (r:Int))))):(e2 dEq (e2 pB (e2 pA (aB a) (aB b)) (eC (.int 1))) (eC (.int 1))) st = .ok (.bl (n.testBit r)):=by
 have ht:=aB7 n r
 have h0:0<=(n:Int) / 2 ^ r:=Int.ediv_nonneg (by omega) (Int.pow_nonneg (by decide))
 have t1:e2 pA (aB a) (aB b) st = .ok (.int ((n:Int) / 2 ^ r)):=by simp [ha,hb]
 have t2:e2 pB (e2 pA (aB a) (aB b)) (eC (.int 1)) st = .ok (.int ((if n.testBit r=true then 1 else 0:Nat):Int)):=by
  rw [zK,t1,aU,aF7,aU,aB6,aG ⟨h0,by decide⟩,ht]
 rw [zK,t2]
 cases n.testBit r<;>simp
section
variable{S:List (List Nat)}{rk:List Nat}{s c p j n:Nat}{acc:List (Nat × List Nat)}
def ast(S:List (List Nat))(n s:Nat)(acc:List (Nat × List Nat))(p:Nat)(x5:Option Sl):PSt :=
 [some (.v (.lst (stD S))),some (.v (.int n)),some (.v (.int s)),some (.o .l (kD acc)),some (.v (.int p)),x5]
theorem aHd(M:Mch S rk c)(b:BM S s c (inN n) p j acc)(g:Nat)(w:List Nat):jM (ast S n s acc p (some (.v (.int g)))) = .ok (.nx (ast S n s (bst (inN n) acc g w) p (some (.v (.int g))))):=by
 have n8:=M.most
 have hlen:=b.len
 obtain ⟨p1,p2,_⟩:=dY (acc.map (·.1))
 have t2:e2 eZ (aB 5) (fX 3) (ast S n s acc p (some (.v (.int g)))) = .ok (.bl (!decide (g∈acc.map (·.1)))):=aP rfl rfl (by
  show eZ (.int g) (.lst (kD acc))=_
  rw [<-tM,aIv]
  exact aG ⟨by rw [p2];decide,rfl,p1⟩)
 have t:=lU (aNe (a:=1) (b:=5) (n:=n) (r:=g) (st:=ast S n s acc p (some (.v (.int g)))) rfl rfl) fun _=>t2
 unfold bst
 by_cases h:inN n g=true/\g ∉ acc.map (·.1)
 ·rw [if_pos h]
  rw [show n.testBit g=true from h.1,decide_eq_false h.2] at t
  refine qH t ?_
  rw [yJ (xs:=kD acc) (d := .int g) rfl rfl (by rw [aB3];omega),<-aH7 acc g w]
  rfl
 ·rw [if_neg h]
  refine jX (jE t ?_) rfl
  cases h1:n.testBit g with
  | false=>rfl
  | true=>rw [decide_eq_true (Classical.byContradiction fun z=>h ⟨h1,z⟩)];rfl
theorem zQ(M:Mch S rk c):∀ (m j:Nat) (acc:List (Nat × List Nat)) (x5:Option Sl) (x:Nat × List Nat),j+m=c->BM S s c (inN n) p j acc->acc[p]?=some x ->
  ∃ acc' y5,forR (tgN 5) jM ((List.range' j m).map fun l=>D.int (stp S x.1 l:Nat)) (ast S n s acc p x5) = .ok (.nx (ast S n s acc' p y5))/\BM S s c (inN n) p c acc'/\acc'[p]?=some x
 | 0,j,acc,x5,x,hj,b,hx=>⟨acc,x5,rfl,by rw [show c=j by omega] at b ⊢; exact b,hx⟩
 | m+1,j,acc,x5,x,hj,b,hx=>by
  obtain ⟨acc',y5,e,b',hx'⟩:=zQ M m (j+1) _ (some (.v (.int (stp S x.1 j)))) x (by omega) (b.turn M hx (by omega)) (aN1 hx)
  refine ⟨acc',y5,?_,b',hx'⟩
  rw [List.range'_succ,List.map_cons,jA]
  show (jM (ast S n s acc p (some (.v (.int (stp S x.1 j)))))).bind _=_
  rw [aHd M b _ (x.2++[97+j])]
  exact e
theorem aNf(M:Mch S rk c){h:Nat}(hh:h < S.length):nats S[h]=(List.range' 0 c).map fun l=>D.int (stp S h l:Nat):=by
 have hr:=(M.row S[h] (List.getElem_mem hh)).1
 have e:∀ l,stp S h l=S[h].getD l 0:=fun l=>by simp [stp,List.getD_eq_getElem?_getD,List.getElem?_eq_getElem hh]
 have h1:=M.c1
 have h3:=M.c3
 simp only [e]
 generalize S[h]=r at hr
 match r,hr with
 | [],hr=>simp at hr;omega
 | [a],hr=>subst hr;rfl
 | [a,b],hr=>subst hr;rfl
 | [a,b,d],hr=>subst hr;rfl
 | _ :: _ :: _ :: _ :: r,hr=>simp at hr;omega
theorem zR(M:Mch S rk c):∀ (m p:Nat) (acc:List (Nat × List Nat)) (x5:Option Sl) (f:Nat),S.length+1<=m+p->m<=f->BM S s c (inN n) p 0 acc->p<=acc.length ->
  ∃ acc' y5,iU mW rZ f (ast S n s acc p x5) = .ok (.nx (ast S n s acc' acc'.length y5))/\BM S s c (inN n) acc'.length 0 acc'
 | 0,p,acc,x5,f,hm,hf,b,hp=>by have:=b.len;omega
 | m+1,p,acc,x5,f,hm,hf,b,hp=>by
  obtain ⟨f,rfl⟩:∃ g,f=g+1:=⟨f - 1,by omega⟩
  have test:mW (ast S n s acc p x5) = .ok (.bl (decide ((p:Int) < ((kD acc).length:Nat)))):=aP rfl rfl rfl
  rw [aB3] at test
  by_cases h:p < acc.length
  ·have hx:acc[p]?=some acc[p]:=List.getElem?_eq_getElem h
   generalize acc[p]=x at hx
   obtain ⟨l1,_,_⟩:=b.lt x (List.mem_of_getElem? hx)
   obtain ⟨acc',y5,e,b',hx'⟩:=zQ M c 0 acc x5 x (by omega) b hx
   have hp':p < acc'.length:=(List.getElem?_eq_some_iff.mp hx').1
   obtain ⟨acc2,z5,ew,b3⟩:=zR M m (p+1) acc' y5 f (by omega) (by omega) b'.next (by omega)
   refine ⟨acc2,z5,aB0 (jE test (aUy h)) (st':=ast S n s acc' (p+1) y5) (aR (st':=ast S n s acc' p y5) (iI (xs:=nats S[x.1]) ?_ ?_) (cA rfl)) ew,b3⟩
   ·show ((e2 dIx (aB 0) (e2 dIx (fX 3) (aB 4))) (ast S n s acc p x5)).bind _=_
    rw [aP (rfl:aB 0 (ast S n s acc p x5)=_) (aP rfl rfl (gA (aSw hx))) (gA (qK l1))]
    rfl
   ·rw [aNf M l1]
    exact e
  ·have:p=acc.length:=by omega
   subst this
   exact ⟨acc,x5,yK (jE test (aUz h)),b⟩
theorem aNg(M:Mch S rk c){s:Nat}(hs:s < S.length)(n:Nat):∃ l:List Nat,gO [.lst (stD S),.int n,.int s] = .ok (.lst (nats l))/\l.Nodup/\∀ g,g∈l ↔ Rch S c (inN n) s g:=by
 have n8:=M.most
 obtain ⟨acc,x5,e,b⟩:=zR (n:=n) M (S.length+1) 0 [(s,[])] none 100000 (by omega) (by omega) (BM.start hs) (by simp)
 refine ⟨acc.map (·.1),cO rfl ?_,b.nd,fun g=>b.whole⟩
 unfold qC
 refine aR (st':=[some (.v (.lst (stD S))),some (.v (.int n)),some (.v (.int s)),some (.o .l (kD [(s,[])])),none,none]) (by simp [kD,aM]) ?_
 refine aR (st':=ast S n s [(s,[])] 0 none) (by simp [ast]) ?_
 refine aR (st':=ast S n s acc acc.length x5) (by rw [yC];exact e) ?_
 simp [ast,ofK,aIv]
theorem sub_len{l m:List Nat}(h1:l.Nodup)(hs:∀ x∈l,x∈m)(he:l.length=m.length){x:Nat}(hx:x∈m):x∈l:=by
 refine Classical.byContradiction fun hn=>?_
 have:(x :: l).length<=m.length:=List.Nodup.length_le_of_subset (List.nodup_cons.mpr ⟨hn,h1⟩) fun y hy=>by
  rcases List.mem_cons.mp hy with rfl | hy
  ·exact hx
  ·exact hs y hy
 rw [List.length_cons] at this
 omega
theorem aKm(M:Mch S rk c){r:Nat}{T:List Nat}(hr:r < S.length){x0:D}{e:Ex}{st:PSt}(hm:aX n=r :: T)(hv:st[2]?=some (some (.v (.lst (nats (r :: T))))))(he:e st = .ok (.lst (stD S))):(eOr (e2 dGt (e1 cU (aB 2)) (eC (.int 1))) (mF (e2 dEq (e1 cU (aB 2)) (eC (.int 1))) (e2 dIn (e2 dIx (aB 2) (eC (.int 0))) (e2 dIx e (e2 dIx (aB 2) (eC (.int 0))))))) st = .ok (.bl (roundN S n)):=by
 have v2:aB 2 st = .ok (.lst (nats (r :: T))):=by unfold aB;rw [hv]
 have ln:e1 cU (aB 2) st = .ok (.int ((T.length+1:Nat):Int)):=by
  show (aB 2 st).bind cU=_
  rw [v2]
  show R.ok (D.int (((nats (r :: T)).length:Nat):Int))=_
  rw [bR]
  rfl
 have v0:e2 dIx (aB 2) (eC (.int 0)) st = .ok (.int r):=aP v2 rfl (gA (atI_nat (i:=0) (by rw [bR];exact Nat.succ_pos _)))
 have hg:S.getD r []=S[r]:=by rw [List.getD_eq_getElem?_getD,List.getElem?_eq_getElem hr];rfl
 obtain ⟨p1,p2,_⟩:=dY S[r]
 have i0:e2 dIn (e2 dIx (aB 2) (eC (.int 0))) (e2 dIx e (e2 dIx (aB 2) (eC (.int 0)))) st = .ok (.bl (decide (r∈S[r]))):=aP v0 (aP he v0 (gA (qK hr))) (by rw [<-tM];exact aG ⟨by rw [p2];exact Nat.zero_le 60,rfl,p1⟩)
 have t:=aAy (aP ln (rfl:eC (.int 1) st=_) (rfl:dGt _ _=_)) fun _=>lU (aP ln (rfl:eC (.int 1) st=_) (qI _ _)) fun _=>i0
 refine jE t ?_
 unfold roundN
 rw [hm]
 show (decide ((1:Int) < ((T.length+1:Nat):Int))||(decide (((T.length+1:Nat):Int)=1)&&decide (r∈S[r])))=(decide (1 < T.length+1)||decide (r∈S.getD r []))
 rw [hg]
 by_cases h:1 < T.length+1
 ·rw [decide_eq_true h,decide_eq_true (by omega:(1:Int) < ((T.length+1:Nat):Int))];rfl
 ·rw [decide_eq_false h,decide_eq_false (by omega:¬ (1:Int) < ((T.length+1:Nat):Int)),decide_eq_true (by omega:((T.length+1:Nat):Int)=1)];rfl
open Classical in
theorem aHe(M:Mch S rk c)(hn:n < 2 ^ S.length):jN [.lst (stD S),.int n] = .ok (.bl (decide (LpN S c n))):=by
 have n8:=M.most
 have ce:=lN (tg:=tgN 3) (C:=pF) (E:=pD) (st:=[some (.v (.lst (stD S))),some (.v (.int n)),none,none]) (q:=fun r=>n.testBit r) (G:=fun r => .int r) (List.range S.length) (fun r _=>⟨_,rfl,aNe (a:=1) (b:=3) rfl rfl,rfl⟩)
 rw [aB8 hn] at ce
 have hi:oY (e1 cU (aB 0)) [some (.v (.lst (stD S))),some (.v (.int n)),none,none] = .ok (nats (List.range S.length)):=aAz (by rw [<-eF S];rfl) (by omega)
 refine cO rfl (aR (st':=[some (.v (.lst (stD S))),some (.v (.int n)),some (.v (.lst (nats (aX n)))),none]) (cA (wL hi (by rw [bR,List.length_range];omega) ce)) ?_)
 obtain ⟨x',look⟩:=aAx (L:=pG) (j:=3) (fun x=>[some (.v (.lst (stD S))),some (.v (.int n)),some (.v (.lst (nats (aX n)))),x]) (fun _ _=>rfl) (fun r => !decide (∀ b∈aX n,Rch S c (inN n) r b)) (fun _ => .bl false) (aX n) (fun r hr=>by
  have hrl:=cR hn hr
  obtain ⟨l,e,nd,hl⟩:=aNg M hrl n
  have hsub:∀ x∈l,x∈aX n:=fun x hx=>bU.mpr (aE0 (al:=inN n) (bU.mp hr) ((hl x).mp hx))
  have t:=aP (op:=dNe) (f:=e1 cU (aY gO (aC (aB 0) (aC (aB 1) (aC (aB 3) (bG)))))) (g:=e1 cU (aB 2)) (st:=[some (.v (.lst (stD S))),some (.v (.int n)),some (.v (.lst (nats (aX n)))),some (.v (.int r))]) (x := .int (l.length:Nat)) (y := .int ((aX n).length:Nat)) (by rw [<-bR l];show R.bind (gO [.lst (stD S),.int n,.int r]) _=_;rw [e];rfl) (by rw [<-bR (aX n)];rfl) (aH5 _ _)
  by_cases h:∀ b∈aX n,Rch S c (inN n) r b
  ·have he:l.length=(aX n).length:=Nat.le_antisymm (List.Nodup.length_le_of_subset nd hsub) (List.Nodup.length_le_of_subset (dI n) fun x hx=>(hl x).mpr (h x hx))
   rw [if_neg (by rw [decide_eq_true h];decide)]
   exact jX (jE t (by rw [decide_eq_true (by omega)];rfl)) rfl
  ·have he:¬ l.length=(aX n).length:=fun z=>h fun b hb=>(hl b).mp (sub_len nd hsub z hb)
   rw [if_pos (by rw [decide_eq_false h];rfl)]
   exact qH (jE t (by rw [decide_eq_false (by omega)];rfl)) rfl) none
 cases hf:(aX n).find? (fun r => !decide (∀ b∈aX n,Rch S c (inN n) r b)) with
 | some k =>
  rw [hf] at look
  have h1:=List.find?_some hf
  have h2:=List.mem_of_find?_eq_some hf
  have hno:¬ LpN S c n:=fun z=>by
   rw [decide_eq_true (z.2.1 k h2)] at h1
   cases h1
  rw [decide_eq_false hno]
  exact vB (iI rfl look)
 | none =>
  rw [hf] at look
  have hall:∀ a∈aX n,∀ b∈aX n,Rch S c (inN n) a b:=fun a ha=>by
   have:=List.find?_eq_none.mp hf a ha
   exact Classical.byContradiction fun z=>this (by rw [decide_eq_false z];rfl)
  refine aR (iI rfl look) (iH ?_)
  cases hm:aX n with
  | nil =>
   have h0:n=0:=by
    have:=yM n
    rw [hm] at this
    exact this.symm
   rw [decide_eq_false fun z=>z.1 h0]
   exact aAy (p:=false) (q:=false) (aP rfl rfl rfl) fun _=>lU (p:=false) (q:=false) (aP rfl rfl (qI 0 1)) fun h=>nomatch h
  | cons r T =>
   have h0:n≠0:=fun z=>by
    have:r∈aX n:=by rw [hm];exact List.mem_cons_self
    rw [z,bU,Nat.zero_testBit] at this
    cases this
   have hrl:r < S.length:=cR hn (by rw [hm];exact List.mem_cons_self)
   have hd:decide (LpN S c n)=roundN S n:=by
    by_cases h:roundN S n=true
    ·rw [h,decide_eq_true ⟨h0,hall,h⟩]
    ·rw [decide_eq_false fun z=>h z.2.2];simpa using h
   rw [hd]
   exact aKm M (x0 := .non) hrl hm rfl rfl
open Classical in
noncomputable def yO(S:List (List Nat))(c:Nat):List Nat:=(List.range' 1 (2 ^ S.length - 1)).filter fun m=>decide (LpN S c m)
open Classical in
theorem aD3{m:Nat}:m∈yO S c ↔ m < 2 ^ S.length/\LpN S c m:=by
 unfold yO
 rw [List.mem_filter,List.mem_range'_1,decide_eq_true_eq]
 constructor
 ·rintro ⟨h1,h2⟩
  exact ⟨by omega,h2⟩
 ·rintro ⟨h1,h2⟩
  have:=h2.1
  exact ⟨by omega,h2⟩
theorem aHf(n:Nat):fV 1 n=nats (List.range' 1 n):=by
 unfold fV nats
 rw [List.range'_eq_map_range,List.map_map]
 refine List.map_congr_left fun k _=>?_
 show D.int (1+(k:Int))=D.int ((1+k:Nat):Int)
 push_cast
 rfl
theorem aJ4(M:Mch S rk c):2 ^ S.length<=256:=by
 have:=M.most
 have:2 ^ S.length<=2 ^ 8:=Nat.pow_le_pow_right (by decide) this
 omega
theorem aKn(M:Mch S rk c):mG [.lst (stD S)] = .ok (.lst (nats (yO S c))):=by
 have n8:=M.most
 have n2:=aJ4 M
 have n1:1<=2 ^ S.length:=Nat.one_le_two_pow
 have ce:=lN (tg:=tgN 1) (C:=mY) (E:=mX) (st:=[some (.v (.lst (stD S))),none]) (q:=fun m=>@decide (LpN S c m) (Classical.propDecidable _)) (G:=fun r => .int r) (List.range' 1 (2 ^ S.length - 1)) (fun m hm=>⟨_,rfl,by
  have hlt:m < 2 ^ S.length:=by have:=(List.mem_range'_1.mp hm).2;omega
  have:=aHe M hlt
  simp [mY,this],by simp [mX]⟩)
 refine cO rfl ?_
 unfold qD
 show dH _ [some (.v (.lst (stD S))),none]=_
 have hi:aPv (eC (.int 1)) (e2 uT (eC (.int 1)) (e1 cU (aB 0))) [some (.v (.lst (stD S))),none] = .ok (nats (List.range' 1 (2 ^ S.length - 1))):=by
  rw [<-aHf]
  have g1:(S.length:Int)<=1000000:=by omega
  have g2:(2:Int) ^ S.length=((2 ^ S.length:Nat):Int):=by push_cast;rfl
  have g3:(2:Int) ^ S.length<=(big:Int):=by rw [g2];exact aK (by omega)
  have g4 : -(big:Int)<=(2:Int) ^ S.length:=by rw [g2];exact aL (by omega)
  have g5 : -(big:Int)<=1:=aL (by decide)
  have g6:(1:Int)<=(big:Int):=aK (by decide)
  have g7:((2:Int) ^ S.length - 1).toNat=2 ^ S.length - 1:=by rw [g2];omega
  simp [eF,g1,g3,g4,g5,g6,g7]
 rw [pZ,aAr,hi]
 simp only [aU,bR,List.length_range']
 rw [aG (aM (by omega)),show clr [1] [some (Sl.v (.lst (stD S))),none]=[some (.v (.lst (stD S))),none] from rfl,ce]
 rfl
end
end Pu
namespace Pu
section
variable{S:List (List Nat)}{rk:List Nat}{c n:Nat}
end
end Pu
namespace Pu
section
variable{S:List (List Nat)}{rk:List Nat}{c n s g:Nat}{al:Nat->Bool}{acc:List (Nat × List Nat)}
def Pat(S:List (List Nat))(c:Nat)(al:Nat->Bool):List Nat->Nat->Nat->Prop
 | [],s,g=>s=g
 | ch :: u,s,g=>∃ l,l < c/\ch=97+l/\al (stp S s l)=true/\Pat S c al u (stp S s l) g
theorem tU:∀ {u v:List Nat} {s r g:Nat},Pat S c al u s r->Pat S c al v r g->Pat S c al (u++v) s g
 | [],v,s,r,g,h1,h2=>by
  have e:s=r:=h1
  rw [e]
  exact h2
 | ch :: u,v,s,r,g,h1,h2=>by
  obtain ⟨l,a,b,d,e⟩:=h1
  exact ⟨l,a,b,d,tU e h2⟩
theorem aJ5:∀ {u v:List Nat} {s g:Nat},Pat S c al (u++v) s g->∃ r,Pat S c al u s r/\Pat S c al v r g
 | [],v,s,g,h=>⟨s,rfl,h⟩
 | ch :: u,v,s,g,h=>by
  obtain ⟨l,a,b,d,e⟩:=h
  obtain ⟨r,h1,h2⟩:=aJ5 e
  exact ⟨r,⟨l,a,b,d,h1⟩,h2⟩
theorem aKo{u v w:List Nat}(h1:slB u v)(h2:slB v w):slB u w:=by
 rcases h1 with h1 | ⟨h1,h3⟩
 ·rcases h2 with h2 | ⟨h2,_⟩
  ·exact .inl (by omega)
  ·exact .inl (by omega)
 ·rcases h2 with h2 | ⟨h2,h4⟩
  ·exact .inl (by omega)
  ·exact .inr ⟨by omega,List.lt_trans h3 h4⟩
theorem aQe{u v:List Nat}(h1:slB u v)(h2:slB v u):False:=by
 rcases h1 with h1 | ⟨h1,h3⟩
 ·rcases h2 with h2 | ⟨h2,_⟩ <;> omega
 ·rcases h2 with h2 | ⟨h2,h4⟩
  ·omega
  ·exact List.lt_irrefl u (List.lt_trans h3 h4)
theorem snoc_ind{P:List Nat->Prop}(h0:P [])(h1:∀ u a,P u->P (u++[a])):∀ (k:Nat) (u:List Nat),u.length=k->P u
 | 0,u,h=>by rw [List.length_eq_zero_iff.mp h];exact h0
 | k+1,u,h=>by
  rcases List.eq_nil_or_concat u with e | ⟨v,a,e⟩
  ·rw [e] at h;simp at h
  ·rw [List.concat_eq_append] at e
   rw [e] at h ⊢
   exact h1 v a (snoc_ind h0 h1 k v (by simpa using h))
theorem BM.least(b:BM S s c al acc.length 0 acc):∀ (u:List Nat) (g:Nat),Pat S c al u s g->∃ y∈acc,y.1=g/\(y.2=u\/slB y.2 u):=fun u =>
 snoc_ind (P:=fun u=>∀ g,Pat S c al u s g->∃ y∈acc,y.1=g/\(y.2=u\/slB y.2 u)) (fun g h=>⟨(s,[]),List.mem_of_getElem? b.hd,h,.inl rfl⟩) (fun u a ih g h=>by
  obtain ⟨r,h1,l,hl,ea,ha,e⟩:=aJ5 h
  obtain ⟨y,hy,rfl,hq⟩:=ih r h1
  have e':stp S y.1 l=g:=e
  obtain ⟨i,hi⟩:=List.mem_iff_getElem?.mp hy
  obtain ⟨z,hz,ez,hw⟩:=b.cls i y l hi hl (.inl (List.getElem?_eq_some_iff.mp hi).1) ha
  refine ⟨z,hz,ez.trans e',?_⟩
  rw [ea]
  rcases hq with rfl | hq
  ·exact hw
  ·have:=aIu (97+l) (97+l) hq
   rcases hw with hw | hw
   ·rw [hw];exact .inr this
   ·exact .inr (aKo hw this)) u.length u rfl
theorem BM.path(b:BM S s c al acc.length 0 acc):∀ (k:Nat) (x:Nat × List Nat),acc[k]?=some x->Pat S c al x.2 s x.1:=by
 intro k
 induction k using Nat.strongRecOn with
 | ind k ih =>
  intro x hx
  by_cases hk:k=0
  ·subst hk
   rw [b.hd] at hx
   cases hx
   exact rfl
  ·obtain ⟨h0,q,y,ch,h1,h2,_⟩:=b.par k x hx (by omega)
   have hl:x.2.length=y.2.length+1:=by rw [h2];simp
   have hq:q < k:=by
    rcases Nat.lt_trichotomy q k with h | h | h
    ·exact h
    ·subst h
     rw [hx] at h1
     cases h1
     omega
    ·rcases b.ord k q x y hx h1 h with h3 | ⟨h3,_⟩ <;> omega
   obtain ⟨_,x2,x3⟩:=b.lt x (List.mem_of_getElem? hx)
   obtain ⟨_,y2,_⟩:=b.lt y (List.mem_of_getElem? h1)
   have hch:=x3 ch (by rw [h2];simp)
   have e:x.1=stp S y.1 (ch - 97):=by rw [<-x2,h2,tQ,y2]
   rw [h2]
   exact tU (ih q hq y h1) ⟨ch - 97,by omega,by omega,by rw [<-e];exact h0,e.symm⟩
def Lst(S:List (List Nat))(c:Nat)(al:Nat->Bool)(s g:Nat)(u:List Nat):Prop:=Pat S c al u s g/\∀ v,Pat S c al v s g->u=v\/slB u v
theorem aQf{u v:List Nat}(h1:Lst S c al s g u)(h2:Lst S c al s g v):u=v:=by
 rcases h1.2 v h2.1 with h | h
 ·exact h
 ·rcases h2.2 u h1.1 with h' | h'
  ·exact h'.symm
  ·exact (aQe h h').elim
theorem aNh(n:Nat):(fun g=>decide (g∈aX n))=fun g=>n.testBit g:=funext fun g=>by
 cases h:n.testBit g with
 | true=>exact decide_eq_true (bU.mpr h)
 | false=>exact decide_eq_false fun z=>by rw [bU.mp z] at h;cases h
theorem aHg(M:Mch S rk c)(hn:n < 2 ^ S.length)(hs:s < S.length)(g:Nat):(fP [mD S rk c,.int n,.int s,.int g] = .ok .non/\¬ (n.testBit s=true/\∃ u,Pat S c (fun g=>n.testBit g) u s g))\/∃ u,fP [mD S rk c,.int n,.int s,.int g] = .ok (.str u)/\n.testBit s=true/\Lst S c (fun g=>n.testBit g) s g u/\Ltr c u/\u.length+1<=(aX n).length:=by
 have n8:=M.most
 cases hb:n.testBit s with
 | false=>exact .inl ⟨cO rfl (vB (qH (vC (p:=false) (bA rfl (by rw [vG,hb]))) (iH rfl))),fun z=>nomatch z.1⟩
 | true =>
  obtain ⟨acc,e,b⟩:=aIw M hs (aX n)
  rw [aNh] at b
  have hr:∀ {d:D},aCb (aY jD (aC (e1 (xZ "Machine" "steps") (aB 0)) (aC (aB 2) (aC (aY cC (aC (aB 1) (bG))) (bG))))) (aB 3) (eC .non) [some (.v (mD S rk c)),some (.v (.int n)),some (.v (.int s)),some (.v (.int g))] = .ok d->fP [mD S rk c,.int n,.int s,.int g] = .ok d:=fun hd=>cO rfl (dX (jX (vC (p:=true) (bA rfl (by rw [vG,hb]))) rfl) (iH hd))
  have hg:∀ {r:R D},vZ (.dct false (kD acc) (wD acc)) (.int g) .non=r->aCb (aY jD (aC (e1 (xZ "Machine" "steps") (aB 0)) (aC (aB 2) (aC (aY cC (aC (aB 1) (bG))) (bG))))) (aB 3) (eC .non) [some (.v (mD S rk c)),some (.v (.int n)),some (.v (.int s)),some (.v (.int g))]=r:=fun h=>by
   unfold aCb
   rw [bA (fC (show xZ "Machine" "steps" (mD S rk c)=_ from tL) (fC rfl (fC (bA rfl (pK hn (by omega))) rfl))) e]
   exact h
  have hh:=aH8 g acc
  by_cases hm:g∈acc.map (·.1)
  ·rw [decide_eq_true hm] at hh
   obtain ⟨x,hx,rfl⟩:=List.mem_map.mp hm
   obtain ⟨k,hk⟩:=List.mem_iff_getElem?.mp hx
   have hkl:=(List.getElem?_eq_some_iff.mp hk).1
   refine .inr ⟨x.2,hr (hg ?_),rfl,⟨b.path k x hk,fun v hv=>?_⟩,(b.lt x hx).2.2,?_⟩
   ·show aH (keyOk false (.int x.1)=true) _=_
    rw [aG (c:=keyOk false (.int x.1)=true) rfl,if_pos hh,aN2 b.nd hx]
    rfl
   ·obtain ⟨y,hy,ey,hq⟩:=b.least v x.1 hv
    obtain ⟨j,hj⟩:=List.mem_iff_getElem?.mp hy
    have:y=x:=by
     have hkj:j=k:=by
      have h1:(acc.map (·.1))[j]?=some x.1:=by rw [List.getElem?_map,hj,<-ey];rfl
      have h2:(acc.map (·.1))[k]?=some x.1:=by rw [List.getElem?_map,hk];rfl
      obtain ⟨a1,b1⟩:=List.getElem?_eq_some_iff.mp h1
      obtain ⟨a2,b2⟩:=List.getElem?_eq_some_iff.mp h2
      exact (List.getElem_inj b.nd).mp (b1.trans b2.symm)
     rw [hkj,hk] at hj
     exact (Option.some.inj hj).symm
    rw [this] at hq
    exact hq
   ·have h1:=b.wlen k x hk
    have h2:(acc.map (·.1)).length<=(aX n).length:=List.Nodup.length_le_of_subset b.nd fun y hy=>by
     obtain ⟨z,hz,rfl⟩:=List.mem_map.mp hy
     obtain ⟨j,hj⟩:=List.mem_iff_getElem?.mp hz
     by_cases hj0:j=0
     ·subst hj0
      rw [b.hd] at hj
      cases hj
      exact bU.mpr hb
     ·exact bU.mpr (b.par j z hj (by omega)).1
    rw [List.length_map] at h2
    omega
  ·rw [decide_eq_false hm] at hh
   refine .inl ⟨hr (hg ?_),fun ⟨_,u,hu⟩=>?_⟩
   ·show aH (keyOk false (.int g)=true) _=_
    rw [aG (c:=keyOk false (.int g)=true) rfl,if_neg (by rw [hh];decide)]
   ·obtain ⟨y,hy,ey,_⟩:=b.least u g hu
    exact hm (List.mem_map.mpr ⟨y,hy,ey⟩)
end
end Pu
namespace Pu
theorem aV4(l:List Nat):dNe (.lst (nats l)) (.lst []) = .ok (.bl (!decide (l=[]))):=by
 obtain ⟨p1,p2,_⟩:=dY l
 have:=aAb l []
 rw [show nats []=[] from rfl] at this
 simp [p1,p2,this]
section
variable{S:List (List Nat)}{rk:List Nat}{c n s g r t:Nat}{al:Nat->Bool}
def Nr(S:List (List Nat))(c:Nat)(al:Nat->Bool)(g t r:Nat):Prop:=∃ u,Pat S c al u r g/\u.length<=t
theorem aAc{t t':Nat}(h:t<=t')(x:Nr S c al g t r):Nr S c al g t' r:=let ⟨u,a,b⟩:=x;⟨u,a,Nat.le_trans b h⟩
theorem aAd:Nr S c al g 0 r ↔ r=g:=by
 constructor
 ·rintro ⟨u,h1,h2⟩
  have:u=[]:=List.length_eq_zero_iff.mp (by omega)
  subst this
  exact h1
 ·rintro rfl
  exact ⟨[],rfl,Nat.le_refl _⟩
open Classical in
noncomputable def iZ(S:List (List Nat))(c:Nat)(al:Nat->Bool)(g r:Nat):Nat:=((List.range 9).find? fun t=>decide (Nr S c al g t r)).getD 0
theorem iQ(ht:t<=8)(h:Nr S c al g t r):Nr S c al g (iZ S c al g r) r/\iZ S c al g r<=t/\∀ d,d < iZ S c al g r->¬ Nr S c al g d r:=by
 classical
 have hs:((List.range 9).find? fun t=>decide (Nr S c al g t r)).isSome=true:=List.find?_isSome.mpr ⟨t,List.mem_range.mpr (by omega),decide_eq_true h⟩
 obtain ⟨d,hd⟩:=Option.isSome_iff_exists.mp hs
 have e:iZ S c al g r=d:=by
  unfold iZ
  have:((List.range 9).find? fun t=>decide (Nr S c al g t r))=some d:=by
   rw [<-hd]
  rw [this]
  rfl
 obtain ⟨h1,_,h3⟩:=List.find?_range_eq_some.mp hd
 rw [e]
 have h4:∀ j,j < d->¬ Nr S c al g j r:=fun j hj z=>by
  have:=h3 j hj
  rw [decide_eq_true z] at this
  cases this
 refine ⟨of_decide_eq_true h1,Nat.le_of_not_lt fun z=>h4 t z h,h4⟩
theorem wR{l:Nat}(hl:l < c)(ha:al (stp S r l)=true)(h:Nr S c al g t (stp S r l)):Nr S c al g (t+1) r:=by
 obtain ⟨u,h1,h2⟩:=h
 exact ⟨(97+l) :: u,⟨l,hl,rfl,ha,h1⟩,by rw [List.length_cons];omega⟩
theorem aFk(h:Nr S c al g (t+1) r)(h0:¬ Nr S c al g t r):∃ l,l < c/\al (stp S r l)=true/\Nr S c al g t (stp S r l):=by
 obtain ⟨u,h1,h2⟩:=h
 cases u with
 | nil=>exact absurd ⟨[],h1,Nat.zero_le _⟩ h0
 | cons ch u =>
  obtain ⟨l,a,_,d,e⟩:=h1
  rw [List.length_cons] at h2
  exact ⟨l,a,d,u,e,by omega⟩
theorem aHh(M:Mch S rk c)(hr:r < S.length){u:List Nat}(h:Pat S c (fun g=>n.testBit g) u r g):Nr S c (fun g=>n.testBit g) g S.length r:=by
 obtain ⟨acc,_,b⟩:=aIw M hr (aX n)
 rw [aNh] at b
 obtain ⟨y,hy,ey,_⟩:=b.least u g h
 obtain ⟨k,hk⟩:=List.mem_iff_getElem?.mp hy
 have h1:=b.path k y hk
 rw [ey] at h1
 have h2:=b.wlen k y hk
 have h3:=(List.getElem?_eq_some_iff.mp hk).1
 have h4:=b.len
 exact ⟨y.2,h1,by omega⟩
noncomputable def yP(S:List (List Nat))(c n g:Nat)(ks:List Nat)(x4 x5:Option Sl):PSt:=[some (.v (.lst (stD S))),some (.v (.int n)),some (.v (.int g)),some (.o (.d false (nats ks)) (ks.map fun r=>D.int (iZ S c (fun g=>n.testBit g) g r:Nat))),x4,x5,none]
def aE3(S:List (List Nat))(c n g t k:Nat)(ks:List Nat):Prop:=ks.Nodup/\∀ r,r∈ks ↔ r < S.length/\n.testBit r=true/\(Nr S c (fun g=>n.testBit g) g t r\/(r < k/\Nr S c (fun g=>n.testBit g) g (t+1) r))
theorem aJ6{ks:List Nat}{one:Nat}(V:Nat->Nat):vZ (.dct false (nats ks) (ks.map fun r=>D.int (V r:Nat))) (.int one) (.int 99) = .ok (.int ((if one∈ks then V one else 99:Nat):Int)):=by
 show aH (keyOk false (.int one)=true) _=_
 rw [aG (c:=keyOk false (.int one)=true) rfl,sU]
 by_cases h:one∈ks
 ·rw [if_pos (decide_eq_true h),pL (fun r=>D.int (V r:Nat)) h,if_pos h]
  rfl
 ·rw [decide_eq_false h,if_neg Bool.false_ne_true,if_neg h]
  rfl
theorem aNi(M:Mch S rk c){ks:List Nat}(hk:aE3 S c n g t r ks)(hr:r < S.length)(ht:t < 8):∃ ks',iV (yP S c n g ks (some (.v (.int t))) (some (.v (.int r)))) = .ok (.nx (yP S c n g ks' (some (.v (.int t))) (some (.v (.int r)))))/\aE3 S c n g t (r+1) ks':=by
 have n8:=M.most
 obtain ⟨nd,hm⟩:=hk
 have hlen:ks.length<=S.length:=gH S.length ks nd fun x hx=>((hm x).mp hx).1
 have t1:=aNe (a:=1) (b:=5) (n:=n) (r:=r) (st:=yP S c n g ks (some (.v (.int t))) (some (.v (.int r)))) rfl rfl
 have t2:e2 eZ (aB 5) (fX 3) (yP S c n g ks (some (.v (.int t))) (some (.v (.int r)))) = .ok (.bl (!decide (r∈ks))):=aP rfl rfl (by rw [<-sU];exact aG rfl)
 have tt:=lU t1 fun _=>t2
 have stay:∀ ks':List Nat,ks'.Nodup->(∀ x,x≠r->(x∈ks' ↔ x∈ks))->(r∈ks' ↔ n.testBit r=true/\(Nr S c (fun g=>n.testBit g) g t r\/Nr S c (fun g=>n.testBit g) g (t+1) r))->aE3 S c n g t (r+1) ks':=fun ks' nd' h1 h2=>⟨nd',fun x=>by
  by_cases e:x=r
  ·subst e
   rw [h2]
   exact ⟨fun ⟨a,b⟩=>⟨hr,a,b.imp id fun z=>⟨by omega,z⟩⟩,fun ⟨_,a,b⟩=>⟨a,b.imp id fun z=>z.2⟩⟩
  ·rw [h1 x e,hm x]
   exact ⟨fun ⟨a,b,d⟩=>⟨a,b,d.imp id fun z=>⟨by omega,z.2⟩⟩,fun ⟨a,b,d⟩=>⟨a,b,d.imp id fun z=>⟨by omega,z.2⟩⟩⟩⟩
 have rin:r∈ks ↔ n.testBit r=true/\Nr S c (fun g=>n.testBit g) g t r:=by
  rw [hm r]
  exact ⟨fun ⟨_,a,b⟩=>⟨a,b.elim id fun z=>absurd z.1 (by omega)⟩,fun ⟨a,b⟩=>⟨hr,a,.inl b⟩⟩
 by_cases h:n.testBit r=true/\r ∉ ks
 ·rw [h.1,decide_eq_false h.2] at tt
  have hnot:¬ Nr S c (fun g=>n.testBit g) g t r:=fun z=>h.2 (rin.mpr ⟨h.1,z⟩)
  have hrow:=(M.row S[r] (List.getElem_mem hr)).1
  have c3:=M.c3
  have hc:=wL (is:=[6]) (it:=itE (e2 dIx (aB 0) (aB 5))) (st:=yP S c n g ks (some (.v (.int t))) (some (.v (.int r)))) (aFb (aP rfl rfl (gA (qK hr)))) (by rw [bR,hrow];omega) (lN (tg:=tgN 6) (C:=nA) (E:=mZ) (q:=fun one=>decide ((if one∈ks then iZ S c (fun g=>n.testBit g) g one else 99)=t)) (G:=fun x => .int x) S[r] fun one _=>⟨_,rfl,by
   show R.bind (vZ (.dct false (nats ks) (ks.map fun r=>D.int (iZ S c (fun g=>n.testBit g) g r:Nat))) (.int one) (.int 99)) (fun x=>dEq x (.int t))=_
   rw [aJ6,aU,qI,decide_eq_decide.mpr Int.ofNat_inj],rfl⟩)
  rw [show ∀ l:List Nat,l.map (fun x=>D.int (x:Nat))=nats l from fun _=>rfl] at hc
  have tn:=aP (op:=dNe) hc (oR (r:=bG) (st:=yP S c n g ks (some (.v (.int t))) (some (.v (.int r)))) rfl) (aV4 _)
  have hg:S.getD r []=S[r]:=by rw [List.getD_eq_getElem?_getD,List.getElem?_eq_getElem hr];rfl
  have key:S[r].filter (fun one=>decide ((if one∈ks then iZ S c (fun g=>n.testBit g) g one else 99)=t))≠[] ↔ Nr S c (fun g=>n.testBit g) g (t+1) r:=by
   constructor
   ·intro hne
    obtain ⟨one,ho⟩:∃ one,one∈S[r].filter (fun one=>decide ((if one∈ks then iZ S c (fun g=>n.testBit g) g one else 99)=t)):=by
     cases hf:S[r].filter (fun one=>decide ((if one∈ks then iZ S c (fun g=>n.testBit g) g one else 99)=t)) with
     | nil=>exact absurd hf hne
     | cons x T=>exact ⟨x,List.mem_cons_self⟩
    obtain ⟨o1,o2⟩:=List.mem_filter.mp ho
    have o3:=of_decide_eq_true o2
    have hin:one∈ks:=Classical.byContradiction fun z=>by rw [if_neg z] at o3;omega
    rw [if_pos hin] at o3
    obtain ⟨_,a2,a3⟩:=(hm one).mp hin
    have hN:Nr S c (fun g=>n.testBit g) g (t+1) one:=a3.elim (aAc (by omega)) fun z=>z.2
    have:=(iQ (by omega) hN).1
    rw [o3] at this
    obtain ⟨l,hl,rfl⟩:=(wO M hr).mp (by rw [hg];exact o1)
    exact wR (al:=fun g=>n.testBit g) hl a2 this
   ·intro hN hf
    obtain ⟨l,hl,ha,h2⟩:=aFk hN hnot
    obtain ⟨_,_,_,hlt⟩:=vD M hr hl
    have hin:stp S r l∈ks:=(hm _).mpr ⟨hlt,ha,.inl h2⟩
    obtain ⟨d1,d2,d3⟩:=iQ (show t<=8 by omega) h2
    have hd:iZ S c (fun g=>n.testBit g) g (stp S r l)=t:=by
     rcases Nat.lt_or_eq_of_le d2 with z | z
     ·exact absurd (aAc (by omega) (wR (al:=fun g=>n.testBit g) hl ha d1)) hnot
     ·exact z
    have:=List.filter_eq_nil_iff.mp hf (stp S r l) (by rw [<-hg];exact (wO M hr).mpr ⟨l,hl,rfl⟩)
    rw [if_pos hin] at this
    exact this (decide_eq_true hd)
  by_cases hf:S[r].filter (fun one=>decide ((if one∈ks then iZ S c (fun g=>n.testBit g) g one else 99)=t))=[]
  ·rw [decide_eq_true hf] at tn
   have hN:¬ Nr S c (fun g=>n.testBit g) g (t+1) r:=fun z=>key.mpr z hf
   refine ⟨ks,qH tt (jX tn rfl),stay ks nd (fun _ _=>Iff.rfl) ⟨fun z=>absurd z h.2,fun ⟨_,z⟩=>?_⟩⟩
   exact z.elim (fun z=>absurd z hnot) fun z=>absurd z hN
  ·rw [decide_eq_false hf] at tn
   have hN:=key.mp hf
   have hV:iZ S c (fun g=>n.testBit g) g r=t+1:=by
    obtain ⟨d1,d2,_⟩:=iQ (show t+1<=8 by omega) hN
    rcases Nat.lt_or_eq_of_le d2 with z | z
    ·exact absurd (aAc (by omega) d1) hnot
    ·exact z
   obtain ⟨p1,p2⟩:=aJ2 (V:=iZ S c (fun g=>n.testBit g) g) (x := .int ((t+1:Nat):Int)) h.2
   refine ⟨ks++[r],qH tt (qH tn ((aE1 (d := .int ((t+1:Nat):Int)) rfl rfl rfl rfl (by rw [List.length_map];omega)).trans ?_)),stay (ks++[r]) ?_ (fun x hx=>?_) ⟨fun _=>⟨h.1,.inr hN⟩,fun _=>by simp⟩⟩
   ·rw [p1,p2,<-hV]
    unfold yP
    rw [List.map_append]
    rfl
   ·exact List.nodup_append.mpr ⟨nd,by simp,fun a ha b hb=>by rw [List.mem_singleton.mp hb];exact fun z=>h.2 (z ▸ ha)⟩
   ·rw [List.mem_append,List.mem_singleton]
    exact ⟨fun z=>z.resolve_right hx,.inl⟩
 ·refine ⟨ks,jX (jE tt ?_) rfl,stay ks nd (fun _ _=>Iff.rfl) ⟨fun z=>⟨(rin.mp z).1,.inl (rin.mp z).2⟩,fun ⟨z,_⟩=>Classical.byContradiction fun y=>h ⟨z,y⟩⟩⟩
  cases h1:n.testBit r with
  | false=>rfl
  | true=>rw [decide_eq_true (Classical.byContradiction fun z=>h ⟨h1,z⟩)];rfl
theorem aD4(M:Mch S rk c)(ht:t < 8):∀ (m k:Nat) (ks:List Nat) (x5:Option Sl),k+m=S.length->aE3 S c n g t k ks->∃ ks' y5,forR (tgN 5) iV (nats (List.range' k m)) (yP S c n g ks (some (.v (.int t))) x5) = .ok (.nx (yP S c n g ks' (some (.v (.int t))) y5))/\aE3 S c n g t S.length ks'
 | 0,k,ks,x5,h,hk=>⟨ks,x5,rfl,by rw [show S.length=k by omega];exact hk⟩
 | m+1,k,ks,x5,h,hk=>by
  obtain ⟨ks1,e1,h1⟩:=aNi M hk (by omega) ht
  obtain ⟨ks2,y5,e2,h2⟩:=aD4 M ht m (k+1) ks1 (some (.v (.int k))) (by omega) h1
  exact ⟨ks2,y5,qJ rfl e1 e2,h2⟩
theorem aD5(M:Mch S rk c):∀ (m t:Nat) (ks:List Nat) (x4 x5:Option Sl),t+m=S.length->aE3 S c n g t 0 ks->∃ ks' y4 y5,forR (tgN 4) nC (nats (List.range' t m)) (yP S c n g ks x4 x5) = .ok (.nx (yP S c n g ks' y4 y5))/\aE3 S c n g S.length 0 ks'
 | 0,t,ks,x4,x5,h,hk=>⟨ks,x4,x5,rfl,by rw [show S.length=t by omega];exact hk⟩
 | m+1,t,ks,x4,x5,h,hk=>by
  have n8:=M.most
  obtain ⟨ks1,y5,e1,h1⟩:=aD4 M (t:=t) (by omega) S.length 0 ks x5 (by omega) hk
  have h2:aE3 S c n g (t+1) 0 ks1:=⟨h1.1,fun r=>by
   rw [h1.2 r]
   exact ⟨fun ⟨a,b,d⟩=>⟨a,b,.inl (d.elim (aAc (by omega)) fun z=>z.2)⟩,fun ⟨a,b,d⟩=>⟨a,b,.inr ⟨a,d.elim id fun z=>absurd z.1 (by omega)⟩⟩⟩⟩
  obtain ⟨ks2,z4,z5,e2,h3⟩:=aD5 M m (t+1) ks1 (some (.v (.int t))) y5 (by omega) h2
  refine ⟨ks2,z4,z5,qJ rfl (iI (xs:=nats (List.range S.length)) (aAz (n:=S.length) (by rw [<-eF S];rfl) (by omega)) ?_) e2,h3⟩
  rw [List.range_eq_range']
  exact e1
theorem aV5(M:Mch S rk c)(hg:g < S.length)(hb:n.testBit g=true):∃ ks:List Nat,gP [.lst (stD S),.int n,.int g] = .ok (.dct false (nats ks) (ks.map fun r=>D.int (iZ S c (fun g=>n.testBit g) g r:Nat)))/\∀ r,r∈ks ↔ r < S.length/\n.testBit r=true/\Nr S c (fun g=>n.testBit g) g S.length r:=by
 have n8:=M.most
 have h0:iZ S c (fun g=>n.testBit g) g g=0:=Nat.le_zero.mp (iQ (Nat.zero_le _) (aAd.mpr rfl)).2.1
 have k0:aE3 S c n g 0 0 [g]:=⟨by simp,fun r=>by
  rw [List.mem_singleton,aAd]
  exact ⟨fun z=>⟨z ▸ hg,z ▸ hb,.inl z⟩,fun ⟨_,_,z⟩=>z.elim id fun z=>absurd z.1 (by omega)⟩⟩
 obtain ⟨ks,y4,y5,e,h⟩:=aD5 M S.length 0 [g] none none (by omega) k0
 refine ⟨ks,cO rfl (aR (st':=yP S c n g [g] none none) ?_ (aR (iI (xs:=nats (List.range S.length)) (aAz (n:=S.length) (by rw [<-eF S];rfl) (by omega)) (by rw [List.range_eq_range'];exact e)) rfl)),fun r=>?_⟩
 ·show yE 3 (aB 2) (eC (.int 0)) _=_
  unfold yP
  rw [List.map_singleton,h0]
  simp [yE,aKd,atom,nats]
 ·rw [h.2 r]
  exact ⟨fun ⟨a,b,d⟩=>⟨a,b,d.elim id fun z=>absurd z.1 (by omega)⟩,fun ⟨a,b,d⟩=>⟨a,b,.inl d⟩⟩
noncomputable def rB(S:List (List Nat))(c n r g:Nat)(ks:List Nat)(w:List Nat)(x6:Option Sl):PSt:=[some (.v (.lst (stD S))),some (.v (.int n)),some (.v (.int r)),some (.v (.int g)),some (.v (.dct false (nats ks) (ks.map fun r=>D.int (iZ S c (fun g=>n.testBit g) g r:Nat)))),some (.v (.str w)),x6,none]
theorem aJ7{l:Nat}(h:l < 3):dIx (.str [97,98,99]) (.int l) = .ok (.str [97+l]):=by
 show aH _ _=_
 rw [aG (aM (by show 3<=_;omega)),atI_nat (xs:=[97,98,99]) (i:=l) (by show l < 3;exact h)]
 have:l=0\/l=1\/l=2:=by omega
 rcases this with rfl | rfl | rfl<;>rfl
theorem aHi{c:Nat}{q:Nat->Bool}{l0:Nat}{T:List Nat}(h:(List.range c).filter q=l0 :: T):l0 < c/\q l0=true/\∀ l,l < c->q l=true->l0<=l:=by
 have h0:l0∈(List.range c).filter q:=by rw [h];exact List.mem_cons_self
 obtain ⟨h1,h2⟩:=List.mem_filter.mp h0
 refine ⟨List.mem_range.mp h1,h2,fun l hl hq=>?_⟩
 have hm:l∈l0 :: T:=by rw [<-h];exact List.mem_filter.mpr ⟨List.mem_range.mpr hl,hq⟩
 have hp:(l0 :: T).Pairwise (· < ·):=by rw [<-h];exact List.Pairwise.filter _ List.pairwise_lt_range
 rcases List.mem_cons.mp hm with e | e
 ·omega
 ·exact Nat.le_of_lt ((List.pairwise_cons.mp hp).1 l e)
theorem aNj(M:Mch S rk c){ks:List Nat}(hks:∀ r,r∈ks ↔ r < S.length/\n.testBit r=true/\Nr S c (fun g=>n.testBit g) g S.length r):∀ (d r:Nat) (w:List Nat) (f:Nat) (x6:Option Sl),r∈ks->iZ S c (fun g=>n.testBit g) g r=d->d < f->w.length+d<=100->∃ u x6',iU wJ wI f (rB S c n r g ks w x6) = .ok (.nx (rB S c n g g ks (w++u) x6'))/\Lst S c (fun g=>n.testBit g) r g u:=by
 have n8:=M.most
 have c3:=M.c3
 intro d
 induction d with
 | zero =>
  intro r w f x6 hr hd hf hw
  obtain ⟨r1,r2,r3⟩:=(hks r).mp hr
  have h0:=(iQ (by omega) r3).1
  rw [hd] at h0
  have e:=aAd.mp h0
  subst e
  obtain ⟨f,rfl⟩:∃ g,f=g+1:=⟨f - 1,by omega⟩
  refine ⟨[],x6,by rw [List.append_nil];exact yK (jE (aP rfl rfl (aH5 _ _)) (by rw [decide_eq_true rfl];rfl)),rfl,fun v _=>?_⟩
  cases v with
  | nil=>exact .inl rfl
  | cons a v=>exact .inr (.inl (by simp))
 | succ d ih =>
  intro r w f x6 hr hd hf hw
  obtain ⟨r1,r2,r3⟩:=(hks r).mp hr
  obtain ⟨d1,_,d3⟩:=iQ (by omega) r3
  rw [hd] at d1 d3
  have hne:r≠g:=fun z=>d3 0 (by omega) (aAd.mpr z)
  obtain ⟨f,rfl⟩:∃ g,f=g+1:=⟨f - 1,by omega⟩
  have hrow:=(M.row S[r] (List.getElem_mem r1)).1
  have near:∀ l,l < c->(decide ((if stp S r l∈ks then iZ S c (fun g=>n.testBit g) g (stp S r l) else 99)=d)=true ↔ n.testBit (stp S r l)=true/\Nr S c (fun g=>n.testBit g) g d (stp S r l)):=fun l hl=>by
   obtain ⟨_,_,_,hlt⟩:=vD M r1 hl
   have d8:d<=8:=by have:=(iQ (by omega) r3).2.1;omega
   rw [decide_eq_true_eq]
   constructor
   ·intro h
    have hin:stp S r l∈ks:=Classical.byContradiction fun z=>by rw [if_neg z] at h;omega
    rw [if_pos hin] at h
    obtain ⟨_,a2,a3⟩:=(hks _).mp hin
    have:=(iQ (by omega) a3).1
    rw [h] at this
    exact ⟨a2,this⟩
   ·rintro ⟨h1,h2⟩
    have hin:stp S r l∈ks:=(hks _).mpr ⟨hlt,h1,h2.elim fun u hu=>aHh M hlt hu.1⟩
    rw [if_pos hin]
    obtain ⟨e1,e2,_⟩:=iQ d8 h2
    rcases Nat.lt_or_eq_of_le e2 with z | z
    ·exact absurd (wR (al:=fun g=>n.testBit g) hl h1 e1) (d3 _ (by omega))
    ·exact z
  have hlen:e1 cU (e2 dIx (aB 0) (aB 2)) (rB S c n r g ks w x6) = .ok (.int (c:Nat)):=by
   rw [aS1,aP (rfl:aB 0 (rB S c n r g ks w x6) = .ok (.lst (stD S))) rfl (gA (qK r1)),aU]
   show R.ok (D.int ((nats S[r]).length:Nat))=_
   rw [bR,hrow]
  have at_l:∀ l,l < c->∀ x7,e2 dIx (e2 dIx (aB 0) (aB 2)) (aB 7) [some (.v (.lst (stD S))),some (.v (.int n)),some (.v (.int r)),some (.v (.int g)),some (.v (.dct false (nats ks) (ks.map fun r=>D.int (iZ S c (fun g=>n.testBit g) g r:Nat)))),some (.v (.str w)),x7,some (.v (.int l))] = .ok (.int (stp S r l)):=fun l hl x7=>by
   obtain ⟨row,a1,a2,_⟩:=vD M r1 hl
   exact aP (aP rfl rfl (gA a1)) rfl (gA a2)
  have hc:=wL (is:=[7]) (it:=oY (e1 cU (e2 dIx (aB 0) (aB 2)))) (st:=rB S c n r g ks w x6) (aAz hlen (by omega)) (by rw [List.length_map,List.length_range];omega) (lN (tg:=tgN 7) (C:=wH) (E:=wG) (q:=fun l=>decide ((if stp S r l∈ks then iZ S c (fun g=>n.testBit g) g (stp S r l) else 99)=d)) (G:=fun x => .int x) (List.range c) fun l hl=>⟨_,rfl,by
   have hl':=List.mem_range.mp hl
   have v1:aCb (aB 4) (e2 dIx (e2 dIx (aB 0) (aB 2)) (aB 7)) (eC (.int 99)) [some (.v (.lst (stD S))),some (.v (.int n)),some (.v (.int r)),some (.v (.int g)),some (.v (.dct false (nats ks) (ks.map fun r=>D.int (iZ S c (fun g=>n.testBit g) g r:Nat)))),some (.v (.str w)),x6,some (.v (.int l))] = .ok (.int ((if stp S r l∈ks then iZ S c (fun g=>n.testBit g) g (stp S r l) else 99:Nat):Int)):=by
    unfold aCb
    rw [at_l l hl' x6]
    exact aJ6 _
   have v2:e2 aGy (e2 dIx (aB 4) (aB 2)) (eC (.int 1)) [some (.v (.lst (stD S))),some (.v (.int n)),some (.v (.int r)),some (.v (.int g)),some (.v (.dct false (nats ks) (ks.map fun r=>D.int (iZ S c (fun g=>n.testBit g) g r:Nat)))),some (.v (.str w)),x6,some (.v (.int l))] = .ok (.int (d:Nat)):=aP (aP rfl rfl (wQ (pL (fun r=>D.int (iZ S c (fun g=>n.testBit g) g r:Nat)) hr))) rfl (by
    show R.ok (D.int ((iZ S c (fun g=>n.testBit g) g r:Nat) - 1:Int))=_
    rw [hd,Int.natCast_succ]
    congr 2
    omega)
   exact aP v1 v2 (by rw [qI,decide_eq_decide.mpr Int.ofNat_inj]),rfl⟩)
  obtain ⟨l1,hl1,ha1,hN1⟩:=aFk d1 (d3 d (by omega))
  cases hnl:(List.range c).filter (fun l=>decide ((if stp S r l∈ks then iZ S c (fun g=>n.testBit g) g (stp S r l) else 99)=d)) with
  | nil=>exact absurd ((near l1 hl1).mpr ⟨ha1,hN1⟩) (List.filter_eq_nil_iff.mp hnl l1 (List.mem_range.mpr hl1))
  | cons l0 T =>
   rw [hnl] at hc
   obtain ⟨q1,q2,q3⟩:=aHi hnl
   obtain ⟨a0,N0⟩:=(near l0 q1).mp q2
   obtain ⟨row,b1,b2,b3⟩:=vD M r1 q1
   have in0:stp S r l0∈ks:=(hks _).mpr ⟨b3,a0,N0.elim fun u hu=>aHh M b3 hu.1⟩
   have dd:iZ S c (fun g=>n.testBit g) g (stp S r l0)=d:=by
    have:=of_decide_eq_true q2
    rwa [if_pos in0] at this
   obtain ⟨u,x6',e,h1,h2⟩:=ih (stp S r l0) (w++[97+l0]) f (some (.v (.lst (nats (l0 :: T))))) in0 dd (by omega) (by rw [List.length_append,List.length_singleton];omega)
   have hu:u.length<=d:=by
    obtain ⟨v,v1,v2⟩:=N0
    rcases h2 v v1 with z | z
    ·rw [z];exact v2
    ·rcases z with z | z<;>omega
   refine ⟨(97+l0) :: u,x6',aB0 (st':=rB S c n (stp S r l0) g ks (w++[97+l0]) (some (.v (.lst (nats (l0 :: T)))))) (jE (aP rfl rfl (aH5 _ _)) (by rw [decide_eq_false fun z=>hne (Int.ofNat_inj.mp z)];rfl)) ?_ (by rw [show w++(97+l0) :: u=w++[97+l0]++u by simp];exact e),⟨l0,q1,rfl,a0,h1⟩,fun v hv=>?_⟩
   ·have h0:e2 dIx (aB 6) (eC (.int 0)) (rB S c n r g ks w (some (.v (.lst (nats (l0 :: T)))))) = .ok (.int l0):=aP rfl rfl (gA (atI_nat (i:=0) (by rw [bR];exact Nat.succ_pos _)))
    have h0':e2 dIx (aB 6) (eC (.int 0)) (rB S c n r g ks (w++[97+l0]) (some (.v (.lst (nats (l0 :: T)))))) = .ok (.int l0):=aP rfl rfl (gA (atI_nat (i:=0) (by rw [bR];exact Nat.succ_pos _)))
    exact aR (st':=rB S c n r g ks w (some (.v (.lst (nats (l0 :: T)))))) (cA hc) (aR (st':=rB S c n r g ks (w++[97+l0]) (some (.v (.lst (nats (l0 :: T)))))) (cA (aP rfl (aP rfl h0 (aJ7 (by omega))) (aG (aM (by show w.length+1<=_;omega))))) (cA (aP (aP rfl rfl (gA b1)) h0' (gA b2))))
   ·cases v with
    | nil=>exact absurd hv hne
    | cons a v =>
     obtain ⟨l,k1,rfl,k3,k4⟩:=hv
     by_cases hv':d < v.length
     ·exact .inr (.inl (by rw [List.length_cons,List.length_cons];omega))
     ·have hvn:Nr S c (fun g=>n.testBit g) g d (stp S r l):=⟨v,k4,by omega⟩
      have hle:=q3 l k1 ((near l k1).mpr ⟨k3,hvn⟩)
      have hvl:v.length=d:=by
       rcases Nat.lt_or_ge v.length d with z | z
       ·exact absurd (wR (al:=fun g=>n.testBit g) k1 k3 ⟨v,k4,Nat.le_refl _⟩) (d3 _ (by omega))
       ·omega
      have hul:u.length=d:=by
       rcases Nat.lt_or_ge u.length d with z | z
       ·exact absurd (wR (al:=fun g=>n.testBit g) q1 a0 ⟨u,h1,Nat.le_refl _⟩) (d3 _ (by omega))
       ·omega
      rcases Nat.lt_or_eq_of_le hle with z | z
      ·exact .inr (.inr ⟨by rw [List.length_cons,List.length_cons,hvl,hul],List.cons_lt_cons_iff.mpr (.inl (by omega))⟩)
      ·subst z
       rcases h2 v k4 with y | y
       ·rw [y];exact .inl rfl
       ·rcases y with y | ⟨y1,y2⟩
        ·omega
        ·exact .inr (.inr ⟨by rw [List.length_cons,List.length_cons,y1],List.cons_lt_cons_iff.mpr (.inr ⟨rfl,y2⟩)⟩)
theorem aYd{a b:Nat}{st:PSt}{n r:Nat}(ha:st[a]?=some (some (.v (.int (n:Int)))))(hb:st[b]?=some (some (.v (.int (r:Int))))):(e2 dEq (e2 pB (e2 pA (aB a) (aB b)) (eC (.int 1))) (eC (.int 0))) st = .ok (.bl (!n.testBit r)):=by
 have hb':=aB7 n r
 have h0:0<=(n:Int) / 2 ^ r:=Int.ediv_nonneg (by omega) (Int.pow_nonneg (by decide))
 have v1:e2 pA (aB a) (aB b) st = .ok (.int ((n:Int) / 2 ^ r)):=by simp [ha,hb]
 have v2:e2 pB (e2 pA (aB a) (aB b)) (eC (.int 1)) st = .ok (.int ((if n.testBit r=true then 1 else 0:Nat):Int)):=by
  rw [zK,v1,aU,aF7,aU,aB6,aG ⟨h0,by decide⟩,hb']
 rw [aP v2 rfl (qI _ _)]
 cases n.testBit r<;>rfl
theorem aQg(M:Mch S rk c)(hn:n < 2 ^ S.length)(hs:s < S.length)(hg:g < S.length):iW [.lst (stD S),.int n,.int s,.int g]=fP [mD S rk c,.int n,.int s,.int g]:=by
 have n8:=M.most
 have t1:=aAy (aYd (a:=1) (b:=2) (n:=n) (r:=s) (st:=[some (.v (.lst (stD S))),some (.v (.int n)),some (.v (.int s)),some (.v (.int g)),none,none,none,none]) rfl rfl) fun _=>aYd (a:=1) (b:=3) (n:=n) (r:=g) (st:=[some (.v (.lst (stD S))),some (.v (.int n)),some (.v (.int s)),some (.v (.int g)),none,none,none,none]) rfl rfl
 have hw:=aHg M hn hs g
 by_cases hb:n.testBit s=true/\n.testBit g=true
 ·rw [hb.1,hb.2] at t1
  obtain ⟨ks,e,hks⟩:=aV5 M hg hb.2
  have t2:e2 eZ (aB 2) (aB 4) [some (.v (.lst (stD S))),some (.v (.int n)),some (.v (.int s)),some (.v (.int g)),some (.v (.dct false (nats ks) (ks.map fun r=>D.int (iZ S c (fun g=>n.testBit g) g r:Nat)))),none,none,none] = .ok (.bl (!decide (s∈ks))):=aP rfl rfl (by rw [<-sU];exact aG rfl)
  by_cases hm:s∈ks
  ·rw [decide_eq_true hm] at t2
   have hd:iZ S c (fun g=>n.testBit g) g s<=8:=Nat.le_trans (iQ (by omega) ((hks s).mp hm).2.2).2.1 n8
   obtain ⟨u,x6,ew,hu⟩:=aNj M hks _ s [] 100000 none hm rfl (by omega) (by simp only [List.length_nil];omega)
   have hr:iW [.lst (stD S),.int n,.int s,.int g] = .ok (.str u):=cO rfl (dX (jX t1 rfl) (aR (cA (bA rfl e)) (dX (jX t2 rfl) (aR (st':=rB S c n s g ks [] none) (cA rfl) (aR (st':=rB S c n g g ks u x6) (by rw [yC];exact ew) (iH rfl))))))
   rcases hw with ⟨_,h2⟩ | ⟨v,h1,_,h3,_⟩
   ·exact absurd ⟨hb.1,u,hu.1⟩ h2
   ·rw [hr,h1,aQf hu h3]
  ·rw [decide_eq_false hm] at t2
   have hr:iW [.lst (stD S),.int n,.int s,.int g] = .ok .non:=cO rfl (dX (jX t1 rfl) (aR (cA (bA rfl e)) (vB (qH t2 (iH rfl)))))
   rcases hw with ⟨h1,_⟩ | ⟨v,_,_,h3,_⟩
   ·rw [hr,h1]
   ·exact absurd ((hks s).mpr ⟨hs,hb.1,aHh M hs h3.1⟩) hm
 ·have hr:iW [.lst (stD S),.int n,.int s,.int g] = .ok .non:=cO rfl (vB (qH (jE t1 (by
   cases h1:n.testBit s with
   | false=>rfl
   | true =>
    cases h2:n.testBit g with
    | false=>rfl
    | true=>exact absurd ⟨h1,h2⟩ hb)) (iH rfl)))
  rcases hw with ⟨h1,_⟩ | ⟨v,_,hs',h3,_⟩
  ·rw [hr,h1]
  ·exfalso
   have hg0:n.testBit g=true:=by
    have key:∀ (v:List Nat) (s:Nat),n.testBit s=true->Pat S c (fun g=>n.testBit g) v s g->n.testBit g=true:=fun v=>by
     induction v with
     | nil=>intro s hs h;rw [<-(show s=g from h)];exact hs
     | cons a v ih=>intro s _ ⟨l,_,_,k3,k4⟩;exact ih _ k3 k4
    exact key v s hs' h3.1
   exact hb ⟨hs',hg0⟩
end
end Pu
namespace Pu
theorem yQ{b:Bd}{st:PSt}{x:Fl}(h:b st = .ok x):sNX b st = .ok x:=by unfold sNX;rw [h];rfl
theorem aNk{f:Ex}{st:PSt}{x:D}(h:f st = .ok x):eNX f st = .ok x:=by unfold eNX;rw [h];rfl
theorem aNl(l m:List Nat):dEq (.lst (nats l)) (.lst (nats m)) = .ok (.bl (decide (l=m))):=by
 obtain ⟨p1,p2,_⟩:=dY l
 obtain ⟨q1,_,_⟩:=dY m
 have:=aAb l m
 simp [p1,p2,q1,this]
theorem aV6{m ch:Nat}(h1:1<=m)(h3:m<=3)(a:97<=ch)(b:ch < 97+m):(eY (cut [97,98,99] none (some (m:Int))) [ch] 0).isSome=true:=by
 have hm:m=1\/m=2\/m=3:=by omega
 have hc:ch=97\/ch=98\/ch=99:=by omega
 rcases hm with rfl | rfl | rfl<;>rcases hc with rfl | rfl | rfl<;>first | rfl | omega
section
variable{S:List (List Nat)}{rk:List Nat}{c n s g r:Nat}{al:Nat->Bool}
theorem aE4:∀ {u:List Nat} {s g:Nat},Pat S c al u s g->Ltr c u
 | [],_,_,_=>fun _ h=>nomatch h
 | ch :: u,s,g,⟨l,a,b,_,e⟩=>fun x hx=>by
  rcases List.mem_cons.mp hx with rfl | hx
  ·omega
  ·exact aE4 e x hx
theorem wU:∀ {u:List Nat} {s g:Nat},Pat S c al u s g->lM S s u=g
 | [],_,_,h=>h
 | ch :: u,s,g,⟨l,a,b,_,e⟩=>by
  show lM S (stp S s (ch - 97)) u=g
  rw [b,show 97+l - 97=l by omega]
  exact wU e
theorem aFl:∀ {u:List Nat} {s g:Nat},Pat S c al u s g->∀ y∈runs S s u,al y=true
 | [],_,_,_=>fun _ h=>nomatch h
 | ch :: u,s,g,⟨l,a,b,d,e⟩=>fun y hy=>by
  have hy':y∈stp S s (ch - 97) :: runs S (stp S s (ch - 97)) u:=hy
  rw [b,show 97+l - 97=l by omega] at hy'
  rcases List.mem_cons.mp hy' with rfl | hy'
  ·exact d
  ·exact aFl e y hy'
theorem aBf:∀ (x y:List Nat) (q:Nat),runs S q (x++y)=runs S q x++runs S (lM S q x) y
 | [],_,_=>rfl
 | ch :: x,y,q=>congrArg (stp S q (ch - 97) :: ·) (aBf x y _)
theorem aE5:∀ (x:List Nat) (q:Nat),lM S q x∈q :: runs S q x
 | [],_=>List.mem_cons_self
 | ch :: x,q=>List.mem_cons_of_mem _ (aE5 x (stp S q (ch - 97)))
theorem aNm{x:List Nat}(h:x≠[])(q:Nat):lM S q x∈runs S q x:=by
 cases x with
 | nil=>exact absurd rfl h
 | cons ch x=>exact aE5 x (stp S q (ch - 97))
theorem aBg:∀ (x:List Nat) (q:Nat),(runs S q x).length=x.length
 | [],_=>rfl
 | _ :: x,_=>congrArg (· + 1) (aBg x _)
theorem aQh{s g:Nat}(h:Rch S c al s g):∃ u,Pat S c al u s g:=by
 induction h with
 | here=>exact ⟨[],rfl⟩
 | on _ hl ha ih =>
  obtain ⟨u,hu⟩:=ih
  exact ⟨u++[97+_],tU hu ⟨_,hl,rfl,ha,rfl⟩⟩
structure Rnd(S:List (List Nat))(c n r:Nat)(u:List Nat):Prop where
 pat:Pat S c (fun g=>n.testBit g) u r r
 ne:u≠[]
 len:u.length<=(aX n).length * (aX n).length
 all:∀ g∈aX n,g∈runs S r u
def aNn(S:List (List Nat))(rk:List Nat)(c n r:Nat)(x:List Nat)(h:Nat)(x5:Option Sl):PSt:=[some (.v (mD S rk c)),some (.v (.int n)),some (.v (.int r)),some (.v (.str x)),some (.v (.int h)),x5]
theorem aHj{p:List D->R D}{xs:List D}{f:Ex}{e:Exs}{st:PSt}(hf:f st = .ok (mD S rk c))(hr:e st = .ok xs):aF6 "Machine" "rooms_along" p [] f e st=p (mD S rk c :: xs):=by
 rw [aMp,hf,hr]
 show aH _ (p (mD S rk c :: (xs++[])))=_
 rw [List.append_nil]
 exact aG ⟨rfl,by decide⟩
theorem aFm(M:Mch S rk c)(hn:n < 2 ^ S.length)(hL:LpN S c n){a b:Nat}(ha:a∈aX n)(hb:b∈aX n):∃ u,fP [mD S rk c,.int n,.int a,.int b] = .ok (.str u)/\Pat S c (fun g=>n.testBit g) u a b/\u.length+1<=(aX n).length:=by
 rcases aHg M hn (cR hn ha) b with ⟨_,h2⟩ | ⟨u,h1,_,h3,_,h5⟩
 ·exact absurd ⟨bU.mp ha,aQh (hL.2.1 a ha b hb)⟩ h2
 ·exact ⟨u,h1,h3.1,h5⟩
theorem vH(M:Mch S rk c)(hn:n < 2 ^ S.length)(hL:LpN S c n)(hr:r∈aX n):∀ (gs:List Nat) (x:List Nat) (h j:Nat) (x5:Option Sl),(∀ g∈gs,g∈aX n)->Pat S c (fun g=>n.testBit g) x r h->h∈aX n->x.length<=j * ((aX n).length - 1)->j+gs.length<=8 ->
  ∃ x' h' j' x5',forR (tgN 5) wF (nats gs) (aNn S rk c n r x h x5) = .ok (.nx (aNn S rk c n r x' h' x5'))/\Pat S c (fun g=>n.testBit g) x' r h'/\h'∈aX n/\x'.length<=j' * ((aX n).length - 1)/\j'<=j+(gs.filter fun g => !decide (g=r)).length/\(∀ g∈gs,g∈r :: runs S r x')/\∀ g∈r :: runs S r x,g∈r :: runs S r x'
 | [],x,h,j,x5,_,h1,h2,h3,_=>⟨x,h,j,x5,rfl,h1,h2,h3,Nat.le_add_right _ _,fun _ z=>(nomatch z),fun _ z=>z⟩
 | g :: gs,x,h,j,x5,hg,h1,h2,h3,h4=>by
  have n8:=M.most
  rw [List.length_cons] at h4
  have hk:(aX n).length<=8:=Nat.le_trans (gH S.length _ (dI _) fun y hy=>cR hn hy) n8
  have hx:x.length<=100:=by
   have:j * ((aX n).length - 1)<=8 * 7:=Nat.mul_le_mul (by omega) (by omega)
   omega
  have hrl:=cR hn hr
  obtain ⟨p1,p2,_⟩:=dY (r :: runs S r x)
  have t:e2 eZ (aB 5) (aF6 "Machine" "rooms_along" (cI) [] (aB 0) (aC (aB 2) (aC (aB 3) (bG)))) (aNn S rk c n r x h (some (.v (.int g)))) = .ok (.bl (!decide (g∈r :: runs S r x))):=aP rfl ((aHj rfl rfl).trans (aMy M hrl x (aE4 h1) (by omega))) (by
   rw [<-tM]
   exact aG ⟨by rw [p2];exact Nat.zero_le 60,rfl,p1⟩)
  by_cases hm:g∈r :: runs S r x
  ·rw [decide_eq_true hm] at t
   obtain ⟨x',h',j',x5',e,k1,k2,k3,k4,k5,k6⟩:=vH M hn hL hr gs x h j (some (.v (.int g))) (fun y hy=>hg y (List.mem_cons_of_mem _ hy)) h1 h2 h3 (by omega)
   refine ⟨x',h',j',x5',qJ rfl (jX t rfl) e,k1,k2,k3,Nat.le_trans k4 ?_,fun y hy=>?_,k6⟩
   ·by_cases z:(!decide (g=r))=true
    ·rw [List.filter_cons_of_pos (p:=fun g => !decide (g=r)) z,List.length_cons];omega
    ·rw [List.filter_cons_of_neg (p:=fun g => !decide (g=r)) z];exact Nat.le_refl _
   ·rcases List.mem_cons.mp hy with rfl | hy
    ·exact k6 _ hm
    ·exact k5 y hy
  ·rw [decide_eq_false hm] at t
   have hgr:g≠r:=fun z=>hm (by rw [z];exact List.mem_cons_self)
   obtain ⟨u,w1,w2,w3⟩:=aFm M hn hL h2 (hg g List.mem_cons_self)
   have hl:(x++u).length<=(j+1) * ((aX n).length - 1):=by
    rw [List.length_append,Nat.add_mul,Nat.one_mul]
    omega
   obtain ⟨x',h',j',x5',e,k1,k2,k3,k4,k5,k6⟩:=vH M hn hL hr gs (x++u) g (j+1) (some (.v (.int g))) (fun y hy=>hg y (List.mem_cons_of_mem _ hy)) (tU h1 w2) (hg g List.mem_cons_self) hl (by omega)
   have up:∀ y∈r :: runs S r x,y∈r :: runs S r (x++u):=fun y hy=>by
    rw [aBf]
    rcases List.mem_cons.mp hy with rfl | hy
    ·exact List.mem_cons_self
    ·exact List.mem_cons_of_mem _ (List.mem_append_left _ hy)
   refine ⟨x',h',j',x5',qJ rfl (qH t (aR (st':=aNn S rk c n r (x++u) h (some (.v (.int g)))) (cA (aP rfl (bA rfl w1) (aG (aM (by omega))))) (cA rfl))) e,k1,k2,k3,Nat.le_trans k4 ?_,fun y hy=>?_,fun y hy=>k6 y (up y hy)⟩
   ·rw [List.filter_cons_of_pos (by rw [decide_eq_false hgr];rfl),List.length_cons];omega
   ·rcases List.mem_cons.mp hy with rfl | hy
    ·refine k6 _ ?_
     have:=aE5 (S:=S) (x++u) r
     rw [wU (tU h1 w2)] at this
     exact this
    ·exact k5 y hy
theorem aV7{l:List Nat}(nd:l.Nodup)(hr:r∈l):(l.filter fun g => !decide (g=r)).length+1<=l.length:=by
 have h1:(l.filter fun g => !decide (g=r)).length < l.length:=by
  rcases Nat.lt_or_eq_of_le (List.length_filter_le (fun g => !decide (g=r)) l) with h | h
  ·exact h
  ·have:=List.length_filter_eq_length_iff.mp h r hr
   rw [decide_eq_true rfl] at this
   cases this
 omega
theorem aHk(M:Mch S rk c)(hn:n < 2 ^ S.length)(hL:LpN S c n)(hr:r∈aX n):∃ u,gF [mD S rk c,.int n,.int r] = .ok (.str u)/\Rnd S c n r u:=by
 have n8:=M.most
 have c3:=M.c3
 have hrl:=cR hn hr
 have hro:=pK hn (by omega)
 have hk:(aX n).length<=8:=Nat.le_trans (gH S.length _ (dI _) fun y hy=>cR hn hy) n8
 have a1:sIf (eNX (pY (aY pH (aC (aB 0) (aC (aB 1) (bG)))))) (uR "NoLoop" (aC (eC (.str [116,104,105,115,32,115,101,116,32,111,102,32,114,111,111,109,115,32,105,115,32,110,111,32,108,111,111,112])) (bG))) cW [some (.v (mD S rk c)),some (.v (.int n)),some (.v (.int r)),none,none,none] = .ok (.nx [some (.v (mD S rk c)),some (.v (.int n)),some (.v (.int r)),none,none,none]):=jX (aNk (vC (p:=true) (bA rfl (by rw [aBc M hn,decide_eq_true ((yN M hn).mpr hL)])))) rfl
 have a2:sIf (eNX (pY (aY cY (aC (aB 1) (aC (aB 2) (bG)))))) (uR "NoLoop" (aC (eC (.str [116,104,101,32,114,111,111,109,32,105,115,32,110,111,116,32,105,110,32,116,104,101,32,108,111,111,112])) (bG))) cW [some (.v (mD S rk c)),some (.v (.int n)),some (.v (.int r)),none,none,none] = .ok (.nx [some (.v (mD S rk c)),some (.v (.int n)),some (.v (.int r)),none,none,none]):=jX (aNk (vC (p:=true) (bA rfl (by rw [vG,bU.mp hr])))) rfl
 have t3:=aP (op:=dEq) (f:=aY cC (aC (aB 1) (bG))) (g:=nQ (aC (aB 2) (bG))) (st:=[some (.v (mD S rk c)),some (.v (.int n)),some (.v (.int r)),none,none,none]) (bA rfl hro) (oR (ds:=nats [r]) rfl) (aNl (aX n) [r])
 by_cases h1:aX n=[r]
 ·rw [decide_eq_true h1] at t3
  have hq:=hL.2.2
  unfold roundN at hq
  rw [h1] at hq
  have hq':r∈S.getD r []:=by
   have:=of_decide_eq_true (show decide (r∈S.getD r [])=true from hq)
   exact this
  have hg:S.getD r []=S[r]:=by rw [List.getD_eq_getElem?_getD,List.getElem?_eq_getElem hrl];rfl
  rw [hg] at hq'
  have hrow:=(M.row S[r] (List.getElem_mem hrl)).1
  have hs:((S[r].map fun (x:Nat)=>(x:Int)).findIdx? fun i=>i==(r:Int)).isSome=true:=by
   rw [List.findIdx?_isSome,List.any_eq_true]
   exact ⟨(r:Int),List.mem_map.mpr ⟨r,hq',rfl⟩,by simp⟩
  obtain ⟨k,hk'⟩:=Option.isSome_iff_exists.mp hs
  obtain ⟨k1,k2,_⟩:=List.findIdx?_eq_some_iff_getElem.mp hk'
  rw [List.length_map] at k1
  have hkr:S[r][k]=r:=by
   rw [List.getElem_map,beq_iff_eq] at k2
   exact Int.ofNat_inj.mp k2
  have hst:stp S r k=r:=by
   unfold stp
   rw [hg,List.getD_eq_getElem?_getD,List.getElem?_eq_getElem k1]
   exact hkr
  have hix:eMt aIp (e2 dIx (e1 (xZ "Machine" "steps") (aB 0)) (aB 2)) (aC (aB 2) (bG)) [some (.v (mD S rk c)),some (.v (.int n)),some (.v (.int r)),none,none,none] = .ok (.int k):=by
   unfold eMt
   rw [aP (show e1 (xZ "Machine" "steps") (aB 0) [some (.v (mD S rk c)),some (.v (.int n)),some (.v (.int r)),none,none,none]=_ from tL) rfl (gA (qK hrl))]
   show (zM (nats S[r])).bind _=_
   rw [show nats S[r]=(S[r].map fun (x:Nat)=>(x:Int)).map D.int by rw [List.map_map];rfl,yD,aU,hk']
   show R.bind (.ok k) _=_
   rw [aU]
   exact aG (aM (by rw [List.length_map,List.length_map];omega))
  refine ⟨[97+k],cO rfl (dX a1 (dX a2 (vB (yQ (qH t3 (iH (aP rfl hix (aJ7 (by omega)))))))) ),⟨⟨k,by omega,rfl,by rw [hst];exact bU.mp hr,hst⟩,by simp,by rw [h1];exact Nat.le_refl _,fun g hg=>?_⟩⟩
  rw [h1,List.mem_singleton] at hg
  show g∈stp S r (97+k - 97) :: []
  rw [show 97+k - 97=k by omega,hst,hg]
  exact List.mem_cons_self
 ·rw [decide_eq_false h1] at t3
  obtain ⟨g0,hg0,hne⟩:∃ g0∈aX n,g0≠r:=Classical.byContradiction fun z=>h1 (by
   have all:∀ y∈aX n,y=r:=fun y hy=>Classical.byContradiction fun w=>z ⟨y,hy,w⟩
   have nd:=dI n
   cases hm:aX n with
   | nil=>rw [hm] at hr;cases hr
   | cons a T =>
    rw [hm] at all nd
    have ea:=all a List.mem_cons_self
    cases T with
    | nil=>rw [ea]
    | cons b T =>
     have eb:=all b (by simp)
     exact absurd (by simp [ea,eb]) (List.nodup_cons.mp nd).1)
  obtain ⟨x,h,j,x5,e,k1,k2,k3,k4,k5,_⟩:=vH M hn hL hr (aX n) [] r 0 none (fun _ z=>z) rfl hr (Nat.zero_le _) (by omega)
  obtain ⟨y,w1,w2,w3⟩:=aFm M hn hL k2 hr
  have hc:=aV7 (dI n) hr
  have hxl:x.length<=((aX n).length - 1) * ((aX n).length - 1):=Nat.le_trans k3 (Nat.mul_le_mul_right _ (by omega))
  have hxn:x≠[]:=fun z=>by
   rw [z] at k5
   rcases List.mem_cons.mp (k5 g0 hg0) with z' | z'
   ·exact hne z'
   ·cases z'
  have hp:=tU k1 w2
  have hne':x++y≠[]:=fun z=>hxn (List.append_eq_nil_iff.mp z).1
  have hlen:(x++y).length<=(aX n).length * (aX n).length:=by
   obtain ⟨k,hk2⟩:∃ k,(aX n).length=k+1:=⟨(aX n).length - 1,by omega⟩
   rw [hk2,Nat.add_sub_cancel] at hxl
   rw [List.length_append,hk2,Nat.add_mul,Nat.mul_add,Nat.one_mul]
   omega
  have h64:(aX n).length * (aX n).length<=8 * 8:=Nat.mul_le_mul hk hk
  refine ⟨x++y,cO rfl (dX a1 (dX a2 (dX (yQ (jX t3 rfl)) (aR (yQ (cA rfl)) (aR (st':=aNn S rk c n r [] r none) (yQ (cA rfl)) (aR (yQ (iI (aFb (bA rfl hro)) e)) (yQ (iH (aP rfl (bA rfl w1) (aG (aM (by rw [List.length_append] at hlen;omega)))))))))))),⟨hp,hne',hlen,fun g hg=>?_⟩⟩
  rcases List.mem_cons.mp (k5 g hg) with rfl | z
  ·have:=aNm (S:=S) hne' g
   rwa [wU hp] at this
  ·rw [aBf]
   exact List.mem_append_left _ z
theorem aHl(M:Mch S rk c)(hn:n < 2 ^ S.length)(h:¬ (LpN S c n/\n.testBit r=true)):gF [mD S rk c,.int n,.int r] = .exc (.exn "NoLoop" [] []):=by
 have h1:=aBc M hn
 have h2:=vG n r
 unfold gF uX
 by_cases hL:LpN S c n
 ·have hb:n.testBit r=false:=Bool.eq_false_iff.mpr fun z=>h ⟨hL,z⟩
  rw [decide_eq_true ((yN M hn).mpr hL)] at h1
  rw [hb] at h2
  simp [h1,h2]
 ·rw [decide_eq_false fun z=>hL ((yN M hn).mp z)] at h1
  simp [h1]
theorem aKp{u:List Nat}(h:gF [mD S rk c,.int n,.int r] = .ok (.str u)):eE [mD S rk c,.int n,.int r] = .ok (.str u):=by
 refine cO rfl ?_
 unfold fY
 simp [h]
theorem aKq(h:gF [mD S rk c,.int n,.int r] = .exc (.exn "NoLoop" [] [])):eE [mD S rk c,.int n,.int r] = .ok (.str []):=by
 refine cO rfl ?_
 unfold fY
 simp [h]
theorem zT(M:Mch S rk c)(t:Option Sl):∀ (x:List Nat) (q:Nat) (acc:List Nat) (l:Option Sl),q < S.length->Ltr c x->acc.length+x.length<=1000->∃ l',forR (tgN 4) rA (x.map fun ch=>D.str [ch]) [some (.v (.lst (stD S))),some (.v (.int q)),t,some (.o .l (nats acc)),l] = .ok (.nx [some (.v (.lst (stD S))),some (.v (.int (lM S q x))),t,some (.o .l (nats (acc++runs S q x))),l'])
 | [],q,acc,l,_,_,_=>⟨l,by rw [show runs S q []=[] from rfl,List.append_nil];rfl⟩
 | ch :: x,q,acc,l,hq,hx,hl=>by
  rw [List.length_cons] at hl
  obtain ⟨h1,h2⟩:=hx ch (.head _)
  obtain ⟨row,f1,f2,f3⟩:=aIs M hq h1 h2
  obtain ⟨l',e⟩:=zT M t x (stp S q (ch - 97)) (acc++[stp S q (ch - 97)]) (some (.v (.str [ch]))) f3 (fun y hy=>hx y (.tail _ hy)) (by rw [List.length_append,List.length_singleton];omega)
  have mt:eMt xY (eC (.str [97,98,99])) (aC (aB 4) bG) [some (.v (.lst (stD S))),some (.v (.int q)),t,some (.o .l (nats acc)),some (.v (.str [ch]))] = .ok (.int ((ch - 97:Nat):Int)):=by
   show (ofO (eY [97,98,99] [ch] 0)).bind _=_
   rw [aFd M.c3 h1 h2]
   rfl
  rw [List.append_assoc] at e
  refine ⟨l',qJ rfl (aR (st':=[some (.v (.lst (stD S))),some (.v (.int (stp S q (ch - 97)))),t,some (.o .l (nats acc)),some (.v (.str [ch]))]) (cA (aP (aP rfl rfl (gA f1)) mt (gA f2))) ((yJ (xs:=nats acc) rfl rfl (by rw [bR];omega)).trans ?_)) e⟩
  rw [<-aB9]
  rfl
theorem aKr(M:Mch S rk c)(hr:r < S.length){u:List Nat}(hu:Ltr c u)(hl:u.length<=500):lF [.lst (stD S),.int r,.str u] = .ok (.lst (nats (runs S r u))):=by
 obtain ⟨l',e⟩:=zT M (some (.v (.str u))) u r [] none hr hu (by rw [List.length_nil];omega)
 refine cO rfl (aR (tK (oR rfl)) (aR (iI ?_ e) rfl))
 show aH (u.length<=big) _=_
 exact aG (aM (by omega))
theorem aJ8{x:Int}:∀ (l acc:List Int),x∈l.foldl (fun acc x=>if acc.any (· == x) then acc else acc++[x]) acc ↔ x∈acc\/x∈l
 | [],acc=>by simp
 | y :: l,acc=>by
  rw [List.foldl_cons,aJ8 l]
  by_cases h:acc.any (· == y)=true
  ·rw [if_pos h]
   have hy:y∈acc:=by
    obtain ⟨z,hz,e⟩:=List.any_eq_true.mp h
    rw [<-eq_of_beq e]
    exact hz
   constructor
   ·exact fun z=>z.imp id (List.mem_cons_of_mem _)
   ·rintro (z | z)
    ·exact .inl z
    ·rcases List.mem_cons.mp z with rfl | z
     ·exact .inl hy
     ·exact .inr z
  ·rw [if_neg h,List.mem_append,List.mem_singleton,List.mem_cons,or_assoc]
theorem aNo:∀ (l acc:List Int),acc.Nodup->(l.foldl (fun acc x=>if acc.any (· == x) then acc else acc++[x]) acc).Nodup
 | [],_,h=>h
 | y :: l,acc,h=>by
  rw [List.foldl_cons]
  refine aNo l _ ?_
  by_cases hy:acc.any (· == y)=true
  ·rw [if_pos hy];exact h
  ·rw [if_neg hy]
   exact List.nodup_append.mpr ⟨h,by simp,fun a ha b hb=>by rw [List.mem_singleton.mp hb];exact fun z=>hy (List.any_eq_true.mpr ⟨a,ha,by rw [z];simp⟩)⟩
theorem aV8(hn:n < 2 ^ S.length)(h8:S.length<=8){l:List Nat}(hl:l.length<=500)(hm:∀ g,g∈l ↔ g∈aX n):aA8 (.lst (nats l)) = .ok (.lst (nats (aX n))):=by
 have hk:(aX n).length<=8:=Nat.le_trans (gH S.length _ (dI _) fun y hy=>cR hn hy) h8
 have np:(aX n).Pairwise (· < ·):=List.Pairwise.filter _ List.pairwise_lt_range
 have perm:(zN (l.map fun (x:Nat)=>(x:Int))).Perm ((aX n).map fun (x:Nat)=>(x:Int)):=by
  refine (List.perm_ext_iff_of_nodup (aNo _ [] (by simp)) ?_).mpr fun a=>?_
  ·exact List.Pairwise.map _ (fun a b h=>by omega) (dI n)
  ·rw [aJ8,List.mem_map,List.mem_map]
   constructor
   ·rintro (z | ⟨x,h1,h2⟩)
    ·cases z
    ·exact ⟨x,(hm x).mp h1,h2⟩
   ·rintro ⟨x,h1,h2⟩
    exact .inr ⟨x,(hm x).mpr h1,h2⟩
 have e:aDv (zN (l.map fun (x:Nat)=>(x:Int)))=(aX n).map fun (x:Nat)=>(x:Int):=List.Perm.eq_of_pairwise (le:=(· <= ·)) (fun a b _ _ h1 h2=>Int.le_antisymm h1 h2) (aF8 _) (List.Pairwise.map _ (fun a b h=>by omega) np) ((aAu _).trans perm)
 rw [show nats l=(l.map fun (x:Nat)=>(x:Int)).map D.int by rw [List.map_map];rfl,show nats (aX n)=((aX n).map fun (x:Nat)=>(x:Int)).map D.int by rw [List.map_map];rfl,<-e]
 show (zM _).bind _=_
 rw [yD,aU]
 exact aG ⟨by rw [List.length_map];omega,by rw [perm.length_eq,List.length_map];omega⟩
def yR(S:List (List Nat))(n r:Nat)(u:List Nat)(x4 x5 x6:Option Sl):PSt:=[some (.v (.lst (stD S))),some (.v (.int n)),some (.v (.int r)),some (.v (.str u)),x4,x5,x6,none]
theorem aQi(M:Mch S rk c)(hn:n < 2 ^ S.length)(hr:r∈aX n){u:List Nat}(Q:Rnd S c n r u):fZ [.lst (stD S),.int n,.int r,.str u] = .ok (.bl true):=by
 have n8:=M.most
 have c1:=M.c1
 have c3:=M.c3
 have hk0:(aX n).length<=S.length:=gH S.length _ (dI _) fun y hy=>cR hn hy
 have hsq:(aX n).length * (aX n).length<=S.length * S.length:=Nat.mul_le_mul hk0 hk0
 have h64:S.length * S.length<=8 * 8:=Nat.mul_le_mul n8 n8
 have hl:=Q.len
 have hu:=aE4 Q.pat
 have hrl:=cR hn hr
 have hls:∀ x4 x5 x6,e1 cU (aB 0) (yR S n r u x4 x5 x6) = .ok (.int (S.length:Nat)):=fun _ _ _=>by rw [<-eF S];rfl
 have hlu:∀ x4 x5 x6,e1 cU (aB 3) (yR S n r u x4 x5 x6) = .ok (.int (u.length:Nat)):=fun _ _ _=>show aH (u.length<=big) _=_ from aG (aM (by omega))
 have b1:pY (eB aPu (aB 3)) (yR S n r u none none none) = .ok (.bl false):=vC (p:=true) (aG rfl)
 have b2:e2 dEq (aB 3) (eC (.str [])) (yR S n r u none none none) = .ok (.bl false):=aP rfl rfl (by
  cases hu':u with
  | nil=>exact absurd hu' Q.ne
  | cons a v=>exact aG ⟨Nat.zero_le 64,rfl,rfl⟩)
 have b3:e2 dGt (e1 cU (aB 3)) (e2 iG (e1 cU (aB 0)) (e1 cU (aB 0))) (yR S n r u none none none) = .ok (.bl false):=aP (hlu _ _ _) (aP (hls _ _ _) (hls _ _ _) (show iG (.int (S.length:Nat)) (.int (S.length:Nat)) = .ok (.int ((S.length * S.length:Nat):Int)) by rw [Int.natCast_mul];exact aG (.inl ⟨by omega,by omega⟩))) (by
  show R.ok (D.bl (decide (((S.length * S.length:Nat):Int) < (u.length:Nat))))=_
  rw [decide_eq_false (by omega)])
 obtain ⟨st1,⟨x4,rfl⟩,e1'⟩:=aA9 (tg:=tgN 4) (L:=lW) (fun st=>∃ x4,st=yR S n r u x4 none none) (u.map fun ch=>D.str [ch]) (fun d hd st hst=>by
  obtain ⟨ch,hch,rfl⟩:=List.mem_map.mp hd
  obtain ⟨x4,rfl⟩:=hst
  obtain ⟨a,b⟩:=hu ch hch
  have h0:0 < S.length:=by omega
  have hrow:=(M.row S[0] (List.getElem_mem h0)).1
  have hlen:e1 cU (e2 dIx (aB 0) (eC (.int 0))) (yR S n r u (some (.v (.str [ch]))) none none) = .ok (.int (c:Nat)):=by
   rw [aS1,aP (rfl:aB 0 (yR S n r u (some (.v (.str [ch]))) none none) = .ok (.lst (stD S))) rfl (gA (qK (q:=0) h0)),aU]
   show R.ok (D.int ((nats S[0]).length:Nat))=_
   rw [bR,hrow]
  have hsl:eSl (eC (.str [97,98,99])) aIg (aCr (e1 cU (e2 dIx (aB 0) (eC (.int 0))))) (yR S n r u (some (.v (.str [ch]))) none none) = .ok (.str (cut [97,98,99] none (some (c:Int)))):=by
   rw [aUd,aF7,aU]
   simp only [aMk,aMl,hlen,aU]
   exact aG (aM (by show 3<=_;omega))
  exact ⟨_,_,rfl,jX (aP rfl hsl (by
   show R.ok (D.bl (!(eY (cut [97,98,99] none (some (c:Int))) [ch] 0).isSome))=_
   rw [aV6 (by omega) (by omega) a (by omega)]
   rfl)) rfl,_,rfl⟩) (yR S n r u none none none) ⟨none,rfl⟩
 have hin:=wL (is:=[7]) (it:=oY (e1 cU (aB 0))) (st:=yR S n r u x4 (some (.v (.lst (nats (runs S r u))))) none) (aAz (hls _ _ _) (by omega)) (by rw [List.length_map,List.length_range];omega) (lN (tg:=tgN 7) (C:=lY) (E:=lX) (q:=fun g=>n.testBit g) (G:=fun x => .int x) (List.range S.length) fun y _=>⟨_,rfl,aNe (a:=1) (b:=7) rfl rfl,rfl⟩)
 rw [aB8 hn] at hin
 have hset:=aV8 hn n8 (l:=runs S r u) (by rw [aBg];omega) fun g=>⟨fun z=>bU.mpr (aFl Q.pat g z),Q.all g⟩
 have hlast:atI (nats (runs S r u)) (-1)=some (.int r):=by
  have hp:0 < (runs S r u).length:=by
   rw [aBg]
   exact List.length_pos_iff.mpr Q.ne
  have hgl:(nats (runs S r u)).getLast?=some (.int r):=by
   unfold nats
   rw [List.getLast?_map]
   have:∀ (x:List Nat) (q:Nat),x≠[]->(runs S q x).getLast?=some (lM S q x):=fun x=>by
    induction x with
    | nil=>intro q h;exact absurd rfl h
    | cons ch x ih =>
     intro q _
     by_cases hx:x=[]
     ·subst hx;rfl
     ·show (stp S q (ch - 97) :: runs S (stp S q (ch - 97)) x).getLast?=_
      rw [List.getLast?_cons,ih _ hx]
      rfl
   rw [this u r Q.ne,wU Q.pat]
   rfl
  rw [List.getLast?_eq_getElem?] at hgl
  unfold atI ixN
  rw [if_neg (by decide),if_pos (by rw [bR];omega)]
  show (nats (runs S r u))[((-1:Int)+((nats (runs S r u)).length:Int)).toNat]?=_
  rw [<-hgl]
  congr 1
  rw [bR]
  omega
 refine cO rfl (dX (jX (aAy (p:=false) (q:=false) b1 fun _=>aAy (p:=false) (q:=false) b2 fun _=>b3) rfl) (aR (iI (show aH (u.length<=big) _=_ from aG (aM (by omega))) e1') (aR (st':=yR S n r u x4 (some (.v (.lst (nats (runs S r u))))) none) (cA (bA rfl (aKr M hrl hu (by omega)))) (aR (st':=yR S n r u x4 (some (.v (.lst (nats (runs S r u))))) (some (.v (.lst (nats (aX n)))))) (cA hin) (iH (lU (p:=true) (q:=true) (aP (show R.bind (.ok (.lst (nats (runs S r u)))) aA8=_ from hset) rfl (by rw [aNl,decide_eq_true rfl])) fun _=>lU (p:=true) (q:=true) (aP (aP rfl rfl (gA hlast)) rfl (by rw [qI,decide_eq_true rfl])) fun _=>aP (hlu _ _ _) (aP (x := .int ((aX n).length:Nat)) (y := .int ((aX n).length:Nat)) ?_ ?_ (show iG (.int ((aX n).length:Nat)) (.int ((aX n).length:Nat)) = .ok (.int (((aX n).length * (aX n).length:Nat):Int)) by rw [Int.natCast_mul];exact aG (.inl ⟨by omega,by omega⟩))) (by
  show R.ok (D.bl (decide ((u.length:Int)<=(((aX n).length * (aX n).length:Nat):Int))))=_
  rw [decide_eq_true (by omega)])))))))
 ·rw [<-bR (aX n)];rfl
 ·rw [<-bR (aX n)];rfl
end
section
variable{S:List (List Nat)}{rk:List Nat}{c n al:Nat}
noncomputable def jst(ns:List Int)(S:List (List Nat))(rk:List Nat)(c:Nat)(x4 x5 x8 x9 x10 x11 x12:Option Sl):PSt:=[some (.v (.lst (ns.map D.int))),some (.v (mD S rk c)),some (.v (.int (S.length:Nat))),some (.v (.lst (nats (yO S c)))),x4,x5,some (.v (.lst (stD S))),some (.v (.lst (nats rk))),x8,x9,x10,x11,x12,none]
theorem aQj(ns:List Int)(M:Mch S rk c)(hn:n < 2 ^ S.length)(x5 x8 x9 x10 x11 x12:Option Sl):∃ y8 y9,aDw (jst ns S rk c (some (.v (.int n))) x5 x8 x9 x10 x11 x12) = .ok (.nx (jst ns S rk c (some (.v (.int n))) x5 y8 y9 x10 x11 x12)):=by
 have one:=M.one
 have hc1:=tR ns 1 (by decide) (by decide)
 generalize cvL ns (1:Int).toNat=c1 at hc1
 have hp:(0:Int) < (S.length:Nat):=by omega
 obtain ⟨r,hr⟩:∃ r:Nat,(c1+(n:Int)) % ((S.length:Nat):Int)=r:=⟨((c1+(n:Int)) % ((S.length:Nat):Int)).toNat,by have:=Int.emod_nonneg (c1+(n:Int)) (show ((S.length:Nat):Int)≠0 by omega);omega⟩
 have hrl:r < S.length:=by have:=Int.emod_lt_of_pos (c1+(n:Int)) hp;omega
 have s8:e2 oW (e2 jT (aY dC (aC (aB 0) (aC (eC (.int 1)) (bG)))) (aB 4)) (aB 2) (jst ns S rk c (some (.v (.int n))) x5 x8 x9 x10 x11 x12) = .ok (.int r):=aP (aP (bA rfl hc1) rfl rfl) rfl ((yI hp).trans (by rw [hr]))
 have t:∀ w:D,mF (e2 dIn (aB 4) (aB 3)) (e2 dEq (e2 pB (e2 pA (aB 4) (aB 8)) (eC (.int 1))) (eC (.int 1))) (jst ns S rk c (some (.v (.int n))) x5 (some (.v (.int r))) (some (.v w)) x10 x11 x12) = .ok (.bl (decide (n∈yO S c)&&n.testBit r)):=fun w=>lU (aP rfl rfl (aN4 n (yO S c))) fun _=>aNe (a:=4) (b:=8) rfl rfl
 by_cases h:LpN S c n/\n.testBit r=true
 ·obtain ⟨u,hu,Q⟩:=aHk M hn h.1 (bU.mpr h.2)
  refine ⟨_,_,aR (cA s8) (aR (st':=jst ns S rk c (some (.v (.int n))) x5 (some (.v (.int r))) (some (.v (.str u))) x10 x11 x12) (cA (bA rfl (aKp hu))) (qH (jE (t (.str u)) (by rw [decide_eq_true (aD3.mpr ⟨hn,h.1⟩),h.2];rfl)) (jX (vC (p:=true) (bA rfl (aQi M hn (bU.mpr h.2) Q))) rfl)))⟩
 ·refine ⟨_,_,aR (cA s8) (aR (st':=jst ns S rk c (some (.v (.int n))) x5 (some (.v (.int r))) (some (.v (.str []))) x10 x11 x12) (cA (bA rfl (aKq (aHl M hn h)))) (jX (jE (t (.str [])) ?_) (jX (aP rfl rfl (aG ⟨Nat.zero_le 64,rfl,rfl⟩)) rfl)))⟩
  cases hb:n.testBit r with
  | false=>rw [Bool.and_false]
  | true=>rw [decide_eq_false fun z=>h ⟨(aD3.mp z).2,hb⟩];rfl
theorem aNp(ns:List Int)(M:Mch S rk c)(i:Int)(x4 x8 x9 x10 x11 x12:Option Sl):∃ y8 y10 y11 y12,aDx (jst ns S rk c x4 (some (.v (.int i))) x8 x9 x10 x11 x12) = .ok (.nx (jst ns S rk c x4 (some (.v (.int i))) y8 x9 y10 y11 y12)):=by
 have n8:=M.most
 have one:=M.one
 have n1:1<=2 ^ S.length:=Nat.one_le_two_pow
 have p2:(0:Int) < ((2 ^ S.length:Nat):Int):=by omega
 have pl:(0:Int) < ((S.length:Nat):Int):=by omega
 have nat:∀ (k:Int) (m:Nat),(0:Int) < (m:Nat)->∃ a:Nat,rM i k (m:Nat)=a/\a < m:=fun k m hm=>by
  obtain ⟨h1,h2⟩:=oA i k hm
  exact ⟨(rM i k (m:Nat)).toNat,by omega,by omega⟩
 obtain ⟨a,ha,hal⟩:=nat 21 (2 ^ S.length) p2
 obtain ⟨s,hs,hsl⟩:=nat 22 S.length pl
 obtain ⟨g,hg,hgl⟩:=nat 23 S.length pl
 have m1:=gB i 21 _ p2
 have m2:=gB i 22 _ pl
 have m3:=gB i 23 _ pl
 rw [ha] at m1
 rw [hs] at m2
 rw [hg] at m3
 have m4:=gB i 24 3 (by decide)
 have sh:∀ y8 y9 y10 y11 y12,e2 uT (eC (.int 1)) (aB 2) (jst ns S rk c x4 (some (.v (.int i))) y8 y9 y10 y11 y12) = .ok (.int ((2 ^ S.length:Nat):Int)):=fun _ _ _ _ _=>aP rfl rfl (aHa (by omega))
 obtain ⟨n,hn,hif⟩:∃ n:Nat,n < 2 ^ S.length/\sIf (e2 dEq (aY bL (aC (aB 5) (aC (eC (.int 24)) (aC (eC (.int 3)) (bG))))) (eC (.int 0))) (cX 10 (e2 aGy (e2 uT (eC (.int 1)) (aB 2)) (eC (.int 1)))) (cW) (jst ns S rk c x4 (some (.v (.int i))) x8 x9 (some (.v (.int a))) x11 x12) = .ok (.nx (jst ns S rk c x4 (some (.v (.int i))) x8 x9 (some (.v (.int n))) x11 x12)):=by
  have t:=aP (op:=dEq) (f:=aY bL (aC (aB 5) (aC (eC (.int 24)) (aC (eC (.int 3)) (bG))))) (g:=eC (.int 0)) (st:=jst ns S rk c x4 (some (.v (.int i))) x8 x9 (some (.v (.int a))) x11 x12) (bA rfl m4) rfl (qI _ _)
  by_cases h:rM i 24 3=0
  ·rw [decide_eq_true h] at t
   have e0:((2 ^ S.length:Nat):Int) - 1=((2 ^ S.length - 1:Nat):Int):=by omega
   exact ⟨2 ^ S.length - 1,by omega,qH t (cA (aP (sh _ _ _ _ _) rfl (show R.ok (D.int (((2 ^ S.length:Nat):Int) - 1))=_ by rw [e0])))⟩
  ·rw [decide_eq_false h] at t
   exact ⟨a,hal,jX t rfl⟩
 have hw:=aQg M hn hsl hgl
 have key:∃ v:D,fP [mD S rk c,.int n,.int s,.int g] = .ok v/\(v = .non\/∃ u,v = .str u):=by
  rcases aHg M hn hsl g with ⟨h1,_⟩ | ⟨u,h1,_⟩
  ·exact ⟨_,h1,.inl rfl⟩
  ·exact ⟨_,h1,.inr ⟨u,rfl⟩⟩
 obtain ⟨v,hv,hk⟩:=key
 rw [hv] at hw
 refine ⟨some (.v (.int s)),some (.v (.int n)),some (.v (.int g)),some (.v v),aR (st':=jst ns S rk c x4 (some (.v (.int i))) x8 x9 (some (.v (.int a))) x11 x12) (cA (bA (fC rfl (fC rfl (fC (sh _ _ _ _ _) rfl))) m1)) (aR hif (aR (st':=jst ns S rk c x4 (some (.v (.int i))) (some (.v (.int s))) x9 (some (.v (.int n))) x11 x12) (cA (bA rfl m2)) (aR (st':=jst ns S rk c x4 (some (.v (.int i))) (some (.v (.int s))) x9 (some (.v (.int n))) (some (.v (.int g))) x12) (cA (bA rfl m3)) (aR (st':=jst ns S rk c x4 (some (.v (.int i))) (some (.v (.int s))) x9 (some (.v (.int n))) (some (.v (.int g))) (some (.v v))) (cA (bA rfl hv)) (jX (aAy (p:=false) (q:=false) ?_ fun _=>aP rfl (bA rfl hw) ?_) rfl)))))⟩
 ·rcases hk with rfl | ⟨u,rfl⟩
  ·exact lU (p:=false) (q:=false) rfl fun z=>nomatch z
  ·exact lU (p:=true) (q:=false) rfl fun _=>vC (p:=true) (aG rfl)
 ·rcases hk with rfl | ⟨u,rfl⟩
  ·exact aG ⟨Nat.zero_le 64,rfl,rfl⟩
  ·show aH _ (R.ok (D.bl (!(u==u))))=_
   rw [beq_self_eq_true]
   exact aG ⟨Nat.zero_le 64,rfl,rfl⟩
end
theorem law_true(ns:List Int)(hn:ns.length<=63):aCu [.lst (ns.map D.int)] = .ok (.bl true):=by
 obtain ⟨S,rk,c,em,M⟩:=aNd ns (mo:=8) (by decide) (by decide)
 have n8:=M.most
 have n2:=aJ4 M
 have cp:=aCw (E:=aIq) (st:=[some (.v (.lst (ns.map D.int))),none,none,none,none,none,some (.v (.lst (stD S))),some (.v (.lst (nats rk))),none,none,none,none,none,none]) (j:=13) (v:=6) (xs:=stD S) rfl (by rw [eF];omega) (fun d hd=>by
  obtain ⟨r,hr,rfl⟩:=aAa hd
  rfl)
 refine cO rfl (aR (st':=[some (.v (.lst (ns.map D.int))),none,none,none,none,none,some (.v (.lst (stD S))),some (.v (.lst (nats rk))),none,none,none,none,none,none]) ?_ (aR (st':=[some (.v (.lst (ns.map D.int))),some (.v (mD S rk c)),none,none,none,none,some (.v (.lst (stD S))),some (.v (.lst (nats rk))),none,none,none,none,none,none]) (cA (bA (fC cp rfl) (aQ5 M))) (aR (st':=[some (.v (.lst (ns.map D.int))),some (.v (mD S rk c)),some (.v (.int (S.length:Nat))),none,none,none,some (.v (.lst (stD S))),some (.v (.lst (nats rk))),none,none,none,none,none,none]) (cA (by rw [<-eF S];rfl)) (aR (st':=jst ns S rk c none none none none none none none) (cA (bA rfl (aKn M))) ?_))))
 ·show R.bind (gD [.lst (ns.map D.int),.int 0,.int 8]) _=_
  rw [em]
  rfl
 let P (st:PSt):Prop:=∃ x4 x5 x8 x9 x10 x11 x12,st=jst ns S rk c x4 x5 x8 x9 x10 x11 x12
 obtain ⟨st1,⟨x4,x5,x8,x9,x10,x11,x12,rfl⟩,e1'⟩:=aA9 (tg:=tgN 4) (L:=aDw) P (nats (List.range (2 ^ S.length))) (fun d hd st hst=>by
  obtain ⟨m,hm,rfl⟩:=aB1 hd
  obtain ⟨x4,x5,x8,x9,x10,x11,x12,rfl⟩:=hst
  obtain ⟨y8,y9,e⟩:=aQj ns M (List.mem_range.mp hm) x5 x8 x9 x10 x11 x12
  exact ⟨_,_,rfl,e,_,_,_,_,_,_,_,rfl⟩) (jst ns S rk c none none none none none none none) ⟨_,_,_,_,_,_,_,rfl⟩
 refine aR (iI (aAz (n:=2 ^ S.length) (aP rfl rfl (aHa (by omega))) (by omega)) e1') ?_
 have hmem:∀ d∈cut (ns.map D.int) (some 2) (some 12),∃ i:Int,d = .int i:=fun d hd=>by
  unfold cut at hd
  obtain ⟨i,_,rfl⟩:=List.mem_map.mp (List.mem_of_mem_drop (List.mem_of_mem_take hd))
  exact ⟨i,rfl⟩
 obtain ⟨st2,⟨y4,y5,y8,y9,y10,y11,y12,rfl⟩,e2'⟩:=aA9 (tg:=tgN 5) (L:=aDx) P (cut (ns.map D.int) (some 2) (some 12)) (fun d hd st hst=>by
  obtain ⟨i,rfl⟩:=hmem d hd
  obtain ⟨x4,x5,x8,x9,x10,x11,x12,rfl⟩:=hst
  obtain ⟨y8,y10,y11,y12,e⟩:=aNp ns M i x4 x8 x9 x10 x11 x12
  exact ⟨_,_,rfl,e,_,_,_,_,_,_,_,rfl⟩) (jst ns S rk c x4 x5 x8 x9 x10 x11 x12) ⟨_,_,_,_,_,_,_,rfl⟩
 exact aR (iI (aFb rfl) e2') (iH rfl)
end Pu
namespace Pu
open PySem PySem.Spec PyProof.Rows L2
abbrev LSt:=L2.St
def jU:Key->D
 | .inl i => .int i
 | .inr x => .str x.cps.toList
structure ExcCl(K:PySem.W.Frag)(C:Addr):Prop where
 ga:PySem.W.findIn K (.ref C) "__getattribute__" = some (some (.builtin "BaseException.__getattribute__"))
 gn:PySem.W.findIn K (.ref C) "__getattr__" = some none
 mb:PySem.W.mroIn K C (.type "BaseException")=some true
 cl:(PySem.W.clsIn K C).isSome=true
 fd:PySem.W.findIn K (.ref C) "__class__" = some (some (.builtin "object.__class__"))
 sp:PySem.W.specialIn K (.builtin "object.__class__") "__get__" = some (some (.builtin "getset_descriptor.__get__"))
 tk:PySem.W.takesIn K (.builtin "object.__class__")=some true
 mr:PySem.W.mroIn K C (.type "object")=some true
structure ExcAt(K:PySem.W.Frag)(c:String)(C:Addr)(bm:List Value):Prop where
 ns:PySem.W.nsIn K mainGlobals (Str.ofString c)=some (some (.ref C))
 ob:∃ (B newId initId:String) (bmB:List Value),ExcBaseFacts B newId initId bmB/\∀ h,K.In h->∃ N nm q bs hdct sn sub ab col dd k0 k1 k2 k3 k5 mN,
  h.get? C=some (excClassObj nm q C N bs bm hdct sn sub ab col dd k0 k1 k2 k3 k5 newId)/\h.Ns N mN/\mN "__init__" = none/\OwnTail h bmB bm
 ic:ExcCl K C
def aSz(a C:Addr)(h:Heap):Prop:=∃ o,h.get? a=some o/\o.cls = .ref C/\PySem.W.notCls o=true
structure ExcIs(K:PySem.W.Frag)(c:String)(C:Addr):Prop where
 ns:PySem.W.nsIn K mainGlobals (Str.ofString c)=some (some (.ref C))
 ic:ExcCl K C
def xOb(x C:Addr)(d:Option Addr)(h:Heap):Prop:=∃ o,h.get? x=some o/\o.cls = .ref C/\PySem.W.notCls o=true/\o.dict=d
def xFs(dx:Addr)(fs:List (Str × V))(h:Heap):Prop:=∃ mA,h.Ns1 dx mA/\(∀ f,pU (fs.lookup f) (mA f))/\PySem.Within mA (fs.map (·.1))
mutual
def Rep(K:PySem.W.Frag)(H:Hp):D->V->Prop
 | .non,v=>v=V.non
 | .bl b,v=>v=V.bl b
 | .int i,v=>v=V.int i
 | .str s,v=>v=V.str ⟨s.toArray⟩
 | .tup ds,v=>∃ a vs,v=V.ref a/\H a=some (.tup vs)/\bH K H ds vs
 | .lst ds,v=>∃ a vs,v=V.ref a/\SqL K H a vs/\bH K H ds vs
 | .dct t ks ds,v=>∃ a vs,v=V.ref a/\((t=false/\∃ kvs:List (Key × V),H a=some (.dK kvs)/\kvs.map (fun p=>jU p.1)=ks/\vs=kvs.map (·.2))\/(t=true/\∃ kvs:List (List Key × V),H a=some (.dT kvs)/\kvs.map (fun p=>D.tup (p.1.map jU))=ks/\vs=kvs.map (·.2)))/\bH K H ds vs
 | .ins c ns ds,v=>∃ a C dx fs vs,v=V.ref a/\H a=some (.ins C dx fs)/\PySem.W.nsIn K mainGlobals (Str.ofString c)=some (some (.ref C))/\fs.map (·.1)=ns.map Str.ofString/\vs=fs.map (·.2)/\bH K H ds vs
 | .exn c ns ds,v=>∃ a φ C,v=V.ref a/\H a=some (.ext φ)/\(∀ h,φ h->aSz a C h)/\ExcIs K c C/\∃ dx fs vs,((ns=[]/\vs=[])\/(φ=xOb a C (some dx)/\dx≠a/\H dx=some (.ext (xFs dx fs))/\fs.map (·.1)=ns.map Str.ofString/\vs=fs.map (·.2)))/\bH K H ds vs
def bH(K:PySem.W.Frag)(H:Hp):List D->List V->Prop
 | [],vs=>vs=[]
 | d :: ds,vs=>∃ v r,vs=v :: r/\Rep K H d v/\bH K H ds r
end
theorem sV{K:PySem.W.Frag}{H H':Hp}{a:Addr}{xs:List V}(e:aZ H H')(h:SqT K H a xs):SqT K H' a xs:=by
 rcases h with (h | ⟨o,h⟩) | h
 ·exact .inl (.inl (e _ _ h))
 ·exact .inl (.inr ⟨o,e _ _ h⟩)
 ·exact .inr h
mutual
theorem Rep.mono{K:PySem.W.Frag}{H H':Hp}(s:aZ H H'):∀ {d:D} {v:V},Rep K H d v->Rep K H' d v
 | .non,_,h=>by unfold Rep at h ⊢; exact h
 | .bl _,_,h=>by unfold Rep at h ⊢; exact h
 | .int _,_,h=>by unfold Rep at h ⊢; exact h
 | .str _,_,h=>by unfold Rep at h ⊢; exact h
 | .tup _,_,h=>by
  unfold Rep at h ⊢
  obtain ⟨a,vs,e,q,r⟩:=h
  exact ⟨a,vs,e,s _ _ q,bH.mono s r⟩
 | .lst _,_,h=>by
  unfold Rep at h ⊢
  obtain ⟨a,vs,e,q,r⟩:=h
  exact ⟨a,vs,e,s.seq q,bH.mono s r⟩
 | .dct _ _ _,_,h=>by
  unfold Rep at h ⊢
  obtain ⟨a,vs,e,q,r⟩:=h
  refine ⟨a,vs,e,?_,bH.mono s r⟩
  rcases q with ⟨q0,kvs,q1,q2⟩ | ⟨q0,kvs,q1,q2⟩
  ·exact .inl ⟨q0,kvs,s _ _ q1,q2⟩
  ·exact .inr ⟨q0,kvs,s _ _ q1,q2⟩
 | .ins _ _ _,_,h=>by
  unfold Rep at h ⊢
  obtain ⟨a,C,dx,fs,vs,e,q1,q2,q3,q4,r⟩:=h
  exact ⟨a,C,dx,fs,vs,e,s _ _ q1,q2,q3,q4,bH.mono s r⟩
 | .exn _ _ _,_,h=>by
  unfold Rep at h ⊢
  obtain ⟨a,φ,C,e,q,hφ,hi,dx,fs,vs,h1,r⟩:=h
  refine ⟨a,φ,C,e,s _ _ q,hφ,hi,dx,fs,vs,?_,bH.mono s r⟩
  rcases h1 with h1 | ⟨h1,h2,h3,h4⟩
  ·exact .inl h1
  ·exact .inr ⟨h1,h2,s _ _ h3,h4⟩
theorem bH.mono{K:PySem.W.Frag}{H H':Hp}(s:aZ H H'):∀ {ds:List D} {vs:List V},bH K H ds vs->bH K H' ds vs
 | [],_,h=>by unfold bH at h ⊢; exact h
 | d :: ds,_,h=>by
  unfold bH at h ⊢
  obtain ⟨v,r,e,q,t⟩:=h
  exact ⟨v,r,e,Rep.mono s q,bH.mono s t⟩
end
section
variable{K:PySem.W.Frag}{H:Hp}
theorem bW{v:V}:Rep K H .non v ↔ v=V.non:=by unfold Rep;exact Iff.rfl
theorem bD{b:Bool}{v:V}:Rep K H (.bl b) v ↔ v=V.bl b:=by unfold Rep;exact Iff.rfl
theorem aQ{i:Int}{v:V}:Rep K H (.int i) v ↔ v=V.int i:=by unfold Rep;exact Iff.rfl
theorem bJ{s:List Nat}{v:V}:Rep K H (.str s) v ↔ v=V.str ⟨s.toArray⟩:=by unfold Rep;exact Iff.rfl
theorem pM{ds:List D}{v:V}:Rep K H (.tup ds) v ↔ ∃ a vs,v=V.ref a/\H a=some (.tup vs)/\bH K H ds vs:=by conv=>lhs;unfold Rep
theorem bB{ds:List D}{v:V}(h:Rep K H (.tup ds) v):∃ a vs,v=V.ref a/\SqT K H a vs/\bH K H ds vs :=
 let ⟨a,vs,e,q,r⟩:=pM.mp h;⟨a,vs,e,SqT.of q,r⟩
theorem bQ{ds:List D}{v:V}:Rep K H (.lst ds) v ↔ ∃ a vs,v=V.ref a/\SqL K H a vs/\bH K H ds vs:=by conv=>lhs;unfold Rep
theorem tV{t:Bool}{ks ds:List D}{v:V}:Rep K H (.dct t ks ds) v ↔ ∃ a vs,v=V.ref a/\((t=false/\∃ kvs:List (Key × V),H a=some (.dK kvs)/\kvs.map (fun p=>jU p.1)=ks/\vs=kvs.map (·.2))\/(t=true/\∃ kvs:List (List Key × V),H a=some (.dT kvs)/\kvs.map (fun p=>D.tup (p.1.map jU))=ks/\vs=kvs.map (·.2)))/\bH K H ds vs:=by conv=>lhs;unfold Rep
theorem aE6{c:String}{ns:List String}{ds:List D}{v:V}:Rep K H (.ins c ns ds) v ↔ ∃ a C dx fs vs,v=V.ref a/\H a=some (.ins C dx fs)/\PySem.W.nsIn K mainGlobals (Str.ofString c)=some (some (.ref C))/\fs.map (·.1)=ns.map Str.ofString/\vs=fs.map (·.2)/\bH K H ds vs:=by conv=>lhs;unfold Rep
theorem aQk{c:String}{ns:List String}{ds:List D}{v:V}:Rep K H (.exn c ns ds) v ↔ ∃ a φ C,v=V.ref a/\H a=some (.ext φ)/\(∀ h,φ h->aSz a C h)/\ExcIs K c C/\∃ dx fs vs,((ns=[]/\vs=[])\/(φ=xOb a C (some dx)/\dx≠a/\H dx=some (.ext (xFs dx fs))/\fs.map (·.1)=ns.map Str.ofString/\vs=fs.map (·.2)))/\bH K H ds vs:=by conv=>lhs;unfold Rep
theorem cP{vs:List V}:bH K H [] vs ↔ vs=[]:=by unfold bH;exact Iff.rfl
theorem bV{d:D}{ds:List D}{vs:List V}:bH K H (d :: ds) vs ↔ ∃ v r,vs=v :: r/\Rep K H d v/\bH K H ds r:=by conv=>lhs;unfold bH
theorem bH.nil:bH K H [] []:=cP.mpr rfl
theorem bH.cons{d:D}{ds:List D}{v:V}{vs:List V}(h:Rep K H d v)(t:bH K H ds vs):bH K H (d :: ds) (v :: vs):=bV.mpr ⟨v,vs,rfl,h,t⟩
theorem bH.length:∀ {ds:List D} {vs:List V},bH K H ds vs->vs.length=ds.length
 | [],_,h=>by rw [cP.mp h];rfl
 | _ :: ds,_,h=>by
  obtain ⟨v,r,rfl,_,t⟩:=bV.mp h
  rw [List.length_cons,List.length_cons,bH.length t]
theorem bH.get:∀ {ds:List D} {vs:List V} {i:Nat} {d:D},bH K H ds vs->ds[i]?=some d->∃ v,vs[i]?=some v/\Rep K H d v
 | [],_,_,_,_,e=>by simp at e
 | _ :: ds,_,0,d,h,e=>by
  obtain ⟨v,r,rfl,q,t⟩:=bV.mp h
  simp at e;subst e
  exact ⟨v,rfl,q⟩
 | _ :: ds,_,i+1,d,h,e=>by
  obtain ⟨v,r,rfl,q,t⟩:=bV.mp h
  obtain ⟨u,e1,e2⟩:=bH.get (i:=i) t (by simpa using e)
  exact ⟨u,by simpa using e1,e2⟩
theorem bH.append:∀ {ds es:List D} {vs us:List V},bH K H ds vs->bH K H es us->bH K H (ds++es) (vs++us)
 | [],_,_,_,h,t=>by rw [cP.mp h];exact t
 | _ :: _,_,_,_,h,t=>by
  obtain ⟨v,r,rfl,q,w⟩:=bV.mp h
  exact .cons q (bH.append w t)
theorem bH.set{d:D}{v:V}(hd:Rep K H d v):∀ {ds:List D} {vs:List V} (i:Nat),bH K H ds vs->bH K H (ds.set i d) (vs.set i v)
 | [],_,_,h=>by rw [cP.mp h];exact .nil
 | _ :: _,_,0,h=>by
  obtain ⟨v,r,rfl,q,w⟩:=bV.mp h
  exact .cons hd w
 | _ :: _,_,i+1,h=>by
  obtain ⟨v,r,rfl,q,w⟩:=bV.mp h
  exact .cons q (bH.set hd i w)
theorem bH.take:∀ {ds:List D} {vs:List V} (n:Nat),bH K H ds vs->bH K H (ds.take n) (vs.take n)
 | _,_,0,_ => .nil
 | [],_,_+1,h=>by rw [cP.mp h];exact .nil
 | _ :: _,_,n+1,h=>by
  obtain ⟨v,r,rfl,q,w⟩:=bV.mp h
  exact .cons q (bH.take n w)
theorem bH.drop:∀ {ds:List D} {vs:List V} (n:Nat),bH K H ds vs->bH K H (ds.drop n) (vs.drop n)
 | _,_,0,h=>h
 | [],_,_+1,h=>by rw [cP.mp h];exact .nil
 | _ :: _,_,n+1,h=>by
  obtain ⟨v,r,rfl,q,w⟩:=bV.mp h
  exact bH.drop n w
end
def hide(A:List Addr)(H:Hp):Hp:=fun b=>if b∈A then none else H b
theorem gC{A:List Addr}{H:Hp}{b:Addr}(h:b∈A):hide A H b=none:=if_pos h
theorem cF{A:List Addr}{H:Hp}{b:Addr}(h:b ∉ A):hide A H b=H b:=if_neg h
theorem bM(A:List Addr)(H:Hp):aZ (hide A H) H:=fun b o h=>by
 unfold hide at h
 split at h
 ·cases h
 ·exact h
theorem aZ.hide{A:List Addr}{H H':Hp}(s:aZ H H'):aZ (hide A H) (hide A H'):=fun b o h=>by
 unfold Pu.hide at h ⊢
 split at h
 ·cases h
 ·rename_i q
  rw [if_neg q]
  exact s b o h
theorem gU{A A':List Addr}{H:Hp}(h:∀ a∈A',a∈A):aZ (hide A H) (hide A' H):=fun b o q=>by
 by_cases hb:b∈A
 ·rw [gC hb] at q;cases q
 ·rw [cF hb] at q
  rw [cF fun z=>hb (h b z)]
  exact q
theorem sW(H:Hp):hide [] H=H:=by
 funext b
 exact cF (by simp)
theorem wV{A:List Addr}{H:Hp}{a:Addr}{o:HO}(h:a∈A):hide A (upd H a o)=hide A H:=by
 funext b
 by_cases hb:b∈A
 ·rw [gC hb,gC hb]
 ·rw [cF hb,cF hb]
  exact bT fun z=>hb (z ▸ h)
theorem dJ{H:Hp}{p:Addr}{o:HO}(h:H p=none):aZ H (upd H p o):=fun b u q=>by
 rw [bT (bK q h)];exact q
def Own(A:List Addr)(H:Hp):Prop:=∀ a∈A,(H a).isSome=true
theorem Own.mono{A:List Addr}{H H':Hp}(h:Own A H)(s:aZ H H'):Own A H':=fun a ha=>by
 obtain ⟨o,e⟩:=Option.isSome_iff_exists.mp (h a ha)
 rw [s a o e];rfl
theorem Own.free{A:List Addr}{H:Hp}(h:Own A H){p:Addr}(e:H p=none):p ∉ A:=fun z=>by
 have q:=h p z
 rw [e] at q;cases q
theorem jF{K:PySem.W.Frag}{A:List Addr}{H:Hp}{p:Addr}{ds:List D}{vs:List V}(w:Own A H)(e:H p=none)(h:bH K (hide A H) ds vs):Rep K (hide A (upd H p (.lst vs))) (.lst ds) (.ref p) :=
 bQ.mpr ⟨p,vs,rfl,SqL.of (by rw [cF (w.free e)];exact cL),h.mono (aZ.hide (dJ e))⟩
theorem zU{K:PySem.W.Frag}{A:List Addr}{H:Hp}{p:Addr}{ds:List D}{vs:List V}(w:Own A H)(e:H p=none)(h:bH K (hide A H) ds vs):Rep K (hide A (upd H p (.tup vs))) (.tup ds) (.ref p) :=
 pM.mpr ⟨p,vs,rfl,(by rw [cF (w.free e)];exact cL),h.mono (aZ.hide (dJ e))⟩
def KOk(K:PySem.W.Frag):OK->Addr->HO->List V->Prop
 | .l,_,o,vs=>o = .lst vs
 | .d t ks,_,o,vs=>(t=false/\∃ kvs:List (Key × V),o = .dK kvs/\kvs.map (fun p=>jU p.1)=ks/\vs=kvs.map (·.2))\/(t=true/\∃ kvs:List (List Key × V),o = .dT kvs/\kvs.map (fun p=>D.tup (p.1.map jU))=ks/\vs=kvs.map (·.2))
 | .i n c ns,a,o,vs=>a=n/\∃ C dx fs,o = .ins C dx fs/\PySem.W.nsIn K mainGlobals (Str.ofString c)=some (some (.ref C))/\fs.map (·.1)=ns.map Str.ofString/\vs=fs.map (·.2)
theorem KOk.rep{K:PySem.W.Frag}{H:Hp}{k:OK}{o:HO}{vs:List V}{ds:List D}{a:Addr}(ko:KOk K k a o vs)(h:H a=some o)(r:bH K H ds vs):Rep K H (ofK k ds) (.ref a):=by
 cases k with
 | l=>have e:o = .lst vs:=ko;subst e;exact bQ.mpr ⟨a,vs,rfl,SqL.of h,r⟩
 | d t ks =>
  refine tV.mpr ⟨a,vs,rfl,?_,r⟩
  rcases ko with ⟨q0,kvs,rfl,q⟩ | ⟨q0,kvs,rfl,q⟩
  ·exact .inl ⟨q0,kvs,h,q⟩
  ·exact .inr ⟨q0,kvs,h,q⟩
 | i n c ns =>
  obtain ⟨_,C,dx,fs,rfl,q1,q2,q3⟩:=ko
  exact aE6.mpr ⟨a,C,dx,fs,vs,rfl,h,q1,q2,q3,r⟩
structure RS(K:PySem.W.Frag)(B A:List Addr)(H:Hp)(st:PSt)(σ:LSt):Prop where
 len:st.length=σ.length
 own:Own (A++B) H
 dis:∀ a∈A,a ∉ B
 val:∀ (i:Nat) d,st[i]?=some (some (.v d))->∃ v,σ[i]?=some (some v)/\Rep K (hide (A++B) H) d v
 lst:∀ (i:Nat) k xs,st[i]?=some (some (.o k xs))->∃ a o vs,σ[i]?=some (some (.ref a))/\a∈A/\H a=some o/\KOk K k a o vs/\bH K (hide (A++B) H) xs vs /\
  ∀ (j:Nat) k' ys,st[j]?=some (some (.o k' ys))->σ[j]?=some (some (.ref a))->j=i
theorem RS.mono{K:PySem.W.Frag}{B A:List Addr}{H H':Hp}{st:PSt}{σ:LSt}(r:RS K B A H st σ)(s:aZ H H'):RS K B A H' st σ where
 len:=r.len
 own:=r.own.mono s
 dis:=r.dis
 val:=fun i d e=>let ⟨v,e1,q⟩:=r.val i d e;⟨v,e1,q.mono (aZ.hide s)⟩
 lst:=fun i k xs e=>let ⟨a,o,vs,e1,m,h,ko,q,u⟩:=r.lst i k xs e;⟨a,o,vs,e1,m,s _ _ h,ko,q.mono (aZ.hide s),u⟩
def Le(A:List Addr)(H:Hp)(A':List Addr)(H':Hp):Prop:=aZ (hide A H) (hide A' H')
theorem Le.refl{A:List Addr}{H:Hp}:Le A H A H:=aZ.refl _
theorem Le.of{A:List Addr}{H H':Hp}(s:aZ H H'):Le A H A H':=aZ.hide s
theorem Le.trans{A A1 A2:List Addr}{H H1 H2:Hp}(a:Le A H A1 H1)(b:Le A1 H1 A2 H2):Le A H A2 H2:=aZ.trans a b
def tI(K:PySem.W.Frag)(B:List Addr)(f:Ex):TE:=fun σ H Q=>∃ A st d,RS K B A H st σ/\f st = .ok d/\∀ v H',aZ H H'->Rep K (hide (A++B) H') d v->Q v H'
def iJ(K:PySem.W.Frag)(A:List Addr)(H:Hp)(d:D)(v:V):Prop :=
 Rep K (hide A H) d v\/∃ a k o ds vs,d=ofK k ds/\v=V.ref a/\H a=some o/\KOk K k a o vs/\bH K (hide A H) ds vs
theorem iJ.mono{K:PySem.W.Frag}{A:List Addr}{H H':Hp}{d:D}{v:V}(s:aZ H H')(h:iJ K A H d v):iJ K A H' d v:=by
 rcases h with h | ⟨a,k,o,ds,vs,e1,e2,e3,ko,q⟩
 ·exact .inl (h.mono (aZ.hide s))
 ·exact .inr ⟨a,k,o,ds,vs,e1,e2,s _ _ e3,ko,q.mono (aZ.hide s)⟩
def tP(K:PySem.W.Frag)(B:List Addr)(f:Ex):TE:=fun σ H Q=>∃ A st d,RS K B A H st σ/\f st = .ok d/\∀ v H',aZ H H'->iJ K (A++B) H' d v->Q v H'
def tA(K:PySem.W.Frag)(B:List Addr)(f:Exs):TA:=fun σ H Q=>∃ A st ds,RS K B A H st σ/\f st = .ok ds/\∀ vs H',aZ H H'->bH K (hide (A++B) H') ds vs->Q vs H'
def tT(K:PySem.W.Frag)(B:List Addr)(f:Ex):TT:=fun σ H Q=>∃ A st b,RS K B A H st σ/\f st = .ok (.bl b)/\∀ H',aZ H H'->Q b H'
def tO(K:PySem.W.Frag)(B:List Addr)(f:ExO):TO:=fun σ H Q=>∃ A st o,RS K B A H st σ/\f st = .ok o/\∀ H',aZ H H'->Q o H'
def aHm(K:PySem.W.Frag)(B A:List Addr)(H:Hp)(r:Fl)(Dn:Ends):Prop:=match r with
 | .nx st'=>∀ A' σ' H',Le A H A' H'->RS K B A' H' st' σ'->Dn.nx σ' H'
 | .bk st'=>∀ A' σ' H',Le A H A' H'->RS K B A' H' st' σ'->Dn.bk σ' H'
 | .ct st'=>∀ A' σ' H',Le A H A' H'->RS K B A' H' st' σ'->Dn.ct σ' H'
 | .rt d=>∀ A' v H',Le A H A' H'->Rep K (hide (A'++B) H') d v->Dn.rt v H'
theorem aHm.mono{K:PySem.W.Frag}{B A A1:List Addr}{H H1:Hp}{r:Fl}{Dn:Ends}(l:Le A H A1 H1)(p:aHm K B A H r Dn):aHm K B A1 H1 r Dn:=by
 cases r with
 | nx st=>exact fun A' σ' H' l'=>p A' σ' H' (l.trans l')
 | bk st=>exact fun A' σ' H' l'=>p A' σ' H' (l.trans l')
 | ct st=>exact fun A' σ' H' l'=>p A' σ' H' (l.trans l')
 | rt d=>exact fun A' v H' l'=>p A' v H' (l.trans l')
def tS(K:PySem.W.Frag)(B:List Addr)(b:Bd):TS:=fun Dn σ H=>∃ A st r,RS K B A H st σ/\b st = .ok r/\aHm K B A H r Dn
def aKs(K:PySem.W.Frag)(B A:List Addr)(H:Hp)(J:It)(ds:List D):Prop:=∀ A' H',Le A H A' H'->Own (A'++B) H'->∀ (i:Nat),
 (∀ d,ds[i]?=some d->J.go i H'/\∀ x H3,J.yld i H' x H3->aZ H' H3/\Rep K (hide (A'++B) H3) d x)/\(ds.length<=i->J.stop i H')
def tIt(K:PySem.W.Frag)(B:List Addr)(f:ItE):TI:=fun σ H R=>∃ A st ds,RS K B A H st σ/\f st = .ok ds/\∀ J H',aZ H H'->aKs K B A H' J ds->R J H'
def tG(K:PySem.W.Frag)(B:List Addr)(g:Tg):TG:=fun v σ H Q=>∃ A st d s1,RS K B A H st σ/\Rep K (hide (A++B) H) d v/\g d st = .ok s1/\∀ σ',RS K B A H s1 σ'->Q σ' H
section
variable{X:Cx}
theorem cT{e:Expr}{t t':TE}(h:PE X e t)(m:∀ σ H Q,t' σ H Q->t σ H Q):PE X e t':=fun pins s σ H Q I q=>h pins s σ H Q I (m σ H Q q)
theorem aHn{e:Expr}{t t':TT}(h:PT X e t)(m:∀ σ H Q,t' σ H Q->t σ H Q):PT X e t':=fun pins s σ H Q I q=>h pins s σ H Q I (m σ H Q q)
theorem aNq{e:Expr}{t t':TT}(h:PW X e t)(m:∀ σ H Q,t' σ H Q->t σ H Q):PW X e t':=fun w pins s σ H Q I q=>h w pins s σ H Q I (m σ H Q q)
theorem aNr{es:List Expr}{t t':TA}(h:PA X es t)(m:∀ σ H Q,t' σ H Q->t σ H Q):PA X es t':=fun pos pins s σ H Q I q=>h pos pins s σ H Q I (m σ H Q q)
theorem aNs{e:Option Expr}{t t':TO}(h:PO X e t)(m:∀ σ H Q,t' σ H Q->t σ H Q):PO X e t':=fun pins s σ H Q I q=>h pins s σ H Q I (m σ H Q q)
theorem fD{st:Stmt}{t t':TS}(h:PS X st t)(m:∀ D σ H,t' D σ H->t D σ H):PS X st t':=fun pins s σ H D I q=>h pins s σ H D I (m D σ H q)
theorem tW{st:List Stmt}{t t':TS}(h:PSs X st t)(m:∀ D σ H,t' D σ H->t D σ H):PSs X st t':=fun pins s σ H D I q=>h pins s σ H D I (m D σ H q)
theorem aNt{e:Expr}{t t':TG}(h:PG X e t)(m:∀ v σ H Q,t' v σ H Q->t v σ H Q):PG X e t':=fun pins s σ H v u Q I r q=>h pins s σ H v u Q I r (m v σ H Q q)
theorem aHo{tg e:Expr}{t t':TI}(h:L2.PI X tg e t)(m:∀ σ H R,t' σ H R->t σ H R):L2.PI X tg e t':=fun pins s σ H R I q=>h pins s σ H R I (m σ H R q)
end
section
variable{X:Cx}{B:List Addr}{a b e:Expr}{f g h:Ex}{pos:Pos}
theorem aA(i:Nat){x:Str}(hN:X.N[i]?=some x:=by rfl)(hv:Vis X.env.scope x:=by first | exact Or.inl rfl | exact Or.inr (Or.inl rfl) | exact Or.inr (Or.inr rfl))(hd:(x==("__debug__" : Str))=false:=by decide)
  (hcd:(x==("__classdict__" : Str))=false:=by decide):PE X (.Name x pos) (tI X.K B (aB i)):=by
 refine cT (rO hN hv hd hcd) ?_
 rintro σ H Q ⟨A,st,d,rs,hd,q⟩
 unfold aB at hd
 split at hd
 ·rename_i d' e
  cases hd
  obtain ⟨v,e1,r⟩:=rs.val i _ e
  exact ⟨v,e1,q v H (aZ.refl _) r⟩
 ·cases hd
end
end Pu
namespace Pu
open PySem PySem.Spec PyProof.Rows L2
section
variable{X:Cx}{B:List Addr}{a b e:Expr}{f g:Ex}{pos:Pos}
theorem i_c{d:D}{v:V}(h:PE X e (tC v))(r:∀ H,Rep X.K H d v):PE X e (tI X.K B (eC d)):=cT h (by
 rintro σ H Q ⟨A,st,d',rs,hd,q⟩
 cases hd
 exact q v H (aZ.refl _) (r _))
theorem aN{i:Int}{j:Nat}:PE X (.Constant (.int i) j pos) (tI X.K B (eC (.int i))):=i_c aT7 fun _=>aQ.mpr rfl
theorem aCc{q:Bool}{j:Nat}:PE X (.Constant (.bool q) j pos) (tI X.K B (eC (.bl q))):=i_c aWk fun _=>bD.mpr rfl
theorem aFn{j:Nat}:PE X (.Constant .none j pos) (tI X.K B (eC .non)):=i_c aT8 fun _=>bW.mpr rfl
theorem sX{x:Str}{j:Nat}(s:List Nat)(hx:x=⟨s.toArray⟩:=by first | rfl | decide | decide +kernel):PE X (.Constant (.str x) j pos) (tI X.K B (eC (.str s))):=i_c aT9 fun _=>bJ.mpr (by rw [hx])
theorem aHp{x y:Str}{t:Tok}(s:List Nat)(hm:X.mg x=some (.str y t))(hg:Gl X x:=by rfl)(hy:y=⟨s.toArray⟩:=by first | rfl | decide | decide +kernel)(hd:(x==("__debug__" : Str))=false:=by decide):PE X (.Name x pos) (tI X.K B (eC (.str s))) :=
 i_c (aI8 (v := .str y) hg hm ⟨t,rfl⟩ hd) fun _=>bJ.mpr (by rw [hy])
theorem aNu{x:Str}{i:Int}{t:Tok}(hm:X.mg x=some (.int i t))(hg:Gl X x:=by rfl)(hd:(x==("__debug__" : Str))=false:=by decide):PE X (.Name x pos) (tI X.K B (eC (.int i))) :=
 i_c (aI8 (v := .int i) hg hm ⟨t,rfl⟩ hd) fun _=>aQ.mpr rfl
theorem toP(h:PE X e (tI X.K B f)):PE X e (tP X.K B f):=cT h (by
 rintro σ H Q ⟨A,st,d,rs,hd,q⟩
 exact ⟨A,st,d,rs,hd,fun v H' s r=>q v H' s (.inl r)⟩)
theorem jY(i:Nat){x:Str}(hN:X.N[i]?=some x:=by rfl)(hv:Vis X.env.scope x:=by first | exact Or.inl rfl | exact Or.inr (Or.inl rfl) | exact Or.inr (Or.inr rfl))(hd:(x==("__debug__" : Str))=false:=by decide)
  (hcd:(x==("__classdict__" : Str))=false:=by decide):PE X (.Name x pos) (tP X.K B (fX i)):=by
 refine cT (rO hN hv hd hcd) ?_
 rintro σ H Q ⟨A,st,d,rs,hd,q⟩
 unfold fX at hd
 split at hd
 ·rename_i d' e
  cases hd
  obtain ⟨v,e1,r⟩:=rs.val i _ e
  exact ⟨v,e1,q v H (aZ.refl _) (.inl r)⟩
 ·rename_i k xs e
  cases hd
  obtain ⟨a,o,vs,e1,m,h,ko,r,_⟩:=rs.lst i _ _ e
  exact ⟨_,e1,q _ H (aZ.refl _) (.inr ⟨a,_,o,xs,vs,rfl,rfl,h,ko,r⟩)⟩
 ·cases hd
section
variable{K:PySem.W.Frag}{A:List Addr}{H:Hp}{v:V}
theorem iJ.non(h:iJ K A H .non v):v=V.non:=by
 rcases h with h | ⟨_,k,_,_,_,e,_⟩
 ·exact bW.mp h
 ·cases k<;>cases e
theorem iJ.bl{q:Bool}(h:iJ K A H (.bl q) v):v=V.bl q:=by
 rcases h with h | ⟨_,k,_,_,_,e,_⟩
 ·exact bD.mp h
 ·cases k<;>cases e
theorem iJ.int{i:Int}(h:iJ K A H (.int i) v):v=V.int i:=by
 rcases h with h | ⟨_,k,_,_,_,e,_⟩
 ·exact aQ.mp h
 ·cases k<;>cases e
theorem iJ.str{s:List Nat}(h:iJ K A H (.str s) v):v=V.str ⟨s.toArray⟩:=by
 rcases h with h | ⟨_,k,_,_,_,e,_⟩
 ·exact bJ.mp h
 ·cases k<;>cases e
theorem iJ.tup{ds:List D}(h:iJ K A H (.tup ds) v):∃ a vs,v=V.ref a/\SqT K H a vs/\bH K (hide A H) ds vs:=by
 rcases h with h | ⟨_,k,_,_,_,e,_⟩
 ·obtain ⟨a,vs,e,q,r⟩:=bB h
  exact ⟨a,vs,e,sV (bM _ _) q,r⟩
 ·cases k<;>cases e
theorem iJ.lst{ds:List D}(h:iJ K A H (.lst ds) v):∃ a vs,v=V.ref a/\SqL K H a vs/\bH K (hide A H) ds vs:=by
 rcases h with h | ⟨a,k,o,ds',vs,e,e2,h,ko,r⟩
 ·obtain ⟨a,vs,e,q,r⟩:=bQ.mp h
  exact ⟨a,vs,e,(bM _ _).seq q,r⟩
 ·cases k<;>cases e
  have e3:o = .lst vs:=ko
  subst e3
  exact ⟨a,vs,e2,SqL.of h,r⟩
end
def uB(K:PySem.W.Frag)(r:R2)(o:Op2):Prop:=∀ (A:List Addr) (H:Hp) (x y d:D) (v u:V) (Q:VK),Own A H->iJ K A H x v->iJ K A H y u->o x y = .ok d ->
 (∀ w H',aZ H H'->Rep K (hide A H') d w->Q w H')->r v u H Q
theorem aE7{r:R2}{o:Op2}(sem:uB X.K r o){σ:LSt}{H:Hp}{Q:VK}(h:tI X.K B (e2 o f g) σ H Q):tOp r (tP X.K B f) (tP X.K B g) σ H Q:=by
 obtain ⟨A,st,d,rs,hd,q⟩:=h
 obtain ⟨x,hx,h2⟩:=R.ok_of hd
 obtain ⟨y,hy,h3⟩:=R.ok_of h2
 refine ⟨A,st,x,rs,hx,fun v H1 s1 r1=>⟨A,st,y,rs.mono s1,hy,fun u H2 s2 r2=>?_⟩⟩
 exact sem (A++B) H2 x y d v u Q (rs.own.mono (s1.trans s2)) (r1.mono s2) r2 h3 fun w H' s' r'=>q w H' (s1.trans (s2.trans s')) r'
theorem aCd{op:Operator}{r:R2}{o:Op2}(ho:OpR X (binaryOp op) r)(sem:uB X.K r o)(ha:PE X a (tP X.K B f))(hb:PE X b (tP X.K B g)):PE X (.BinOp a op b pos) (tI X.K B (e2 o f g)) :=
 cT (aWv ho ha hb) fun _ _ _ h=>aE7 sem h
theorem iK{op:CmpOp}{r:R2}{o:Op2}(ho:OpR X (compareOp op) r)(sem:uB X.K r o)(ha:PE X a (tP X.K B f))(hb:PE X b (tP X.K B g))(hm:behindInMarks op b=false):PE X (.Compare a [op] [b] pos) (tI X.K B (e2 o f g)) :=
 cT (aPd ho ha hb hm) fun _ _ _ h=>aE7 sem h
theorem aYe{f:Ex}{σ:LSt}{H:Hp}{Q:Bool->Hp->Prop}(h:tT X.K B f σ H Q):tI X.K B f σ H fun x H'=>∃ k,x = .bl k/\Q k H':=by
 obtain ⟨A,st,k,rs,hk,q⟩:=h
 exact ⟨A,st,.bl k,rs,hk,fun v H' s r=>⟨k,bD.mp r,q H' s⟩⟩
theorem cD{op:CmpOp}{r:R2}{o:Op2}(ho:OpR X (compareOp op) r)(sem:uB X.K r o)(ha:PE X a (tP X.K B f))(hb:PE X b (tP X.K B g))(hm:behindInMarks op b=false):PT X (.Compare a [op] [b] pos) (tT X.K B (e2 o f g)) :=
 aHn (aPe ho ha hb hm) fun _ _ _ h=>aE7 sem (aYe h)
theorem iM{f:Ex}(h:PE X e (tI X.K B f))(he:∀ whole,isTrue e X.env whole=(do let v <- whole;standAt e.pos;holding [v] (truthy v)):=by intro _;rfl):PT X e (tT X.K B f) :=
 aHn (aTa h he) fun _ _ _ q=>aYe q
theorem qL{K:PySem.W.Frag}{g:Int->Int->D}{gv:Int->Int->V}{o:Op2}(hr:∀ H i j,Rep K H (g i j) (gv i j))(ho:∀ x y d,o x y = .ok d->∃ i j,x = .int i/\y = .int j/\d=g i j):uB K (rI0 gv) o:=by
 intro A H x y d v u Q w rx ry e q
 obtain ⟨i,j,rfl,rfl,rfl⟩:=ho x y d e
 exact ⟨i,j,rx.int,ry.int,q _ H (aZ.refl _) (hr _ _ _)⟩
theorem aBh{K:PySem.W.Frag}{C:Int->Int->Prop}{g:Int->Int->D}{gv:Int->Int->V}{o:Op2}(hr:∀ H i j,Rep K H (g i j) (gv i j))(ho:∀ x y d,o x y = .ok d->∃ i j,x = .int i/\y = .int j/\C i j/\d=g i j):uB K (rI C gv) o:=by
 intro A H x y d v u Q w rx ry e q
 obtain ⟨i,j,rfl,rfl,c,rfl⟩:=ho x y d e
 exact ⟨i,j,rx.int,ry.int,c,q _ H (aZ.refl _) (hr _ _ _)⟩
theorem aT0(ha:PE X a (tP X.K B f))(hb:PE X b (tP X.K B g)):PE X (.BinOp a .Sub b pos) (tI X.K B (e2 aGy f g)) :=
 aCd aTn (qL (g:=fun i j => .int (i - j)) (fun _ _ _=>aQ.mpr rfl) fun x y d e=>by
  unfold aGy at e
  split at e
  ·cases e;exact ⟨_,_,rfl,rfl,rfl⟩
  ·cases e) ha hb
theorem aHq(ha:PE X a (tP X.K B f))(hb:PE X b (tP X.K B g)):PE X (.BinOp a .FloorDiv b pos) (tI X.K B (e2 zJ f g)) :=
 aCd aPb (aBh (g:=fun i j => .int (i / j)) (fun _ _ _=>aQ.mpr rfl) fun x y d e=>by
  unfold zJ at e
  split at e
  ·obtain ⟨c,e⟩:=aJ e;cases e;exact ⟨_,_,rfl,rfl,c,rfl⟩
  ·cases e) ha hb
theorem rC(ha:PE X a (tP X.K B f))(hb:PE X b (tP X.K B g)):PE X (.BinOp a .Mod b pos) (tI X.K B (e2 oW f g)) :=
 aCd aTp (aBh (g:=fun i j => .int (i % j)) (fun _ _ _=>aQ.mpr rfl) fun x y d e=>by
  unfold oW at e
  split at e
  ·obtain ⟨c,e⟩:=aJ e;cases e;exact ⟨_,_,rfl,rfl,c,rfl⟩
  ·cases e) ha hb
theorem aYf(ha:PE X a (tP X.K B f))(hb:PE X b (tP X.K B g)):PE X (.BinOp a .Pow b pos) (tI X.K B (e2 aMf f g)) :=
 aCd aTq (aBh (g:=fun i j => .int (i ^ j.toNat)) (fun _ _ _=>aQ.mpr rfl) fun x y d e=>by
  unfold aMf at e
  split at e
  ·obtain ⟨c,e⟩:=aJ e;cases e;exact ⟨_,_,rfl,rfl,c,rfl⟩
  ·cases e) ha hb
def aYg(K:PySem.W.Frag):R2:=fun x y H Q=>∃ l b xs zs,x = .ref l/\y = .ref b/\SqL K H l xs/\SqL K H b zs/\xs.length+zs.length<=sizeLine/\∀ p,H p=none->Q (.ref p) (upd H p (.lst (xs++zs)))
theorem aQl:OpR X (binaryOp .Add) (aYg X.K):=by
 intro pins s σ H x y v u Q I rx ry h
 obtain ⟨l,b,xs,zs,rfl,rfl,hH,hB,hz,q⟩:=h
 cases rx
 cases ry
 obtain ⟨its,r,⟨⟨cls,dd,data,sl⟩,n,ho,hc,_,hd⟩,z⟩:=I.list hH
 obtain ⟨its2,r2,⟨⟨cls2,dd2,data2,sl2⟩,n2,ho2,hc2,_,hd2⟩,z2⟩:=I.list hB
 simp only at hc hd hc2 hd2
 subst hc hd hc2 hd2
 have l1:=r.length
 have l2:=r2.length
 refine concat_meets ⟨_,ho,rfl⟩ ⟨_,ho2,rfl⟩ noFill_list_add seq_list_add PySem.F.slot_list_add PySem.F.entry_list_add (PySem.F.args_list_add_2 _ _) (list_addW l b its.toArray its2.toArray n n2 dd dd2 sl sl2 (by simp only [List.size_toArray];omega)) ⟨ho,ho2,?_⟩
 have ea:its.toArray++its2.toArray=(its++its2).toArray:=by simp
 rw [ea]
 exact ⟨.ref _,_,I.lnew (t':=s.toks) (r.append r2) (by rw [List.length_append];omega),rfl,q _ I.fresh⟩
theorem aQm(x y:List Nat):(⟨x.toArray⟩:Str)++(⟨y.toArray⟩:Str)=⟨(x++y).toArray⟩:=by
 show Str.append _ _=_
 unfold Str.append
 simp
theorem str_len(x:List Nat):(⟨x.toArray⟩:Str).length=x.length:=by simp [Str.length]
theorem lim{n:Nat}(h:n<=big):n<=sizeLine:=Nat.le_trans (by rw [mU] at h;exact h:n<=10000000) (by decide)
theorem jP(ha:PE X a (tP X.K B f))(hb:PE X b (tP X.K B g)):PE X (.BinOp a .Add b pos) (tI X.K B (e2 jT f g)):=by
 refine aCd (aTm.or (aGq.or aQl)) ?_ ha hb
 intro A H x y d v u Q w rx ry e q
 cases x<;>cases y<;>first | (cases e;done) | skip
 ·cases e
  exact .inl ⟨_,_,rx.int,ry.int,q _ H (aZ.refl _) (aQ.mpr rfl)⟩
 ·obtain ⟨c,e⟩:=aJ e
  cases e
  exact .inr (.inl ⟨_,_,rx.str,ry.str,by rw [str_len,str_len];exact lim c,q _ H (aZ.refl _) (bJ.mpr (by rw [aQm]))⟩)
 ·obtain ⟨c,e⟩:=aJ e
  cases e
  obtain ⟨l,xs,e1,h1,r1⟩:=rx.lst
  obtain ⟨m,ys,e2,h2,r2⟩:=ry.lst
  have l1:=r1.length
  have l2:=r2.length
  refine .inr (.inr ⟨l,m,xs,ys,e1,e2,h1,h2,by rw [l1,l2];exact lim c,fun p hp=>q _ _ (dJ hp) ?_⟩)
  exact jF w hp (r1.append r2)
theorem aNv{K:PySem.W.Frag}:uB K (rI0 fun i j => .bl (decide (i<=j))) dLe:=qL (g:=fun i j => .bl (decide (i<=j))) (fun _ _ _=>bD.mpr rfl) fun x y d e=>by
 unfold dLe at e
 split at e
 ·cases e;exact ⟨_,_,rfl,rfl,rfl⟩
 ·cases e
theorem aE8{K:PySem.W.Frag}:uB K (rI0 fun i j => .bl (decide (j < i))) dGt:=qL (g:=fun i j => .bl (decide (j < i))) (fun _ _ _=>bD.mpr rfl) fun x y d e=>by
 unfold dGt at e
 split at e
 ·cases e;exact ⟨_,_,rfl,rfl,rfl⟩
 ·cases e
theorem aHr{K:PySem.W.Frag}:uB K (rI0 fun i j => .bl (decide (j<=i))) dGe:=qL (g:=fun i j => .bl (decide (j<=i))) (fun _ _ _=>bD.mpr rfl) fun x y d e=>by
 unfold dGe at e
 split at e
 ·cases e;exact ⟨_,_,rfl,rfl,rfl⟩
 ·cases e
theorem iJ.ref{K:PySem.W.Frag}{A:List Addr}{H:Hp}{d:D}{v:V}(h:iJ K A H d v)(h1:d ≠ .non)(h2:∀ b,d ≠ .bl b)(h3:∀ i,d ≠ .int i)(h4:∀ s,d ≠ .str s):∃ a,v=V.ref a:=by
 rcases h with h | ⟨a,_,_,_,_,_,e,_⟩
 ·cases d with
  | non=>exact (h1 rfl).elim
  | bl b=>exact (h2 b rfl).elim
  | int i=>exact (h3 i rfl).elim
  | str s=>exact (h4 s rfl).elim
  | tup _=>obtain ⟨a,_,e,_⟩:=bB h;exact ⟨a,e⟩
  | lst _=>obtain ⟨a,_,e,_⟩:=bQ.mp h;exact ⟨a,e⟩
  | dct _ _ _=>obtain ⟨a,_,e,_⟩:=tV.mp h;exact ⟨a,e⟩
  | ins _ _ _=>obtain ⟨a,_,_,_,_,e,_⟩:=aE6.mp h;exact ⟨a,e⟩
  | exn _ _ _=>obtain ⟨a,_,_,e,_⟩:=aQk.mp h;exact ⟨a,e⟩
 ·exact ⟨a,e⟩
theorem aQn{K:PySem.W.Frag}{A:List Addr}{H:Hp}{d:D}{v:V}(h:iJ K A H d v):decide (v=V.non)=isN d:=by
 cases d with
 | non=>rw [h.non];rfl
 | bl _=>rw [h.bl];rfl
 | int _=>rw [h.int];rfl
 | str _=>rw [h.str];rfl
 | tup _=>obtain ⟨a,vs,e,_⟩:=h.tup;rw [e];rfl
 | lst _=>obtain ⟨a,vs,e,_⟩:=h.lst;rw [e];rfl
 | dct _ _ _=>obtain ⟨a,e⟩:=h.ref (by intro z;cases z) (by intro _ z;cases z) (by intro _ z;cases z) (by intro _ z;cases z);rw [e];rfl
 | ins _ _ _=>obtain ⟨a,e⟩:=h.ref (by intro z;cases z) (by intro _ z;cases z) (by intro _ z;cases z) (by intro _ z;cases z);rw [e];rfl
 | exn _ _ _=>obtain ⟨a,e⟩:=h.ref (by intro z;cases z) (by intro _ z;cases z) (by intro _ z;cases z) (by intro _ z;cases z);rw [e];rfl
theorem aFo(n:Nat)(i:Int):L2.ixN n i=Pu.ixN n i:=rfl
theorem bH.atI{K:PySem.W.Frag}{H:Hp}{ds:List D}{vs:List V}{i:Int}{d:D}(r:bH K H ds vs)(e:Pu.atI ds i=some d):∃ v,L2.atI vs i=some v/\Rep K H d v:=by
 unfold Pu.atI at e
 unfold L2.atI
 rw [r.length,aFo]
 cases h:Pu.ixN ds.length i with
 | none=>rw [h] at e;cases e
 | some j =>
  rw [h] at e
  exact r.get e
theorem qM{α:Type}{o:Option α}{a:α}(h:ofO o = .ok a):o=some a:=by
 cases o with
 | none=>cases h
 | some b=>cases h;rfl
theorem aV9{K:PySem.W.Frag}{x:D}(hd:aXd x=false)(A:List Addr)(H:Hp)(x' y d:D)(v u:V)(Q:VK)(w:Own A H)(rx:iJ K A H x v)(ry:iJ K A H y u)(e:dIx x y = .ok d)(q:∀ w H',aZ H H'->Rep K (hide A H') d w->Q w H'):rIx K v u H Q:=by
 cases x<;>first | (cases hd;done) | skip
 all_goals cases y
 all_goals first | (cases e;done) | skip
 ·rename_i s i
  obtain ⟨hz,e⟩:=aJ e
  have e:=qM e
  cases h:Pu.atI s i with
  | none=>rw [h] at e;cases e
  | some c =>
   rw [h] at e
   cases e
   refine .inr (.inr ⟨_,i,c,rx.str,ry.int,by rw [str_len];exact lim hz,?_,q _ H (aZ.refl _) (bJ.mpr rfl)⟩)
   show L2.atI s.toArray.toList i=some c
   rw [List.toList_toArray]
   exact h
 ·rename_i ds i
  have h:=qM (show ofO (Pu.atI ds i) = .ok d from e)
  obtain ⟨l,xs,e1,h1,r1⟩:=rx.tup
  obtain ⟨z,h2,r2⟩:=r1.atI h
  exact .inr (.inl ⟨l,xs,i,z,e1,ry.int,h1,h2,q _ H (aZ.refl _) r2⟩)
 ·rename_i ds i
  have h:=qM (show ofO (Pu.atI ds i) = .ok d from e)
  obtain ⟨l,xs,e1,h1,r1⟩:=rx.lst
  obtain ⟨z,h2,r2⟩:=r1.atI h
  exact .inl ⟨l,xs,i,z,e1,ry.int,h1,h2,q _ H (aZ.refl _) r2⟩
theorem vI(h:PE X a (tI X.K B f)):PE X (.BoolOp .And [a] pos) (tI X.K B f):=aLr h
theorem aT1(h:PE X a (tI X.K B f)):PE X (.BoolOp .Or [a] pos) (tI X.K B f):=aLr h
theorem uI{rest:List Expr}(ha:PE X a (tI X.K B f))(hb:PE X (.BoolOp .And (b :: rest) pos) (tI X.K B g)):PE X (.BoolOp .And (a :: b :: rest) pos) (tI X.K B (mF f g)):=by
 refine cT (aTe ha hb) ?_
 rintro σ H Q ⟨A,st,d,rs,hd,q⟩
 obtain ⟨x,hx,h2⟩:=R.ok_of hd
 obtain ⟨k,rfl,h3⟩:=pX h2
 refine ⟨A,st,_,rs,hx,fun v H1 s1 r1=>⟨k,bD.mp r1,?_⟩⟩
 cases k with
 | true=>exact ⟨A,st,d,rs.mono s1,h3,fun w H' s' r'=>q w H' (s1.trans s') r'⟩
 | false=>cases h3;exact q _ H1 s1 (bD.mpr rfl)
theorem aYh{rest:List Expr}(ha:PE X a (tI X.K B f))(hb:PE X (.BoolOp .Or (b :: rest) pos) (tI X.K B g)):PE X (.BoolOp .Or (a :: b :: rest) pos) (tI X.K B (eOr f g)):=by
 refine cT (aWo ha hb) ?_
 rintro σ H Q ⟨A,st,d,rs,hd,q⟩
 obtain ⟨x,hx,h2⟩:=R.ok_of hd
 obtain ⟨k,rfl,h3⟩:=pX h2
 refine ⟨A,st,_,rs,hx,fun v H1 s1 r1=>⟨k,bD.mp r1,?_⟩⟩
 cases k with
 | true=>cases h3;exact q _ H1 s1 (bD.mpr rfl)
 | false=>exact ⟨A,st,d,rs.mono s1,h3,fun w H' s' r'=>q w H' (s1.trans s') r'⟩
theorem aYi(ha:PE X a (tI X.K B f)):PE X (.UnaryOp .Not a pos) (tI X.K B (pY f)):=by
 refine cT (aTf ha) ?_
 rintro σ H Q ⟨A,st,d,rs,hd,q⟩
 obtain ⟨x,hx,h2⟩:=R.ok_of hd
 obtain ⟨k,rfl,h3⟩:=pX h2
 cases h3
 exact ⟨A,st,_,rs,hx,fun v H1 s1 r1=>⟨k,bD.mp r1,q _ H1 s1 (bD.mpr rfl)⟩⟩
theorem vJ(h:PT X a (tT X.K B f)):PW X (.BoolOp .And [a] pos) (tT X.K B f):=aP5 h
theorem aJ9(h:PT X a (tT X.K B f)):PW X (.BoolOp .Or [a] pos) (tT X.K B f):=aTb h
theorem aBi{rest:List Expr}(ha:PT X a (tT X.K B f))(hb:PW X (.BoolOp .And (b :: rest) pos) (tT X.K B g)):PW X (.BoolOp .And (a :: b :: rest) pos) (tT X.K B (mF f g)):=by
 refine aNq (aTc ha hb) ?_
 rintro σ H Q ⟨A,st,d,rs,hd,q⟩
 obtain ⟨x,hx,h2⟩:=R.ok_of hd
 obtain ⟨k,rfl,h3⟩:=pX h2
 refine ⟨A,st,k,rs,hx,fun H1 s1=>?_⟩
 cases k with
 | true=>exact ⟨A,st,d,rs.mono s1,h3,fun H' s'=>q H' (s1.trans s')⟩
 | false=>cases h3;exact q H1 s1
theorem aNw{rest:List Expr}(ha:PT X a (tT X.K B f))(hb:PW X (.BoolOp .Or (b :: rest) pos) (tT X.K B g)):PW X (.BoolOp .Or (a :: b :: rest) pos) (tT X.K B (eOr f g)):=by
 refine aNq (aWl ha hb) ?_
 rintro σ H Q ⟨A,st,d,rs,hd,q⟩
 obtain ⟨x,hx,h2⟩:=R.ok_of hd
 obtain ⟨k,rfl,h3⟩:=pX h2
 refine ⟨A,st,k,rs,hx,fun H1 s1=>?_⟩
 cases k with
 | true=>cases h3;exact q H1 s1
 | false=>exact ⟨A,st,d,rs.mono s1,h3,fun H' s'=>q H' (s1.trans s')⟩
theorem sY(ha:PT X a (tT X.K B f)):PT X (.UnaryOp .Not a pos) (tT X.K B (pY f)):=by
 refine aHn (aTd ha) ?_
 rintro σ H Q ⟨A,st,d,rs,hd,q⟩
 obtain ⟨x,hx,h2⟩:=R.ok_of hd
 obtain ⟨k,rfl,h3⟩:=pX h2
 cases h3
 exact ⟨A,st,k,rs,hx,fun H1 s1=>q H1 s1⟩
theorem bC:PA X [] (tA X.K B bG):=aNr mR (by
 rintro σ H Q ⟨A,st,d,rs,hd,q⟩
 cases hd
 exact q [] H (aZ.refl _) .nil)
theorem aD{es:List Expr}{r:Exs}(ha:PE X e (tI X.K B f))(hr:PA X es (tA X.K B r))(hs:starEach (e :: es) X.env=(false,eval e X.env) :: starEach es X.env:=by rfl):PA X (e :: es) (tA X.K B (aC f r)):=by
 refine aNr (fW ha hr hs) ?_
 rintro σ H Q ⟨A,st,ds,rs,hd,q⟩
 obtain ⟨x,hx,h2⟩:=R.ok_of hd
 obtain ⟨xs,hxs,h3⟩:=R.ok_of h2
 cases h3
 refine ⟨A,st,x,rs,hx,fun v H1 s1 r1=>⟨A,st,xs,rs.mono s1,hxs,fun vs H2 s2 r2=>?_⟩⟩
 exact q _ H2 (s1.trans s2) (.cons (r1.mono (aZ.hide s2)) r2)
theorem aYj{es:List Expr}{r:Exs}{x1:Nat}(h:PA X es (tA X.K B r)):PE X (.Tuple es x1 pos) (tI X.K B (aUa r)):=by
 refine cT (aTx h) ?_
 rintro σ H Q ⟨A,st,d,rs,hd,q⟩
 obtain ⟨xs,hx,h2⟩:=R.ok_of hd
 obtain ⟨c,h3⟩:=aJ h2
 cases h3
 refine ⟨A,st,xs,rs,hx,fun vs H1 s1 r1=>⟨by rw [r1.length];exact lim c,fun p hp=>q _ _ (s1.trans (dJ hp)) ?_⟩⟩
 exact zU (rs.own.mono s1) hp r1
theorem aBj{es:List Expr}{r:Exs}(h:PA X es (tA X.K B r)):PE X (.List es pos) (tI X.K B (nQ r)):=by
 refine cT (aM0 h) ?_
 rintro σ H Q ⟨A,st,d,rs,hd,q⟩
 obtain ⟨xs,hx,h2⟩:=R.ok_of hd
 obtain ⟨c,h3⟩:=aJ h2
 cases h3
 refine ⟨A,st,xs,rs,hx,fun vs H1 s1 r1=>⟨by rw [r1.length];exact lim c,fun p hp=>q _ _ (s1.trans (dJ hp)) ?_⟩⟩
 exact jF (rs.own.mono s1) hp r1
def spI(K:PySem.W.Frag)(np:Nat)(p:List D->R D):Sp:=fun vs H Q _=>∃ A ds d,Own A H/\bH K (hide A H) ds vs/\ds.length=np/\p ds = .ok d/\∀ v H',aZ H H'->Rep K (hide A H') d v->Q v H'
theorem aVa{k:Nat}{fa:Addr}{fd:FuncData}{ps:List Str}{x:Str}{p0:Pos}{es:List Expr}{r:Exs}{np:Nat}{p:List D->R D}(F:FnOk X.prog X.w X.K X.mg X.base CX0 k fa fd ps (spI X.K np p))(hr:Room k X.A)(hm:X.mg x=some (.ref fa))
  (hk:PySem.W.keepIn X.K (.ref fa)=true) (hb:Binds X.K fd ps []) (hl:∀ ds d,p ds = .ok d->ds.length=np) (ha:PA X (e :: es) (tA X.K B r)) (hg:Gl X x:=by rfl) (hdb:(x==("__debug__" : Str))=false:=by decide)
  (he:starEach (e :: es) X.env=(false,eval e X.env) :: starEach es X.env:=by rfl) (hpl:(backTo pos (starEach es X.env)).any (·.1)=false:=by rfl) :
  PE X (.Call (.Name x p0) (e :: es) [] pos) (tI X.K B (aY p r)):=by
 refine cT (aPi F hr hg hm hk hb .nil aM8 ha hdb he hpl) ?_
 rintro σ H Q ⟨A,st,d,rs,hd,q⟩
 obtain ⟨xs,hx,h2⟩:=R.ok_of hd
 refine ⟨A,st,xs,rs,hx,fun vs H1 s1 r1=>?_⟩
 show spI X.K np p (vs++[]) H1 Q E0
 rw [List.append_nil]
 exact ⟨A++B,xs,d,rs.own.mono s1,r1,hl _ _ h2,h2,fun w H' s' r'=>q w H' (s1.trans s') r'⟩
end
end Pu
namespace Pu
open PySem PySem.Spec PyProof.Rows L2
theorem aE9(a b:Key):eqK (jU a) (jU b)=decide (a=b):=by
 cases a with
 | inl i =>
  cases b with
  | inl j=>unfold jU eqK;rw [aLm]
  | inr y=>unfold jU eqK;rw [aLo]
 | inr x =>
  cases b with
  | inl j=>unfold jU eqK;rw [aLp]
  | inr y =>
   unfold jU eqK
   rw [aLn,Bool.eq_iff_iff,beq_iff_eq,decide_eq_true_eq]
   constructor
   ·intro h
    cases x;cases y
    congr 1
    exact Array.ext' h
   ·rintro rfl;rfl
theorem aFp:∀ (a b:List Key),aGz (a.map jU) (b.map jU)=decide (a=b)
 | [],[]=>by unfold aGz;simp
 | [],_ :: _=>by unfold aGz;simp
 | _ :: _,[]=>by unfold aGz;simp
 | x :: a,y :: b=>by
  have ih:=aFp a b
  rw [List.map_cons,List.map_cons]
  unfold aGz
  rw [aE9,ih,Bool.eq_iff_iff,Bool.and_eq_true,decide_eq_true_eq,decide_eq_true_eq,decide_eq_true_eq,List.cons.injEq]
theorem aFq(a b:List Key):eqK (.tup (a.map jU)) (.tup (b.map jU))=decide (a=b):=by
 rw [<-aFp]
 conv=>lhs;unfold eqK
section
variable{κ:Type}[DecidableEq κ]{E:κ->D}(hE:∀ a b,eqK (E a) (E b)=decide (a=b)){K:PySem.W.Frag}{H:Hp}
include hE
theorem aEa(k:κ):∀ (kvs:List (κ × V)) (ds:List D),bH K H ds (kvs.map (·.2))->(∀ d,rH (kvs.map fun p=>E p.1) ds (E k)=some d->∃ v,vU kvs k=some v/\Rep K H d v)/\(vU kvs k).isSome=oG (kvs.map fun p=>E p.1) (E k)
 | [],ds,r=>⟨fun d h=>by cases ds<;>simp [rH] at h,rfl⟩
 | (a,v) :: kvs,ds,r=>by
  cases ds with
  | nil=>have:=cP.mp r;simp at this
  | cons d ds =>
   obtain ⟨v',r',e,h1,h2⟩:=bV.mp r
   rw [List.map_cons] at e
   injection e with e1 e2
   subst e1 e2
   obtain ⟨i1,i2⟩:=aEa k kvs ds h2
   by_cases ha:a=k
   ·have hk:eqK (E a) (E k)=true:=by rw [hE,decide_eq_true_eq];exact ha
    refine ⟨fun d' h=>?_,?_⟩
    ·unfold rH at h
     rw [List.map_cons,List.zip_cons_cons,List.find?_cons_of_pos (by simpa using hk)] at h
     cases h
     exact ⟨v,rP ha,h1⟩
    ·rw [rP ha]
     unfold oG
     rw [List.map_cons,List.any_cons,hk]
     rfl
   ·have hk:eqK (E a) (E k)=false:=by rw [hE,decide_eq_false_iff_not];exact ha
    refine ⟨fun d' h=>?_,?_⟩
    ·rw [rQ ha]
     refine i1 d' ?_
     unfold rH at h ⊢
     rw [List.map_cons,List.zip_cons_cons,List.find?_cons_of_neg (by simpa using hk)] at h
     exact h
    ·rw [rQ ha,i2]
     unfold oG
     rw [List.map_cons,List.any_cons,hk]
     rfl
theorem aNx(k:κ)(kvs:List (κ × V)):(kvs.any fun kv=>decide (kv.1=k))=oG (kvs.map fun p=>E p.1) (E k):=by
 unfold oG
 rw [List.any_map]
 congr 1
 funext p
 simp [hE]
theorem aJa(k:κ)(v:V)(d:D)(hd:Rep K H d v)(kvs:List (κ × V))(ds:List D)(r:bH K H ds (kvs.map (·.2))) :
  (putK kvs k v).map (fun p=>E p.1)=oX (kvs.map fun p=>E p.1) (E k)/\bH K H (rT (kvs.map fun p=>E p.1) ds (E k) d) ((putK kvs k v).map (·.2)):=by
 unfold putK oX rT
 rw [aNx hE]
 by_cases hh:oG (kvs.map fun p=>E p.1) (E k)=true
 ·rw [if_pos hh,if_pos hh,if_pos hh]
  constructor
  ·rw [List.map_map]
   refine List.map_congr_left fun p _=>?_
   simp only [Function.comp_apply]
   split<;>rfl
  ·clear hh
   induction kvs generalizing ds with
   | nil=>have:=r.length;cases ds with | nil=>exact .nil | cons _ _=>simp at this
   | cons p kvs ih =>
    obtain ⟨a,w⟩:=p
    cases ds with
    | nil=>have:=cP.mp r;simp at this
    | cons d0 ds =>
     obtain ⟨v',r',e,h1,h2⟩:=bV.mp r
     rw [List.map_cons] at e
     injection e with e1 e2
     subst e1 e2
     rw [List.map_cons,List.map_cons,List.map_cons,List.zip_cons_cons,List.map_cons]
     refine .cons ?_ (ih ds h2)
     by_cases ha:a=k
     ·have hk:eqK (E a) (E k)=true:=by rw [hE,decide_eq_true_eq];exact ha
      rw [if_pos hk,if_pos ha]
      exact hd
     ·have hk:eqK (E a) (E k)=false:=by rw [hE,decide_eq_false_iff_not];exact ha
      rw [if_neg (by rw [hk];exact Bool.false_ne_true),if_neg ha]
      exact h1
 ·rw [if_neg hh,if_neg hh,if_neg hh]
  refine ⟨by rw [List.map_append];rfl,?_⟩
  rw [List.map_append]
  exact r.append (.cons hd .nil)
end
theorem vK{K:PySem.W.Frag}{H:Hp}{d:D}{v:V}(r:Rep K H d v)(h:keyOk false d=true):∃ k:Key,d=jU k/\v=kV k:=by
 cases d<;>first | (cases h;done) | skip
 ·exact ⟨.inl _,rfl,aQ.mp r⟩
 ·exact ⟨.inr _,rfl,bJ.mp r⟩
theorem wW{K:PySem.W.Frag}{H:Hp}:∀ {ds:List D} {vs:List V},bH K H ds vs->ds.all aKd=true->∃ ks:List Key,ds=ks.map jU/\vs=ks.map kV
 | [],vs,r,_=>⟨[],rfl,cP.mp r⟩
 | d :: ds,vs,r,h=>by
  obtain ⟨v,r',rfl,h1,h2⟩:=bV.mp r
  rw [List.all_cons,Bool.and_eq_true] at h
  obtain ⟨ks,e1,e2⟩:=wW h2 h.2
  obtain ⟨k,e3,e4⟩:=vK h1 (by cases d<;>first | (cases h.1;done) | rfl)
  exact ⟨k :: ks,by rw [e1,e3];rfl,by rw [e2,e4];rfl⟩
theorem zV{K:PySem.W.Frag}{H:Hp}{d:D}{v:V}(r:Rep K H d v)(h:keyOk true d=true):∃ (ks:List Key) (b:Addr),d = .tup (ks.map jU)/\v = .ref b/\H b=some (.tup (ks.map kV)):=by
 cases d<;>first | (cases h;done) | skip
 rename_i xs
 obtain ⟨b,vs,e,hb,rs⟩:=pM.mp r
 have h':xs.all aKd=true:=by
  unfold keyOk at h
  simpa using h
 obtain ⟨ks,e1,e2⟩:=wW rs h'
 exact ⟨ks,b,by rw [e1],e,by rw [<-e2];exact hb⟩
theorem aAe{K:PySem.W.Frag}{A:List Addr}{H:Hp}{t:Bool}{ks ds:List D}{k:D}{v u:V}(rx:iJ K A H (.dct t ks ds) v)(ry:Rep K H k u)(hk:keyOk t k=true) :
  ∃ a o,v = .ref a/\rG H a u o/\o.isSome=oG ks k/\∀ d,rH ks ds k=some d->∃ w,o=some w/\Rep K (hide A H) d w:=by
 have key:∃ a vs,v=V.ref a/\((t=false/\∃ kvs:List (Key × V),H a=some (.dK kvs)/\kvs.map (fun p=>jU p.1)=ks/\vs=kvs.map (·.2))\/(t=true/\∃ kvs:List (List Key × V),H a=some (.dT kvs)/\kvs.map (fun p=>D.tup (p.1.map jU))=ks/\vs=kvs.map (·.2)))/\bH K (hide A H) ds vs:=by
  rcases rx with h | ⟨a,kk,o,ds',vs,e,e2,h,ko,r⟩
  ·obtain ⟨a,vs,e,q,r⟩:=tV.mp h
   refine ⟨a,vs,e,?_,r⟩
   rcases q with ⟨q0,kvs,q1,q2⟩ | ⟨q0,kvs,q1,q2⟩
   ·exact .inl ⟨q0,kvs,bM _ _ _ _ q1,q2⟩
   ·exact .inr ⟨q0,kvs,bM _ _ _ _ q1,q2⟩
  ·cases kk<;>cases e
   refine ⟨a,vs,e2,?_,r⟩
   rcases ko with ⟨q0,kvs,q1,q2⟩ | ⟨q0,kvs,q1,q2⟩
   ·subst q1;exact .inl ⟨q0,kvs,h,q2⟩
   ·subst q1;exact .inr ⟨q0,kvs,h,q2⟩
 obtain ⟨a,vs,e,q,r⟩:=key
 rcases q with ⟨rfl,kvs,q1,rfl,rfl⟩ | ⟨rfl,kvs,q1,rfl,rfl⟩
 ·obtain ⟨k',e1,e2⟩:=vK ry hk
  subst e1 e2
  obtain ⟨i1,i2⟩:=aEa aE9 k' kvs ds r
  exact ⟨a,_,e,rG.k q1,i2,fun d hd=>let ⟨w,h1,h2⟩:=i1 d hd;⟨w,h1,h2⟩⟩
 ·obtain ⟨k',b,e1,e2,e3⟩:=zV ry hk
  subst e1 e2
  obtain ⟨i1,i2⟩:=aEa aFq k' kvs ds r
  exact ⟨a,_,e,rG.t q1 e3,i2,fun d hd=>let ⟨w,h1,h2⟩:=i1 d hd;⟨w,h1,h2⟩⟩
section
variable{X:Cx}{B:List Addr}{a b e:Expr}{f g:Ex}{pos:Pos}
def aYk:R2:=fun x y H Q=>∃ p v,x = .ref p/\rG H p y (some v)/\Q v H
theorem aQo(hu:X.A.units+64 < cLine):IxR X aYk:=by
 intro value slice pins s σ H x y v u Q I rx ry h hs
 obtain ⟨p,z,rfl,g,q⟩:=h
 cases rx
 have hT:=aF4 I g
 unfold subscriptTail
 refine wpAny_bind ?_
 rw [getitemInPython_of_ne hT.not_modules]
 refine wpAny_bind (wpAny_specialOf hT PySem.F.slot_dict_getitem.lookup ?_)
 have h2:wpAny (model X.prog X.w) X.A (getItem (.ref p) u) (EP X pins σ Q) X.xe s:=aKb (by omega) I g ry fun w' s3 I3 rw'=>⟨z,H,I3,rw',q⟩
 have fin:wpAny (model X.prog X.w) X.A (subscripted slice false (.ref p) u) (fun r s3=>wpAny (model X.prog X.w) X.A (letTemporaryGo value (.ref p) r >>= fun _=>pure r) (EP X pins σ Q) X.xe s3) X.xe s:=by
  rw [hs]
  exact wpAny_operating (wpAny_mono h2 (fun r s3 h3=>wpAny_bind (wpAny_letTemporaryGo (wpAny_pure h3))) fun _ _ x=>x)
 first
  | exact wpAny_pure (wpAny_bind fin)
  | exact wpAny_bind (wpAny_pure (wpAny_bind fin))
  | exact wpAny_bind fin
theorem aQp{K:PySem.W.Frag}:uB K (fun x y H Q=>rIx K x y H Q\/aYk x y H Q) dIx:=by
 intro A H x y d v u Q w rx ry e q
 by_cases hx:aXd x=true
 ·cases x<;>first | (cases hx;done) | skip
  rename_i t ks vs
  have e':aH (keyOk t y=true) (ofO (rH ks vs y)) = .ok d:=by cases y<;>exact e
  obtain ⟨hk,e2⟩:=aJ e'
  have ryr:Rep K H y u:=by
   rcases ry with h | ⟨a,kk,o,ds,vs',e1,_⟩
   ·exact h.mono (bM _ _)
   ·subst e1;cases kk<;>cases t<;>cases hk
  obtain ⟨a,o,e3,g,_,g2⟩:=aAe rx ryr hk
  obtain ⟨z,e4,rz⟩:=g2 d (qM e2)
  subst e4
  exact .inr ⟨a,z,e3,g,q _ H (aZ.refl _) rz⟩
 ·exact .inl (aV9 (by simpa using hx) A H x y d v u Q w rx ry e q)
theorem eV(hu:X.A.units+64 < cLine)(ha:PE X a (tP X.K B f))(hb:PE X b (tP X.K B g))(hs:aIf b:=by intro _ _;rfl):PE X (.Subscript a b pos) (tI X.K B (e2 dIx f g)) :=
 cT (aX5 (aU0.or (aQo hu)) ha hb hs) fun _ _ _ h=>aE7 aQp h
theorem aKt:nR X (.builtin "len") (fun xs H Q=>∃ a kvs,xs=[V.ref a]/\H a=some (.dK kvs)/\Q (.int kvs.length) H):=by
 intro pins s σ H xs us Q I r h
 obtain ⟨a,kvs,rfl,hk,q⟩:=h
 obtain ⟨u,rfl,ru⟩:=r.one
 obtain rfl:u=Value.ref a:=ru
 exact aXb I (.inl hk) fun t s' I'=>⟨.int kvs.length,H,I',⟨t,rfl⟩,q⟩
theorem aQq{K:PySem.W.Frag}{A:List Addr}{H:Hp}{ks ds:List D}{v:V}(rx:iJ K A H (.dct false ks ds) v):∃ a kvs,v = .ref a/\H a=some (.dK kvs)/\kvs.length=ks.length:=by
 rcases rx with h | ⟨a,kk,o,ds',vs,e,e2,h,ko,r⟩
 ·obtain ⟨a,vs,e,q,r⟩:=tV.mp h
  rcases q with ⟨_,kvs,q1,rfl,_⟩ | ⟨q0,_⟩
  ·exact ⟨a,kvs,e,bM _ _ _ _ q1,by simp⟩
  ·cases q0
 ·cases kk<;>cases e
  rcases ko with ⟨_,kvs,rfl,rfl,_⟩ | ⟨q0,_⟩
  ·exact ⟨a,kvs,e2,h,by simp⟩
  ·cases q0
end
end Pu
namespace Pu
open PySem PySem.Spec PyProof.Rows L2
section
variable{K:PySem.W.Frag}{B A:List Addr}{H:Hp}{st:PSt}{σ:LSt}
theorem tX{i j:Nat}{d:D}{k:OK}{xs:List D}(h:(st.set i (some (.v d)))[j]?=some (some (.o k xs))):j≠i/\st[j]?=some (some (.o k xs)):=by
 rw [List.getElem?_set] at h
 by_cases e:i=j
 ·subst e
  rw [if_pos rfl] at h
  split at h<;>simp at h
 ·rw [if_neg e] at h
  exact ⟨fun z=>e z.symm,h⟩
theorem Le.app{A':List Addr}{H':Hp}(l:Le A H A' H'):aZ (hide (A++B) H) (hide (A'++B) H'):=fun b u q=>by
 have q1:=bM _ _ _ _ q
 have hb:b ∉ A++B:=fun z=>by rw [gC z] at q;cases q
 have q2:hide A H b=some u:=by rw [cF fun z=>hb (List.mem_append_left _ z)];exact q1
 have q3:=l b u q2
 have hb':b ∉ A':=fun z=>by rw [gC z] at q3;cases q3
 rw [cF fun z=>(List.mem_append.mp z).elim hb' fun z=>hb (List.mem_append_right _ z)]
 exact bM _ _ _ _ q3
theorem RS.set(r:RS K B A H st σ){d:D}{v:V}(i:Nat)(h:Rep K (hide (A++B) H) d v):RS K B A H (st.set i (some (.v d))) (σ.set i (some v)) where
 len:=by rw [List.length_set,List.length_set,r.len]
 own:=r.own
 dis:=r.dis
 val:=fun j d' e=>by
  rw [List.getElem?_set] at e
  by_cases hij:i=j
  ·subst hij
   rw [if_pos rfl] at e
   split at e
   ·rename_i hl
    simp at e
    subst e
    exact ⟨v,by rw [List.getElem?_set,if_pos rfl,if_pos (by rw [<-r.len];exact hl)],h⟩
   ·cases e
  ·rw [if_neg hij] at e
   obtain ⟨u,e1,q⟩:=r.val j d' e
   exact ⟨u,by rw [List.getElem?_set,if_neg hij];exact e1,q⟩
 lst:=fun j kk xs e=>by
  obtain ⟨hj,e'⟩:=tX e
  obtain ⟨a,o,vs,e1,m,h1,ko,q,u⟩:=r.lst j kk xs e'
  refine ⟨a,o,vs,by rw [List.getElem?_set,if_neg fun z=>hj z.symm];exact e1,m,h1,ko,q,fun k k' ys ek ek2=>?_⟩
  obtain ⟨hk,ek'⟩:=tX ek
  rw [List.getElem?_set,if_neg fun z=>hk z.symm] at ek2
  exact u k k' ys ek' ek2
theorem aQr{p:Addr}{o:HO}(w:Own (A++B) H):Own ((p :: A)++B) (upd H p o):=fun a ha=>by
 by_cases e:a=p
 ·subst e;rw [cL];rfl
 ·rw [bT e]
  exact w a ((List.mem_cons.mp ha).resolve_left e)
theorem aBk{p:Addr}{o:HO}(hp:H p=none):aZ (hide (A++B) H) (hide ((p :: A)++B) (upd H p o)):=fun b u q=>by
 have q1:=bM _ _ _ _ q
 have hb:b ∉ A++B:=fun z=>by rw [gC z] at q;cases q
 have ne:b≠p:=bK q1 hp
 rw [cF (show b ∉ (p :: A)++B from fun z=>(List.mem_cons.mp z).elim ne hb),bT ne]
 exact q1
theorem aEb{p:Addr}{o:HO}(hp:H p=none):Le A H (p :: A) (upd H p o):=fun b u q=>by
 have q1:=bM _ _ _ _ q
 have hb:b ∉ A:=fun z=>by rw [gC z] at q;cases q
 have ne:b≠p:=bK q1 hp
 rw [cF fun z=>(List.mem_cons.mp z).elim ne hb,bT ne]
 exact q1
theorem RS.setO(r:RS K B A H st σ){p:Addr}{kk:OK}{o:HO}{ds:List D}{vs:List V}(i:Nat)(hp:H p=none)(ko:KOk K kk p o vs)(h:bH K (hide (A++B) H) ds vs) :
  RS K B (p :: A) (upd H p o) (st.set i (some (.o kk ds))) (σ.set i (some (.ref p))) where
 len:=by rw [List.length_set,List.length_set,r.len]
 own:=aQr r.own
 dis:=fun a ha hb=>by
  rcases List.mem_cons.mp ha with rfl | ha
  ·exact r.own.free hp (List.mem_append_right _ hb)
  ·exact r.dis a ha hb
 val:=fun j d' e=>by
  rw [List.getElem?_set] at e
  by_cases hij:i=j
  ·subst hij
   rw [if_pos rfl] at e
   split at e<;>simp at e
  ·rw [if_neg hij] at e
   obtain ⟨u,e1,q⟩:=r.val j d' e
   exact ⟨u,by rw [List.getElem?_set,if_neg hij];exact e1,q.mono (aBk hp)⟩
 lst:=fun j k0 xs e=>by
  rw [List.getElem?_set] at e
  by_cases hij:i=j
  ·subst hij
   rw [if_pos rfl] at e
   split at e
   ·rename_i hl
    simp at e
    obtain ⟨e0,e⟩:=e
    subst e0 e
    refine ⟨p,o,vs,by rw [List.getElem?_set,if_pos rfl,if_pos (by rw [<-r.len];exact hl)],List.mem_cons_self,cL,ko,h.mono (aBk hp),fun k k' ys ek ek2=>?_⟩
    by_cases hk:i=k
    ·exact hk.symm
    ·rw [List.getElem?_set,if_neg hk] at ek ek2
     obtain ⟨a,o',vs',e1,m,h1,_⟩:=r.lst k k' ys ek
     rw [e1] at ek2
     cases ek2
     rw [hp] at h1;cases h1
   ·cases e
  ·rw [if_neg hij] at e
   obtain ⟨a,o',vs',e1,m,h1,ko',q,u⟩:=r.lst j k0 xs e
   have ne:a≠p:=bK h1 hp
   refine ⟨a,o',vs',by rw [List.getElem?_set,if_neg hij];exact e1,List.mem_cons_of_mem _ m,by rw [bT ne];exact h1,ko',q.mono (aBk hp),fun k k' ys ek ek2=>?_⟩
   by_cases hk:i=k
   ·subst hk
    rw [List.getElem?_set,if_pos rfl] at ek2
    split at ek2
    ·simp at ek2;exact absurd ek2.symm ne
    ·cases ek2
   ·rw [List.getElem?_set,if_neg hk] at ek ek2
    exact u k k' ys ek ek2
theorem RS.write(r:RS K B A H st σ){a:Addr}{i:Nat}{k0 k1:OK}{o':HO}{xs ds:List D}{vs':List V}(hi:st[i]?=some (some (.o k0 xs)))(hs:σ[i]?=some (some (.ref a)))(ko:KOk K k1 a o' vs')(h:bH K (hide (A++B) H) ds vs') :
  RS K B A (upd H a o') (st.set i (some (.o k1 ds))) σ/\Le A H A (upd H a o'):=by
 obtain ⟨a',o,vs,e1,m,h1,_,q,u⟩:=r.lst i k0 xs hi
 rw [hs] at e1
 cases e1
 have hh:hide (A++B) (upd H a o')=hide (A++B) H:=wV (List.mem_append_left _ m)
 refine ⟨⟨by rw [List.length_set,r.len],fun b hb=>?_,r.dis,fun j d e=>?_,fun j kj ys e=>?_⟩,?_⟩
 ·by_cases e:b=a
  ·subst e;rw [cL];rfl
  ·rw [bT e];exact r.own b hb
 ·rw [hh]
  rw [List.getElem?_set] at e
  by_cases hij:i=j
  ·subst hij
   rw [if_pos rfl] at e
   split at e<;>simp at e
  ·rw [if_neg hij] at e
   exact r.val j d e
 ·rw [hh]
  have ne:∀ {k:Nat} {kz:OK} {zs:List D},(st.set i (some (.o k1 ds)))[k]?=some (some (.o kz zs))->∃ kw ws,st[k]?=some (some (.o kw ws)):=fun {k kz zs} ek=>by
   rw [List.getElem?_set] at ek
   by_cases hk:i=k
   ·subst hk;exact ⟨_,_,hi⟩
   ·rw [if_neg hk] at ek;exact ⟨_,_,ek⟩
  rw [List.getElem?_set] at e
  by_cases hij:i=j
  ·subst hij
   rw [if_pos rfl] at e
   split at e
   ·simp at e
    obtain ⟨e0,e⟩:=e
    subst e0 e
    exact ⟨a,o',vs',hs,m,cL,ko,h,fun k kz zs ek ek2=>let ⟨kw,ws,ew⟩:=ne ek;u k kw ws ew ek2⟩
   ·cases e
  ·rw [if_neg hij] at e
   obtain ⟨c,oc,ws,c1,cm,ch,kc,cq,cu⟩:=r.lst j kj ys e
   have hca:c≠a:=fun z=>by subst z;exact hij (u j kj ys e c1).symm
   exact ⟨c,oc,ws,c1,cm,by rw [bT hca];exact ch,kc,cq,fun k kz zs ek ek2=>let ⟨kw,ws,ew⟩:=ne ek;cu k kw ws ew ek2⟩
 ·unfold Le
  rw [wV m]
  exact aZ.refl _
theorem RS.fz1(r:RS K B A H st σ)(i:Nat):∃ A',RS K B A' H (Pu.fz1 st i) σ/\Le A H A' H:=by
 unfold Pu.fz1
 split
 ·rename_i kk xs e
  obtain ⟨a,o,vs,e1,m,h1,ko,q,u⟩:=r.lst i kk xs e
  have hsub:∀ b∈A.filter (fun c=>decide (c≠a)),b∈A:=fun b hb=>(List.mem_filter.mp hb).1
  have hsub2:∀ b∈A.filter (fun c=>decide (c≠a))++B,b∈A++B:=fun b hb=>(List.mem_append.mp hb).elim (fun z=>List.mem_append_left _ (hsub b z)) (List.mem_append_right _)
  have sm:aZ (hide (A++B) H) (hide (A.filter (fun c=>decide (c≠a))++B) H):=gU hsub2
  have hout:a ∉ A.filter (fun c=>decide (c≠a))++B:=fun z=>(List.mem_append.mp z).elim (fun z=>of_decide_eq_true (List.mem_filter.mp z).2 rfl) (r.dis a m)
  refine ⟨A.filter fun c=>decide (c≠a),⟨by rw [List.length_set,r.len],fun b hb=>r.own b (hsub2 b hb),fun b hb=>r.dis b (hsub b hb),fun j d ej=>?_,fun j kj ys ej=>?_⟩,gU hsub⟩
  ·rw [List.getElem?_set] at ej
   by_cases hij:i=j
   ·subst hij
    rw [if_pos rfl] at ej
    split at ej
    ·simp at ej
     subst ej
     exact ⟨_,e1,ko.rep (by rw [cF hout];exact h1) (q.mono sm)⟩
    ·cases ej
   ·rw [if_neg hij] at ej
    obtain ⟨v,e2,q2⟩:=r.val j d ej
    exact ⟨v,e2,q2.mono sm⟩
  ·obtain ⟨hj,ej'⟩:=tX ej
   obtain ⟨c,oc,ws,c1,cm,ch,kc,cq,cu⟩:=r.lst j kj ys ej'
   have hca:c≠a:=fun z=>by subst z;exact hj (u j kj ys ej' c1)
   exact ⟨c,oc,ws,c1,List.mem_filter.mpr ⟨cm,decide_eq_true hca⟩,ch,kc,cq.mono sm,fun k kz zs ek ek2=>cu k kz zs (tX ek).2 ek2⟩
 ·exact ⟨A,r,Le.refl⟩
theorem RS.fz(is:List Nat):∀ {A:List Addr} {st:PSt},RS K B A H st σ->∃ A',RS K B A' H (is.foldl Pu.fz1 st) σ/\Le A H A' H:=by
 induction is with
 | nil=>exact fun r=>⟨_,r,Le.refl⟩
 | cons i is ih =>
  intro A st r
  obtain ⟨A1,r1,l1⟩:=r.fz1 i
  obtain ⟨A2,r2,l2⟩:=ih r1
  exact ⟨A2,r2,l1.trans l2⟩
end
section
variable{X:Cx}{B:List Addr}{a b e:Expr}{f g:Ex}{pos:Pos}{bd bd':Bd}{sm:Stmt}{rest:List Stmt}
theorem fM:PSs X [] (tS X.K B cW):=tW aI9 (by
 rintro Dn σ H ⟨A,st,r,rs,hr,p⟩
 cases hr
 exact p A σ H Le.refl rs)
theorem aO(h1:PS X sm (tS X.K B bd))(h2:PSs X rest (tS X.K B bd')):PSs X (sm :: rest) (tS X.K B (bN bd bd')):=by
 refine tW (aAl h1 h2) ?_
 rintro Dn σ H ⟨A,st,r,rs,hr,p⟩
 obtain ⟨x,hx,h3⟩:=R.ok_of hr
 refine ⟨A,st,x,rs,hx,?_⟩
 cases x with
 | nx s1=>exact fun A' σ' H' l rs'=>⟨A',s1,r,rs',h3,p.mono l⟩
 | rt d=>cases h3;exact p
 | bk s1=>cases h3;exact p
 | ct s1=>cases h3;exact p
theorem bF(h1:PS X sm (tS X.K B bd)):PSs X [sm] (tS X.K B bd):=aDj h1
theorem aFr(is:List Nat)(h:PS X sm (tS X.K B bd)):PS X sm (tS X.K B (sFz is bd)):=fD h (by
 rintro Dn σ H ⟨A,st,r,rs,hr,p⟩
 obtain ⟨A',rs',l⟩:=RS.fz is rs
 exact ⟨A',_,r,rs',hr,p.mono l⟩)
theorem cH(h:PE X e (tI X.K B f)):PS X (.Return (some e) pos) (tS X.K B (dH f)):=fD (aLs h) (by
 rintro Dn σ H ⟨A,st,r,rs,hr,p⟩
 obtain ⟨d,hd,h3⟩:=R.ok_of hr
 cases h3
 exact ⟨A,st,d,rs,hd,fun v H' s q=>p A v H' (Le.of s) q⟩)
theorem cM(i:Nat){x:Str}{pos':Pos}(he:PE X e (tI X.K B f))(hN:X.N.Nodup)(hi:X.N[i]?=some x:=by rfl)(hx:Loc X.env.scope x:=by first | exact Or.inl rfl | exact Or.inr rfl)(hs:swapsWith e (some (.Name x pos')) pos.line X.env=pure false:=by rfl)
  (hf:X.fn x=true\/X.env.scope.names.lookup x=some .local:=by first | exact .inl rfl | exact .inr rfl | assumption):PS X (.Assign [.Name x pos'] e pos) (tS X.K B (cX i f)):=fD (aAm hN hi hx he hs hf) (by
 rintro Dn σ H ⟨A,st,r,rs,hr,p⟩
 obtain ⟨d,hd,h3⟩:=R.ok_of hr
 cases h3
 exact ⟨A,st,d,rs,hd,fun v H' s q=>p A _ H' (Le.of s) ((rs.mono s).set i q)⟩)
def tF(K:PySem.W.Frag)(B:List Addr)(f:Ex):TE:=fun σ H Q=>∃ A st ds,RS K B A H st σ/\f st = .ok (.lst ds)/\∀ p vs H',aZ H H'->H' p=none->bH K (hide (A++B) H') ds vs->Q (.ref p) (upd H' p (.lst vs))
theorem aBl{es:List Expr}{r:Exs}(h:PA X es (tA X.K B r)):PE X (.List es pos) (tF X.K B (nQ r)):=by
 refine cT (aM0 h) ?_
 rintro σ H Q ⟨A,st,d,rs,hd,q⟩
 obtain ⟨xs,hx,h2⟩:=R.ok_of hd
 obtain ⟨c,h3⟩:=aJ h2
 cases h3
 exact ⟨A,st,_,rs,hx,fun vs H1 s1 r1=>⟨by rw [r1.length];exact lim c,fun p hp=>q p vs H1 s1 hp r1⟩⟩
theorem vL(i:Nat){x:Str}{pos':Pos}(he:PE X e (tF X.K B f))(hN:X.N.Nodup)(hi:X.N[i]?=some x:=by rfl)(hx:Loc X.env.scope x:=by first | exact Or.inl rfl | exact Or.inr rfl)(hs:swapsWith e (some (.Name x pos')) pos.line X.env=pure false:=by rfl)
  (hf:X.fn x=true\/X.env.scope.names.lookup x=some .local:=by first | exact .inl rfl | exact .inr rfl | assumption):PS X (.Assign [.Name x pos'] e pos) (tS X.K B (nU i f)):=fD (aAm hN hi hx he hs hf) (by
 rintro Dn σ H ⟨A,st,r,rs,hr,p⟩
 obtain ⟨d,hd,h3⟩:=R.ok_of hr
 cases d<;>first | (cases h3;done) | skip
 cases h3
 exact ⟨A,st,_,rs,hd,fun a vs H' s hn q=>p (a :: A) _ _ ((Le.of s).trans (aEb hn)) ((rs.mono s).setO (kk := .l) i hn rfl q)⟩)
theorem jV{c:Expr}{t:Ex}{x y:List Stmt}(hc:PT X c (tT X.K B t))(ha:PSs X x (tS X.K B bd))(hb:PSs X y (tS X.K B bd')):PS X (.If c x y pos) (tS X.K B (sIf t bd bd')):=fD (aRw hc ha hb) (by
 rintro Dn σ H ⟨A,st,r,rs,hr,p⟩
 obtain ⟨d,hd,h3⟩:=R.ok_of hr
 obtain ⟨k,rfl,h4⟩:=pX h3
 refine ⟨A,st,k,rs,hd,fun H1 s1=>?_⟩
 cases k with
 | true=>exact ⟨A,st,r,rs.mono s1,h4,p.mono (Le.of s1)⟩
 | false=>exact ⟨A,st,r,rs.mono s1,h4,p.mono (Le.of s1)⟩)
theorem cN(i:Nat){x:Str}(hN:X.N.Nodup)(hi:X.N[i]?=some x:=by rfl)(hx:Loc X.env.scope x:=by first | exact Or.inl rfl | exact Or.inr rfl)
  (hf:X.fn x=true\/X.env.scope.names.lookup x=some .local:=by first | exact .inl rfl | exact .inr rfl | assumption):PG X (.Name x pos) (tG X.K B (tgN i)):=aNt (aP7 hN hi hx hf) (by
 rintro v σ H Q ⟨A,st,d,s1,rs,hr,hg,q⟩
 cases hg
 exact q _ (rs.set i hr))
def tGs(K:PySem.W.Frag)(B:List Addr)(is:List Nat):TGs:=fun vs σ H Q=>∃ A st ds s1,RS K B A H st σ/\bH K (hide (A++B) H) ds vs/\oJ is ds st = .ok s1/\∀ σ',RS K B A H s1 σ'->Q σ' H
theorem aJb{es:List Expr}{t t':TGs}(h:PGs X es t)(m:∀ v σ H Q,t' v σ H Q->t v σ H Q):PGs X es t':=fun pins s σ H v u Q I r q=>h pins s σ H v u Q I r (m v σ H Q q)
theorem aNy:PGs X [] (tGs X.K B []):=aJb aP8 (by
 rintro v σ H Q ⟨A,st,ds,s1,rs,hr,hg,q⟩
 cases ds with
 | nil=>cases hg;exact ⟨cP.mp hr,q σ rs⟩
 | cons _ _=>exact nomatch hg)
theorem aAf(i:Nat){is:List Nat}{x:Str}{es:List Expr}(h2:PGs X es (tGs X.K B is))(hN:X.N.Nodup)(hi:X.N[i]?=some x:=by rfl)(hx:Loc X.env.scope x:=by first | exact Or.inl rfl | exact Or.inr rfl)
  (hf:X.fn x=true\/X.env.scope.names.lookup x=some .local:=by first | exact .inl rfl | exact .inr rfl | assumption)
  (hs:(assignEach (.Name x pos :: es) X.env).map (·.2)=assign (.Name x pos) X.env :: (assignEach es X.env).map (·.2):=by rfl):PGs X (.Name x pos :: es) (tGs X.K B (i :: is)):=aJb (aLt (cN i (pos:=pos) hN hi hx hf) h2 hs) (by
 rintro v σ H Q ⟨A,st,ds,s1,rs,hr,hg,q⟩
 cases ds with
 | nil=>exact nomatch hg
 | cons d ds =>
  obtain ⟨u,r,e,r1,r2⟩:=bV.mp hr
  exact ⟨u,r,e,A,st,d,st.set i (some (.v d)),rs,r1,rfl,fun σ' rs'=>⟨A,_,ds,s1,rs',r2,hg,q⟩⟩)
theorem aBm{h h':Heap}{l it:Addr}{items:Array Value}(hl:h.IsList l items)(s:Heap.SameBut it h h')(hne:l≠it):h'.IsList l items:=by
 obtain ⟨o,e,r⟩:=hl
 exact ⟨o,(s.2 l hne).trans e,r⟩
theorem aD6{M:Program}{w:World}{A:Around}{E:Value->Shared->Prop}{it t:Addr}{items:Array Value}(hne:t≠it):∀ (n i:Nat) (s:Shared) (Q:List Value->Shared->Prop),s.heap.IsListIter it t i->s.heap.IsList t items->i+n<=items.size ->
  (∀ h',h'.IsListIter it t (i+n)->Heap.SameBut it s.heap h'->Q ((items.toList.drop i).take n) { s with heap:=h' })->wpAny (model M w) A (draw (.ref it) n) Q E s
 | 0,i,s,Q,hit,_,_,hQ=>by
  show wpAny _ _ (pure []) Q E s
  exact wpAny_pure (by simpa using hQ s.heap hit (Heap.SameBut.refl ..))
 | n+1,i,s,Q,hit,ht,hle,hQ=>by
  have hlt:i < items.size:=by omega
  show wpAny _ _ (pyNext (.ref it) >>= _) Q E s
  refine wpAny_bind (wpAny_pyNext_list_item hit ht (x:=items[i]) (by simp [hlt]) fun h1 hit1 hs1=>?_)
  refine wpAny_bind (wpAny_holding (aD6 hne n (i+1) _ _ hit1 (aBm ht hs1 hne) (by omega) fun h2 hit2 hs2=>wpAny_pure ?_))
  have hd:items.toList.drop i=items[i] :: items.toList.drop (i+1):=by simp [List.drop_eq_getElem_cons,hlt]
  have:=hQ h2 (by rw [show i+(n+1)=i+1+n by omega];exact hit2) (hs1.trans hs2)
  rw [hd,List.take_succ_cons] at this
  exact this
theorem wX{M:Program}{w:World}{A:Around}{E:Value->Shared->Prop}{s:Shared}{env:Env}{elts:List Expr}{x1:Nat}{pos:Pos}{t:Addr}{items:Array Value}{Q:Unit->Shared->Prop}(hh:A.handled=none)(ht:s.heap.IsList t items)
  (hn:(assignEach elts env).length=items.size) (hstar:(assignEach elts env).findIdx? (·.1)=none)
  (h:∀ h',Heap.ExtBut s.heap.objs.size s.heap h'->wpAny (model M w) A (assignInOrder ((assignEach elts env).map (·.2)) items.toList) Q E { s with heap:=h' }) :
  wpAny (model M w) A (assign (.Tuple elts x1 pos) env (.ref t)) Q E s:=by
 have hlt:t≠s.heap.objs.size:=by obtain ⟨o,ho,_⟩:=ht;exact Nat.ne_of_lt (Heap.lt_size ho)
 rw [assign_Tuple]
 refine wpAny_bind (wpAny_standAt ?_)
 unfold unpack
 rw [hn,hstar]
 refine wpAny_bind (wpAny_holding ?_)
 unfold unpackItems
 refine wpAny_bind ?_
 unfold notIterableAtAll
 refine wpAny_bind (wpAny_specialOf ht.typeIs PySem.F.slot_list_iter.lookup ?_)
 refine wpAny_pure ?_
 simp only [Bool.false_eq_true,if_false]
 refine wpAny_bind (wpAny_holding (wpAny_pyIter_list ht ?_))
 have ht0:(s.heap.push { cls := .type "list_iterator", data := .fields #[.ref t,rawInt 0] }).IsList t items:=by
  obtain ⟨o,ho,r⟩:=ht
  exact ⟨o,Heap.get?_push_of_some _ ho,r⟩
 refine wpAny_bind (wpAny_holding (aD6 hlt items.size 0 _ _ ⟨_,Heap.get?_push_size _ rfl,rfl,rfl⟩ ht0 (by omega) fun h1 hit1 hs1=>?_))
 have hall:List.take items.size (List.drop 0 items.toList)=items.toList:=by
  rw [List.drop_zero];exact List.take_of_length_le (by simp)
 rw [hall]
 rw [if_neg (by simp)]
 refine wpAny_bind (wpAny_holding (wpAny_pyNext_list_end hh hit1 (aBm ht0 hs1 hlt) (by simp) fun h2 he2=>?_))
 simp only [Option.isSome_none,Bool.false_eq_true,if_false]
 refine wpAny_pure (h h2 fun b o hb e=>he2 b o hb (hs1.extBut b o hb (Heap.get?_push_of_some _ e)))
def bB5(K:PySem.W.Frag)(n:Nat)(t:TGs):TG:=fun v σ H Q=>∃ a xs,v = .ref a/\(SqT K H a xs\/SqL K H a xs)/\xs.length=n/\t xs σ H Q
theorem aVb{es:List Expr}{k:Nat}{t:TGs}{n:Nat}(hc:X.calm=true)(h:PGs X es t)
  (hn:(assignEach es X.env).length=n:=by rfl) (hst:(assignEach es X.env).findIdx? (·.1)=none:=by rfl):PG X (.Tuple es k pos) (bB5 X.K n t):=by
 intro pins s σ H v u Q I r hw
 obtain ⟨a,xs,e1,hq,hl,hw⟩:=hw
 rcases hq with hq | hq
 ·exact aTi hc h hn hst pins s σ H v u Q I r ⟨a,xs,e1,hq,hl,hw⟩
 ·subst e1
  cases r
  obtain ⟨its,rv,ht,hz⟩:=I.list hq
  refine wX (I.ok.hd hc) ht.isList (by simp [hn,<-hl,rv.length]) hst fun h' hx=>?_
  have I1:Inv X pins σ H { s with heap:=h' }:=I.kept (t':=s.toks) fun b o e=>hx b o (Nat.ne_of_lt (Heap.lt_size e)) e
  exact h pins _ σ H xs _ Q I1 (by simpa using rv) hw
theorem aBn{s1:PSt}:∀ (is:List Nat) (ds:List D) (st:PSt),oJ is ds st = .ok s1->ds.length=is.length:=by
 intro is
 induction is with
 | nil=>intro ds st h;cases ds with | nil=>rfl | cons _ _=>exact nomatch h
 | cons i is ih=>intro ds st h;cases ds with | nil=>exact nomatch h | cons _ ds=>exact congrArg (· + 1) (ih ds _ h)
theorem aT2{is:List Nat}{es:List Expr}{k:Nat}(hc:X.calm=true)(h:PGs X es (tGs X.K B is))(hn:(assignEach es X.env).length=is.length:=by rfl)(hst:(assignEach es X.env).findIdx? (·.1)=none:=by rfl):PG X (.Tuple es k pos) (tG X.K B (tgT is)):=aNt (aVb hc h hn hst) (by
 rintro v σ H Q ⟨A,st,d,s1,rs,hr,hg,q⟩
 cases d<;>first | (cases hg;done) | skip
 ·rename_i ds
  obtain ⟨a,vs,e,h1,h2⟩:=bB hr
  exact ⟨a,vs,e,.inl (sV (bM _ _) h1),by rw [h2.length];exact aBn is ds st hg,A,st,ds,s1,rs,h2,hg,q⟩
 ·rename_i ds
  obtain ⟨a,vs,e,h1,h2⟩:=bQ.mp hr
  exact ⟨a,vs,e,.inr ((bM _ _).seq h1),by rw [h2.length];exact aBn is ds st hg,A,st,ds,s1,rs,h2,hg,q⟩)
theorem aYl{tg:Expr}{t:Tg}(he:PE X e (tI X.K B f))(hg:PG X tg (tG X.K B t))(hs:swapsWithSole [tg] e pos.line X.env=pure false:=by rfl)(hw:swappedStores [tg] e X.env=pure none:=by rfl)
  (h1:(assignEach [tg] X.env).map (·.2)=[assign tg X.env]:=by rfl):PS X (.Assign [tg] e pos) (tS X.K B (aUb t f)):=fD (aGl he hg hs hw h1) (by
 rintro Dn σ H ⟨A,st,r,rs,hr,p⟩
 obtain ⟨d,hd,h3⟩:=R.ok_of hr
 obtain ⟨s1,hs1,h4⟩:=R.ok_of h3
 cases h4
 exact ⟨A,st,d,rs,hd,fun v H' s q=>⟨A,st,d,s1,rs.mono s,q,hs1,fun σ' rs'=>p A σ' H' (Le.of s) rs'⟩⟩)
theorem lO{tg iter:Expr}{body:List Stmt}{t:Tg}{it:ItE}(hi:L2.PI X tg iter (tIt X.K B it))(hg:PG X tg (tG X.K B t))(hb:PSs X body (tS X.K B bd))(hp:PassesOwn (model X.prog X.w) X.A X.env X.xe)(hc:X.calm=true)
  (hs:∀ x,foldedSetIterable iter X.env x=pure x:=by intro _;rfl):PS X (.For tg iter body [] pos) (tS X.K B (oZ t it bd)):=fD (aTk hp hc hi hg hb hs) (by
 rintro Dn σ H ⟨A,st,r,rs,hr,p⟩
 obtain ⟨ds,hd,h3⟩:=R.ok_of hr
 refine ⟨A,st,ds,rs,hd,fun J H1 s1 ito=>?_⟩
 refine ⟨fun i m σ' H'=>∃ A' st',m=ds.length - i/\i<=ds.length/\RS X.K B A' H' st' σ'/\forR t bd (ds.drop i) st' = .ok r/\Le A H1 A' H',⟨ds.length,A,st,by simp,Nat.zero_le _,rs.mono s1,by rw [List.drop_zero];exact h3,Le.refl⟩,?_⟩
 rintro i m σ' H' ⟨A',st',rfl,hle,rs',hf,l⟩
 obtain ⟨i1,i2⟩:=ito A' H' l rs'.own i
 by_cases hlt:i < ds.length
 ·have hd':ds[i]?=some ds[i]:=List.getElem?_eq_getElem hlt
  obtain ⟨go,yl⟩:=i1 _ hd'
  rw [List.drop_eq_getElem_cons hlt] at hf
  obtain ⟨s2,hs2,h5⟩:=R.ok_of hf
  obtain ⟨fl,hfl,h6⟩:=R.ok_of h5
  refine .inr ⟨go,fun σ2 H2=>∃ A2 st2,i+1<=ds.length/\RS X.K B A2 H2 st2 σ2/\forR t bd (ds.drop (i+1)) st2 = .ok r/\Le A H1 A2 H2,?_,fun x H2 y=>?_⟩
  ·rintro σ2 H2 ⟨A2,st2,hle2,rs2,hf2,l2⟩
   exact ⟨ds.length - (i+1),by omega,A2,st2,rfl,hle2,rs2,hf2,l2⟩
  ·obtain ⟨sm,rx⟩:=yl x H2 y
   have l5:Le A H1 A' H2:=l.trans (Le.of sm)
   refine ⟨A',st',ds[i],s2,rs'.mono sm,rx,hs2,fun σ3 rs3=>⟨A',s2,fl,rs3,hfl,?_⟩⟩
   cases fl with
   | nx s4=>exact fun A4 σ4 H4 l4 rs4=>⟨A4,s4,hlt,rs4,h6,l5.trans l4⟩
   | ct s4=>exact fun A4 σ4 H4 l4 rs4=>⟨A4,s4,hlt,rs4,h6,l5.trans l4⟩
   | bk s4=>cases h6;exact p.mono ((Le.of s1).trans l5)
   | rt d=>cases h6;exact p.mono ((Le.of s1).trans l5)
 ·have e:i=ds.length:=by omega
  subst e
  rw [List.drop_length] at hf
  cases hf
  exact .inl ⟨i2 (Nat.le_refl _),p A' σ' H' ((Le.of s1).trans l) rs'⟩)
theorem aEc(n:Nat){c:Expr}{t:Ex}{body:List Stmt}(hc:PT X c (tT X.K B t))(hb:PSs X body (tS X.K B bd))(hp:PassesOwn (model X.prog X.w) X.A X.env X.xe):PS X (.While c body [] pos) (tS X.K B (aAq n t bd)):=fD (aLv hp hc hb) (by
 rintro Dn σ H ⟨A,st,r,rs,hr,p⟩
 refine ⟨fun m σ' H'=>∃ A' st',RS X.K B A' H' st' σ'/\iU t bd m st' = .ok r/\Le A H A' H',⟨n,A,st,rs,hr,Le.refl⟩,?_⟩
 rintro m σ' H' ⟨A',st',rs',hw,l⟩
 cases m with
 | zero=>exact nomatch hw
 | succ m =>
  obtain ⟨d,hd,h3⟩:=R.ok_of hw
  obtain ⟨k,rfl,h4⟩:=pX h3
  refine ⟨A',st',k,rs',hd,fun H1 s1=>?_⟩
  cases k with
  | false =>
   cases h4
   exact p A' σ' H1 (l.trans (Le.of s1)) (rs'.mono s1)
  | true =>
   obtain ⟨fl,hfl,h6⟩:=R.ok_of h4
   refine ⟨fun σ2 H2=>∃ A2 st2,RS X.K B A2 H2 st2 σ2/\iU t bd m st2 = .ok r/\Le A H A2 H2,?_,A',st',fl,rs'.mono s1,hfl,?_⟩
   ·rintro σ2 H2 ⟨A2,st2,rs2,hf2,l2⟩
    exact ⟨m,Nat.lt_succ_self m,A2,st2,rs2,hf2,l2⟩
   ·cases fl with
    | nx s4=>exact fun A4 σ4 H4 l4 rs4=>⟨A4,s4,rs4,h6,l.trans ((Le.of s1).trans l4)⟩
    | ct s4=>exact fun A4 σ4 H4 l4 rs4=>⟨A4,s4,rs4,h6,l.trans ((Le.of s1).trans l4)⟩
    | bk s4=>cases h6;exact p.mono (l.trans (Le.of s1))
    | rt d=>cases h6;exact p.mono (l.trans (Le.of s1)))
theorem aVc{K:PySem.W.Frag}{A:List Addr}{H:Hp}{ds:List D}{vs:List V}{l:Addr}(hq:SqL K (hide (A++B) H) l vs)(r:bH K (hide (A++B) H) ds vs):aKs K B A H (Itl K l) ds:=by
 intro A' H' le own i
 have hq':SqL K H' l vs:=(bM _ _).seq ((Le.app le).seq hq)
 refine ⟨fun d hd=>?_,fun hl=>⟨vs,hq',by rw [r.length];exact hl⟩⟩
 obtain ⟨v,hv,rv⟩:=r.get hd
 refine ⟨⟨vs,v,hq',hv⟩,fun x H3 y=>⟨by rw [y.1];exact aZ.refl _,?_⟩⟩
 have hx:=y.2 vs hq'
 rw [y.1]
 rw [hv] at hx
 cases hx
 exact rv.mono (Le.app le)
theorem aVd{K:PySem.W.Frag}{A:List Addr}{H:Hp}{ds:List D}{vs:List V}{l:Addr}(hq:SqT K (hide (A++B) H) l vs)(r:bH K (hide (A++B) H) ds vs):aKs K B A H (Itt K l) ds:=by
 intro A' H' le own i
 have hq':SqT K H' l vs:=sV (bM _ _) (sV (Le.app le) hq)
 refine ⟨fun d hd=>?_,fun hl=>⟨vs,hq',by rw [r.length];exact hl⟩⟩
 obtain ⟨v,hv,rv⟩:=r.get hd
 refine ⟨⟨vs,v,hq',hv⟩,fun x H3 y=>⟨by rw [y.1];exact aZ.refl _,?_⟩⟩
 have hx:=y.2 vs hq'
 rw [y.1]
 rw [hv] at hx
 cases hx
 exact rv.mono (Le.app le)
theorem aNz{K:PySem.W.Frag}{A:List Addr}{H:Hp}{lo:Int}{n:Nat}:aKs K B A H (Itr lo n) (fV lo n):=by
 intro A' H' le own i
 have hl:(fV lo n).length=n:=by simp [fV]
 refine ⟨fun d hd=>?_,fun h=>by rw [hl] at h;exact h⟩
 have hi:i < n:=by
  have:=(List.getElem?_eq_some_iff.mp hd).1
  rw [hl] at this;exact this
 have e:d = .int (lo+(i:Int)):=by
  unfold fV at hd
  rw [List.getElem?_map,List.getElem?_range hi] at hd
  exact (Option.some.inj hd).symm
 subst e
 exact ⟨hi,fun x H3 y=>⟨by rw [y.1];exact aZ.refl _,aQ.mpr y.2⟩⟩
def Its(z:List Nat):It:=⟨fun i _=>i < z.length,fun i H x H'=>H'=H/\∃ c,z[i]?=some c/\x = .str ⟨#[c]⟩,fun i _=>z.length<=i⟩
theorem aO0{P:Program}{w:World}{K:PySem.W.Frag}{tg:Expr}{z:List Nat}{it:Addr}{n:String}{t:Tok}(hn:n = "str_ascii_iterator" \/ n = "str_iterator"):Turn P w K tg (Its z) [it] it (fun i h=>h.IsStrIter it n ⟨z.toArray⟩ t i) where
 mem:=by simp
 obj:=fun i h st b hb=>by
  have e:b=it:=by simpa using hb
  subst e
  obtain ⟨o,e,c,d⟩:=st
  exact ⟨o,e,fun v z=>by rw [d] at z;cases z⟩
 keep:=fun i h h' st k=>let ⟨o,e,r⟩:=st;⟨o,k it (by simp) o e,r⟩
 item:=by
  intro X hP hw hK hc i pins s σ H E I hf st hg
  subst hP hw hK
  obtain ⟨f0,f1,f2,f3,f4,f5⟩:=hf it (by simp)
  have fin:∀ v h' tk,SignAt ⟨z.toArray⟩ i v->Heap.IsStrIter h' it n ⟨z.toArray⟩ t (i+1)->(∀ b o,b ∉ [it]->s.heap.get? b=some o->h'.get? b=some o) ->
    ∃ u,some v=some u/\wpAny (model X.prog X.w) X.A (letOwnedTupleGo tg (.ref it) u) (fun _ s2=>∃ x H',Inv X pins σ H' s2/\RelV x u/\(Its z).yld i H x H'/\Heap.IsStrIter s2.heap it n ⟨z.toArray⟩ t (i+1)/\∀ b∈[it],H' b=none) E { s with heap:=h',toks:=tk }:=by
   intro v h' tk hv st' kk
   obtain ⟨c,u,hcu,rfl⟩:=hv
   have I1:Inv X pins σ H { s with heap:=h',toks:=tk }:=I.turned (fun b o hb e=>kk b o (by simpa using hb) e) f0 f1 f3 f4 f5
   obtain ⟨o,e,c',d⟩:=id st'
   refine ⟨_,rfl,aIa (s:={ s with heap:=h',toks:=tk }) e c' d (by rcases hn with rfl | rfl<;>decide) ⟨.str ⟨#[c]⟩,H,I1,⟨u,rfl⟩,⟨rfl,c,?_,rfl⟩,st',fun b hb=>(hf b hb).1⟩⟩
   simpa using hcu
  have hg2:i < z.length:=hg
  have hg':i < (⟨z.toArray⟩:Str).cps.size:=by simpa using hg2
  rcases hn with rfl | rfl
  ·exact (Walks.strAscii (prog:=X.prog) (w:=X.w) (I.ok.hd hc) it ⟨z.toArray⟩ t).item i s _ _ hg' st fun v h' tk hv st' kk=>fin v h' tk hv st' kk
  ·exact (Walks.strWide (prog:=X.prog) (w:=X.w) (I.ok.hd hc) it ⟨z.toArray⟩ t).item i s _ _ hg' st fun v h' tk hv st' kk=>fin v h' tk hv st' kk
 done:=by
  intro X hP hw hK hc i pins s σ H E I hf st hg
  subst hP hw hK
  obtain ⟨f0,f1,f2,f3,f4,f5⟩:=hf it (by simp)
  have hg2:z.length<=i:=hg
  rcases hn with rfl | rfl
  ·exact wpAny_pyNext_ascii_end (I.ok.hd hc) st (by simpa using hg2) fun h' eb=>⟨rfl,I.turned (t':=s.toks) (fun b o hb e=>eb b o hb e) f0 f1 f3 f4 f5⟩
  ·exact wpAny_pyNext_wide_end (I.ok.hd hc) st (by simpa using hg2) fun h' eb=>⟨rfl,I.turned (t':=s.toks) (fun b o hb e=>eb b o hb e) f0 f1 f3 f4 f5⟩
 self:=fun _ _ _ _ _ st h=>by
  rcases hn with rfl | rfl
  ·exact wpAny_pyIter_striter_ascii st h
  ·exact wpAny_pyIter_striter_wide st h
theorem aVe{K:PySem.W.Frag}{A:List Addr}{H:Hp}{z:List Nat}:aKs K B A H (Its z) (z.map fun c => .str [c]):=by
 intro A' H' le own i
 refine ⟨fun d hd=>?_,fun h=>(by simpa using h:z.length<=i)⟩
 rw [List.getElem?_map] at hd
 cases hz:z[i]? with
 | none=>rw [hz] at hd;cases hd
 | some c =>
  rw [hz] at hd
  cases hd
  refine ⟨(List.getElem?_eq_some_iff.mp hz).1,fun x H3 y=>⟨by rw [y.1];exact aZ.refl _,?_⟩⟩
  obtain ⟨c',hc',rfl⟩:=y.2
  rw [hz] at hc'
  cases hc'
  exact bJ.mpr rfl
def bB6(K:PySem.W.Frag)(tl:TE):TI:=fun σ H R=>tl σ H fun x H1=>(∃ a,x = .ref a/\(((∃ xs,SqL K H1 a xs)/\R (Itl K a) H1)\/((∃ xs,SqT K H1 a xs)/\R (Itt K a) H1)))\/∃ z:List Nat,x = .str ⟨z.toArray⟩/\R (Its z) H1
theorem aVf{tg l:Expr}{tl:TE}(hl:PE X l tl):L2.PI X tg l (bB6 X.K tl):=by
 intro pins s σ H R I h
 refine thn (hl pins s σ H _ I h) fun v s1 ⟨x,H1,I1,r1,q1⟩=>?_
 rcases q1 with ⟨a,e,q⟩ | ⟨z,rfl,q⟩
 rotate_left
 ·obtain ⟨t,rfl⟩:=r1
  refine wpAny_pyIter_strU ?_
  refine ⟨s1.heap.objs.size,[s1.heap.objs.size],_,_,H1,rfl,I1.kept (t':=s1.toks) fun b o e=>Heap.get?_push_of_some _ e,aO0 (z:=z) (n:=strIterType ⟨z.toArray⟩) (t:=t) (by unfold strIterType;split<;>simp),⟨_,Heap.get?_push_size _ rfl,rfl,rfl⟩,fun b hb=>?_,q⟩
  have e:b=s1.heap.objs.size:=by simpa using hb
  subst e
  exact I1.fpOk (Nat.le_refl _) (I1.hok.fresh (Nat.le_refl _))
 subst e
 cases r1
 rcases q with ⟨⟨xs,hq⟩,q⟩ | ⟨⟨xs,hq⟩,q⟩
 ·obtain ⟨its,rv,p,hz⟩:=I1.list hq
  refine wpAny_pyIter_list p.isList ?_
  refine ⟨s1.heap.objs.size,[s1.heap.objs.size],_,_,H1,rfl,I1.kept (t':=s1.toks) fun b o e=>Heap.get?_push_of_some _ e,aJz a _,⟨_,Heap.get?_push_size _ rfl,rfl,rfl⟩,fun b hb=>?_,q⟩
  have e:b=s1.heap.objs.size:=by simpa using hb
  subst e
  exact I1.fpOk (Nat.le_refl _) (I1.hok.fresh (Nat.le_refl _))
 ·obtain ⟨its,rv,p,hz⟩:=I1.tuple hq
  refine wpAny_pyIter_tuple (show s1.heap.IsTuple a its.toArray from p) ?_
  refine ⟨s1.heap.objs.size,[s1.heap.objs.size],_,_,H1,rfl,I1.kept (t':=s1.toks) fun b o e=>Heap.get?_push_of_some _ e,aGm a _,⟨_,Heap.get?_push_size _ rfl,rfl,rfl⟩,fun b hb=>?_,q⟩
  have e:b=s1.heap.objs.size:=by simpa using hb
  subst e
  exact I1.fpOk (Nat.le_refl _) (I1.hok.fresh (Nat.le_refl _))
theorem pN{tg l:Expr}(hl:PE X l (tI X.K B f)):L2.PI X tg l (tIt X.K B (itE f)):=aHo (aVf hl) (by
 rintro σ H Rq ⟨A,st,ds,rs,hd,q⟩
 obtain ⟨x,hx,h2⟩:=R.ok_of hd
 refine ⟨A,st,x,rs,hx,fun v H1 s1 r1=>?_⟩
 cases x<;>first | (cases h2;done) | skip
 ·obtain ⟨_,h2⟩:=aJ h2
  cases h2
  exact .inr ⟨_,bJ.mp r1,q _ H1 s1 aVe⟩
 ·cases h2
  obtain ⟨a,vs,e,h3,r3⟩:=bB r1
  exact .inl ⟨a,e,.inr ⟨⟨vs,sV (bM _ _) h3⟩,q _ H1 s1 (aVd h3 r3)⟩⟩
 ·cases h2
  obtain ⟨a,vs,e,h3,r3⟩:=bQ.mp r1
  exact .inl ⟨a,e,.inl ⟨⟨vs,(bM _ _).seq h3⟩,q _ H1 s1 (aVc h3 r3)⟩⟩)
theorem uJ{tg:Expr}{p:Pos}(hm:X.mg "range" = none)(ha:PE X a (tP X.K B f))(hg:Gl X "range" := by rfl)(hs:starEach [a] X.env=[(false,eval a X.env)]:=by rfl):L2.PI X tg (.Call (.Name "range" p) [a] [] pos) (tIt X.K B (oY f)):=aHo (aK0 hg hm (fW ha mR hs) hs) (by
 rintro σ H Rq ⟨A,st,ds,rs,hd,q⟩
 obtain ⟨x,hx,h2⟩:=R.ok_of hd
 obtain ⟨j,rfl,h3⟩:=aAp h2
 obtain ⟨c,h4⟩:=aJ h3
 rw [mU] at c
 cases h4
 exact ⟨A,st,_,rs,hx,fun v H1 s1 r1=>⟨j,by rw [r1.int],by omega,by omega,q _ H1 s1 aNz⟩⟩)
theorem aYm{tg:Expr}{p:Pos}(hm:X.mg "range" = none)(ha:PE X a (tP X.K B f))(hb:PE X b (tP X.K B g))(hg:Gl X "range" := by rfl)(hs:starEach [a,b] X.env=[(false,eval a X.env),(false,eval b X.env)]:=by rfl)(hs2:starEach [b] X.env=[(false,eval b X.env)]:=by rfl)
  (hs3:starEach [a,b] X.env=(false,eval a X.env) :: starEach [b] X.env:=by rfl):L2.PI X tg (.Call (.Name "range" p) [a,b] [] pos) (tIt X.K B (aPv f g)):=aHo (aK1 hg hm (fW ha (fW hb mR hs2) hs3) hs hs2) (by
 rintro σ H Rq ⟨A,st,ds,rs,hd,q⟩
 obtain ⟨x,hx,h2⟩:=R.ok_of hd
 obtain ⟨y,hy,h5⟩:=R.ok_of h2
 obtain ⟨i,rfl,h6⟩:=aAp h5
 obtain ⟨j,rfl,h3⟩:=aAp h6
 obtain ⟨c,h4⟩:=aJ h3
 rw [mU] at c
 cases h4
 exact ⟨A,st,_,rs,hx,fun v H1 s1 r1=>⟨A,st,_,rs.mono s1,hy,fun u H2 s2 r2=>⟨i,j,by rw [r1.int,r2.int],⟨by omega,by omega,by omega,by omega⟩,q _ H2 (s1.trans s2) aNz⟩⟩⟩)
end
theorem aBo{K:PySem.W.Frag}{B:List Addr}{H:Hp}{N:List Str}{ds:List D}{vs:List V}(w:Own B H)(r:bH K (hide B H) ds vs):RS K B [] H (ds.map (fun d=>some (Sl.v d))++List.replicate (N.length - ds.length) none) (L2.start N vs):=by
 have hl:=r.length
 have nov:∀ (i:Nat) (s:Sl),(ds.map (fun d=>some (Sl.v d))++List.replicate (N.length - ds.length) none)[i]?=some (some s)->∃ d,ds[i]?=some d/\s = .v d:=fun i s e=>by
  by_cases hi:i < ds.length
  ·rw [List.getElem?_append_left (by simpa using hi),List.getElem?_map,List.getElem?_eq_getElem hi] at e
   simp at e
   exact ⟨ds[i],List.getElem?_eq_getElem hi,e.symm⟩
  ·rw [List.getElem?_append_right (by simpa using hi),List.getElem?_replicate] at e
   split at e<;>simp at e
 refine ⟨by unfold L2.start;simp [hl],by rw [List.nil_append];exact w,fun a ha=>absurd ha (by simp),fun i d e=>?_,fun i kk xs e=>?_⟩
 ·obtain ⟨d',e1,e2⟩:=nov i _ e
  cases e2
  obtain ⟨v,hv,rv⟩:=r.get e1
  refine ⟨v,?_,by rw [List.nil_append];exact rv⟩
  unfold L2.start
  have hi:i < vs.length:=(List.getElem?_eq_some_iff.mp hv).1
  rw [List.getElem?_append_left (by simpa using hi),List.getElem?_map,hv]
  rfl
 ·obtain ⟨d',e1,e2⟩:=nov i _ e
  cases e2
theorem bY{np n:Nat}{bd:Bd}(ds:List D)(d:D)(h:eN np n bd ds = .ok d):ds.length=np:=(aJ h).1
end Pu
namespace Pu
open PySem PySem.Spec PyProof.Rows L2
structure DefOk(P:Program)(w:World)(K:PySem.W.Frag)(mg:Str->Option Value)(base:Heap)(x:Str)(k np:Nat)(p:List D->R D):Prop where
 ex:∃ (fa:Addr) (fd:FuncData) (ps:List Str),FnOk P w K mg base CX0 k fa fd ps (spI K np p)/\mg x=some (.ref fa)/\PySem.W.keepIn K (.ref fa)=true/\Binds K fd ps []
 len:∀ ds d,p ds = .ok d->ds.length=np
theorem DefOk.of{P:Program}{w:World}{K:PySem.W.Frag}{mg:Str->Option Value}{base:Heap}{x:Str}{k np:Nat}{p:List D->R D}{fa:Addr}{fd:FuncData}{ps:List Str}(h:FnOk P w K mg base CX0 k fa fd ps (spI K np p))(m:mg x=some (.ref fa))
  (kp:PySem.W.keepIn K (.ref fa)=true) (b:Binds K fd ps []) (l:∀ ds d,p ds = .ok d->ds.length=np):DefOk P w K mg base x k np p:=⟨⟨fa,fd,ps,h,m,kp,b⟩,l⟩
section
variable{X:Cx}{B:List Addr}{a b e:Expr}{f g:Ex}{pos:Pos}
theorem aV{x:Str}{k j np:Nat}{p:List D->R D}{es:List Expr}{r:Exs}{p0:Pos}(h:DefOk X.prog X.w X.K X.mg X.base x k np p)(hr:Room j X.A)(hk:k<=j)(ha:PA X (e :: es) (tA X.K B r))(hg:Gl X x:=by rfl)(hdb:(x==("__debug__" : Str))=false:=by decide)
  (he:starEach (e :: es) X.env=(false,eval e X.env) :: starEach es X.env:=by rfl) (hpl:(backTo pos (starEach es X.env)).any (·.1)=false:=by rfl):PE X (.Call (.Name x p0) (e :: es) [] pos) (tI X.K B (aY p r)):=by
 obtain ⟨fa,fd,ps,F,m,kp,bd⟩:=h.ex
 exact aVa F (hr.mono hk) m kp bd h.len ha hg hdb he hpl
theorem aVg{K:PySem.W.Frag}{H:Hp}{a:Addr}{ns:List Int}{p:List D->R D}{E:XK}(hS:SqL K H a (ns.map V.int))(h:p [.lst (ns.map D.int)] = .ok (.bl true)):spI K 1 p [.ref a] H (fun v _=>v = .bl true) E:=by
 refine ⟨[],[.lst (ns.map D.int)],.bl true,fun b hb=>absurd hb (by simp),?_,rfl,h,fun v H' _ r=>bD.mp r⟩
 rw [sW]
 refine .cons (bQ.mpr ⟨a,_,rfl,hS,?_⟩) .nil
 clear hS h
 induction ns with
 | nil=>exact .nil
 | cons n ns ih=>exact .cons (aQ.mpr rfl) ih
theorem dN{p0:Pos}(hm:X.mg "len" = none)(ha:PE X a (tP X.K B f))(hg:Gl X "len" := by rfl)(hs:starEach [a] X.env=(false,eval a X.env) :: starEach [] X.env:=by rfl):PE X (.Call (.Name "len" p0) [a] [] pos) (tI X.K B (e1 cU f)):=by
 refine cT (vR (aDp.or (aDq.or aKt)) hg hm PySem.boot_len (fW ha mR hs) (he:=hs)) ?_
 rintro σ H Q ⟨A,st,d,rs,hd,q⟩
 obtain ⟨x,hx,h2⟩:=R.ok_of hd
 refine ⟨A,st,x,rs,hx,fun v H1 s1 r1=>?_⟩
 cases x<;>first | (cases h2;done) | skip
 ·obtain ⟨c,h3⟩:=aJ h2
  cases h3
  exact .inr (.inl ⟨_,by rw [r1.str],by rw [str_len];exact lim c,by rw [str_len];exact q _ H1 s1 (aQ.mpr rfl)⟩)
 ·cases h2
  obtain ⟨l,vs,e,h3,r3⟩:=r1.tup
  exact .inl ⟨l,vs,by rw [e],.inr h3,by rw [r3.length];exact q _ H1 s1 (aQ.mpr rfl)⟩
 ·cases h2
  obtain ⟨l,vs,e,h3,r3⟩:=r1.lst
  exact .inl ⟨l,vs,by rw [e],.inl h3,by rw [r3.length];exact q _ H1 s1 (aQ.mpr rfl)⟩
 ·rename_i t ks ds
  cases t<;>first | (cases h2;done) | skip
  cases h2
  obtain ⟨a,kvs,e,h3,h4⟩:=aQq r1
  exact .inr (.inr ⟨a,kvs,by rw [e],h3,by rw [h4];exact q _ H1 s1 (aQ.mpr rfl)⟩)
theorem aVh:PO X none (tO X.K B aIg):=aNs aPm (by
 rintro σ H Q ⟨A,st,o,rs,ho,q⟩
 cases ho
 exact q H (aZ.refl _))
theorem aHs(h:PE X e (tP X.K B f)):PO X (some e) (tO X.K B (aCr f)):=aNs (aPn h) (by
 rintro σ H Q ⟨A,st,o,rs,ho,q⟩
 obtain ⟨x,hx,h2⟩:=R.ok_of ho
 obtain ⟨i,rfl,h3⟩:=aAp h2
 cases h3
 exact ⟨A,st,_,rs,hx,fun v H1 s1 r1=>⟨i,r1.int,q H1 s1⟩⟩)
theorem aFs{α:Type}(x:List α):∀ (k a:Nat),((List.range k).map (a + ·)).filterMap (x[·]?)=(x.drop a).take k
 | 0,a=>by simp
 | k+1,a=>by
  rw [List.range_succ_eq_map,List.map_cons,List.filterMap_cons,List.map_map]
  have e:((fun b=>a+b) ∘ Nat.succ)=fun b=>(a+1)+b:=by funext b;simp only [Function.comp_apply];omega
  rw [e]
  have ih:=aFs x k (a+1)
  rw [ih]
  by_cases h:a < x.length
  ·rw [Nat.add_zero,List.getElem?_eq_getElem h]
   simp only [List.drop_eq_getElem_cons h,List.take_succ_cons]
  ·rw [Nat.add_zero,List.getElem?_eq_none (by omega)]
   simp only [List.drop_eq_nil_of_le (by omega:x.length<=a),List.drop_eq_nil_of_le (by omega:x.length<=a+1),List.take_nil]
theorem aJc(n d:Nat)(o:Option Int):(match o with | none=>(d:Int) | some i=>if (1:Int) > 0 then max 0 (min (if i < 0 then i+(n:Int) else i) (n:Int)) else max (-1) (min (if i < 0 then i+(n:Int) else i) ((n:Int) - 1)))=((sIx n d o:Nat):Int):=by
 cases o with
 | none=>rfl
 | some i =>
  show (if (1:Int) > 0 then _ else _)=(((if i < 0 then (i+(n:Int)).toNat else min i.toNat n):Nat):Int)
  rw [if_pos (by decide)]
  by_cases h:i < 0
  ·rw [if_pos h,if_pos h];omega
  ·rw [if_neg h,if_neg h];omega
theorem aO1(lo hi:Option Int)(n:Nat):Builtin.Str.strSliceIndices lo hi 1 n=(List.range (sIx n n hi - sIx n 0 lo)).map (sIx n 0 lo + ·):=by
 unfold Builtin.Str.strSliceIndices
 simp only [show (1:Int) > 0 by decide,if_true]
 have e1:=aJc n 0 lo
 have e2:=aJc n n hi
 simp only [show (1:Int) > 0 by decide,if_true] at e1 e2
 rw [show ((0:Nat):Int)=0 from rfl] at e1
 refine Eq.trans (congrArg (fun z=>sliceRange z _ 1) (show _=((sIx n 0 lo:Nat):Int) from e1)) (Eq.trans (congrArg (fun z=>sliceRange _ z 1) (show _=((sIx n n hi:Nat):Int) from e2)) ?_)
 unfold sliceRange
 simp only [show (1:Int) > 0 by decide,if_true]
 have hc:(if ((sIx n 0 lo:Nat):Int) < ((sIx n n hi:Nat):Int) then (((sIx n n hi:Nat):Int) - ((sIx n 0 lo:Nat):Int)+1 - 1) / 1 else 0).toNat=sIx n n hi - sIx n 0 lo:=by
  by_cases h:((sIx n 0 lo:Nat):Int) < ((sIx n n hi:Nat):Int)
  ·rw [if_pos h,Int.ediv_one];omega
  ·rw [if_neg h];omega
 rw [hc]
 refine List.map_congr_left fun k _=>?_
 omega
theorem aQs(n d:Nat)(hd:d<=n)(o:Option Int):sIx n d o<=n:=by
 cases o with
 | none=>exact hd
 | some v =>
  show (if v < 0 then (v+(n:Int)).toNat else min v.toNat n)<=n
  by_cases hv:v < 0
  ·rw [if_pos hv];omega
  ·rw [if_neg hv];omega
theorem aKu(x:List Nat)(lo hi:Option Int):Txt.slice ⟨x.toArray⟩ lo hi=⟨(cut x lo hi).toArray⟩:=by
 unfold Txt.slice cut
 rw [str_len,aO1,List.length_map,List.length_range]
 have h1:=aQs x.length x.length (Nat.le_refl _) hi
 by_cases h:sIx x.length x.length hi - sIx x.length 0 lo=x.length
 ·have e0:sIx x.length 0 lo=0\/x.length=0:=by omega
  rw [if_pos (by simp [h]),h]
  rcases e0 with e0 | e0
  ·rw [e0,List.drop_zero,List.take_length]
  ·rw [List.length_eq_zero_iff.mp e0];simp
 ·rw [if_neg (by simp [h])]
  have e:(fun (i:Nat)=>(⟨x.toArray⟩:Str).cps[i]?)=fun i=>x[i]?:=by funext i;simp
  rw [e,aFs]
def bB7:V->Option Int->Option Int->Hp->VK->Prop:=fun x lo hi H Q=>∃ z:List Nat,x = .str ⟨z.toArray⟩/\z.length<=sizeLine/\Q (.str ⟨(cut z lo hi).toArray⟩) H
theorem aVi:SlR X bB7:=by
 intro pins s σ H x v vl vu lo hi sl Q I rx hs pl pu h
 obtain ⟨z,rfl,hz,q⟩:=h
 obtain ⟨t,rfl⟩:=rx
 refine ⟨"str", _,PySem.F.slot_str_getitem.lookup,typeIs_str _ _ _,?_⟩
 have hl:(Txt.slice ⟨z.toArray⟩ lo hi).length<=sizeLine:=Nat.le_trans (Txt.slice_le _ _ _) (by rw [str_len];exact hz)
 have fin:∀ t' k,EP X pins σ Q (.str (Txt.slice ⟨z.toArray⟩ lo hi) t') { s with toks:=k }:=fun t' k=>⟨.str ⟨(cut z lo hi).toArray⟩,H,I.tok k,⟨t',by rw [aKu]⟩,q⟩
 cases pl with
 | none =>
  cases pu with
  | none=>exact wpAny_getItem_str_slice (l:=none) (u:=none) (st:=none) hs rfl (post_val_or_str ⟨hl,fin⟩)
  | int j uj=>exact wpAny_getItem_str_slice (l:=none) (u:=some (j,uj)) (st:=none) hs rfl (post_val_or_str ⟨hl,fin⟩)
 | int i ui =>
  cases pu with
  | none=>exact wpAny_getItem_str_slice (l:=some (i,ui)) (u:=none) (st:=none) hs rfl (post_val_or_str ⟨hl,fin⟩)
  | int j uj=>exact wpAny_getItem_str_slice (l:=some (i,ui)) (u:=some (j,uj)) (st:=none) hs rfl (post_val_or_str ⟨hl,fin⟩)
theorem aO2{K:PySem.W.Frag}{H:Hp}{ds:List D}{vs:List V}(lo hi:Option Int)(r:bH K H ds vs):bH K H (cut ds lo hi) (aK7 vs lo hi):=by
 unfold cut aK7
 rw [r.length]
 exact (r.drop _).take _
theorem aYn{lo hi:Option Expr}{l u:ExO}{p2:Pos}(ha:PE X a (tP X.K B f))(hl:PO X lo (tO X.K B l))(hu:PO X hi (tO X.K B u)):PE X (.Subscript a (.Slice lo hi none p2) pos) (tI X.K B (eSl f l u)):=by
 refine cT (aM4 (aPp.or aVi) ha hl hu) ?_
 rintro σ H Q ⟨A,st,d,rs,hd,q⟩
 obtain ⟨x,hx,h2⟩:=R.ok_of hd
 obtain ⟨l',hl',h3⟩:=R.ok_of h2
 obtain ⟨u',hu',h4⟩:=R.ok_of h3
 refine ⟨A,st,x,rs,hx,fun v H1 s1 r1=>⟨A,st,l',rs.mono s1,hl',fun H2 s2=>⟨A,st,u',rs.mono (s1.trans s2),hu',fun H3 s3=>?_⟩⟩⟩
 have r3:=r1.mono (s2.trans s3)
 cases x<;>first | (cases h4;done) | skip
 ·obtain ⟨c,h5⟩:=aJ h4
  cases h5
  exact .inr ⟨_,r3.str,lim c,q _ H3 (s1.trans (s2.trans s3)) (bJ.mpr rfl)⟩
 ·cases h4
  obtain ⟨p,vs,e,h6,r6⟩:=r3.lst
  refine .inl ⟨p,vs,e,h6,fun n hn=>q _ _ (s1.trans (s2.trans (s3.trans (dJ hn)))) ?_⟩
  exact jF (rs.own.mono (s1.trans (s2.trans s3))) hn (aO2 _ _ r6)
end
end Pu
namespace Pu
open PySem PySem.Spec PyProof.Rows L2
def clo(cells:List (Str × Addr)):List (Str × NameKind)->List (Str × Addr)->List (Str × Addr)
 | [],acc=>acc
 | (n,k) :: r,acc=>if k == .free then clo cells r ((n,(cells.lookup n).getD 0) :: acc) else clo cells r acc
theorem vM{env:Env}:∀ (names:List (Str × NameKind)) (acc:List (Str × Addr)),(∀ y∈names,y.2 = .free->∃ c,env.cells.lookup y.1=some c) ->
  (forIn names acc fun x cs=>if x.2 == .free then (do let c <- cellOf env x.1;pure (ForInStep.yield ((x.1,c) :: cs))) else pure (ForInStep.yield cs):Sem (List (Str × Addr)))=pure (clo env.cells names acc)
 | [],acc,_=>by rw [List.forIn_nil];rfl
 | (n,k) :: r,acc,h=>by
  rw [List.forIn_cons]
  unfold clo
  by_cases hk:k = .free
  ·subst hk
   obtain ⟨c,e⟩:=h (n,.free) List.mem_cons_self rfl
   have e2:cellOf env n=pure c:=by unfold cellOf;rw [e]
   simp only [beq_self_eq_true,if_true,e2,e,Option.getD_some]
   show (forIn r ((n,c) :: acc) _:Sem (List (Str × Addr)))=_
   exact vM r _ fun y hy=>h y (List.mem_cons_of_mem _ hy)
  ·have hb:(k==NameKind.free)=false:=by simpa using hk
   simp only [hb,Bool.false_eq_true,if_false]
   show (forIn r acc _:Sem (List (Str × Addr)))=_
   exact vM r _ fun y hy=>h y (List.mem_cons_of_mem _ hy)
theorem aCe{scope:Scope}{env:Env}(h:∀ y∈scope.names,y.2 = .free->∃ c,env.cells.lookup y.1=some c):closureFor scope env=pure (clo env.cells scope.names []):=by
 have q:=vM (env:=env) scope.names [] h
 unfold closureFor
 rw [<-q]
 simp only [pure_bind,bind_pure]
theorem aEd{cells:List (Str × Addr)}:∀ (names:List (Str × NameKind)) (acc:List (Str × Addr)) (x:Str) (c:Addr),(∀ y∈names,y.2 = .free->∃ c,cells.lookup y.1=some c)->(x,c)∈clo cells names acc->((x,NameKind.free)∈names/\cells.lookup x=some c)\/(x,c)∈acc
 | [],acc,x,c,_,h => .inr h
 | (n,k) :: r,acc,x,c,hn,h=>by
  unfold clo at h
  have hr:∀ y∈r,y.2 = .free->∃ c,cells.lookup y.1=some c:=fun y hy=>hn y (List.mem_cons_of_mem _ hy)
  by_cases hk:k = .free
  ·subst hk
   rw [if_pos (by simp)] at h
   obtain ⟨c',e⟩:=hn (n,.free) List.mem_cons_self rfl
   rcases aEd r _ x c hr h with ⟨h1,h2⟩ | h1
   ·exact .inl ⟨List.mem_cons_of_mem _ h1,h2⟩
   ·rcases List.mem_cons.mp h1 with h1 | h1
    ·cases h1
     refine .inl ⟨List.mem_cons_self,?_⟩
     have e':cells.lookup n=some c':=e
     rw [e'];rfl
    ·exact .inr h1
  ·rw [if_neg (by simpa using hk)] at h
   rcases aEd r _ x c hr h with ⟨h1,h2⟩ | h1
   ·exact .inl ⟨List.mem_cons_of_mem _ h1,h2⟩
   ·exact .inr h1
theorem aEe{cells:List (Str × Addr)}:∀ (names:List (Str × NameKind)) (acc:List (Str × Addr)) (x:Str),((x,NameKind.free)∈names\/∃ c,(x,c)∈acc)->∃ c,(x,c)∈clo cells names acc
 | [],acc,x,h=>by
  rcases h with h | h
  ·cases h
  ·exact h
 | (n,k) :: r,acc,x,h=>by
  unfold clo
  by_cases hk:k = .free
  ·subst hk
   rw [if_pos (by simp)]
   refine aEe r _ x ?_
   rcases h with h | ⟨c,h⟩
   ·rcases List.mem_cons.mp h with h | h
    ·cases h;exact .inr ⟨_,List.mem_cons_self⟩
    ·exact .inl h
   ·exact .inr ⟨c,List.mem_cons_of_mem _ h⟩
  ·rw [if_neg (by simpa using hk)]
   refine aEe r _ x ?_
   rcases h with h | h
   ·rcases List.mem_cons.mp h with h | h
    ·cases h;exact absurd rfl hk
    ·exact .inl h
   ·exact .inr h
theorem oV{α:Type}:∀ {l:List (Str × α)} {x:Str} {c:α},(x,c)∈l->∃ c',l.lookup x=some c'
 | (n,v) :: r,x,c,h=>by
  rw [List.lookup_cons]
  cases hb:x==n with
  | true=>exact ⟨v,rfl⟩
  | false =>
   rcases List.mem_cons.mp h with h | h
   ·cases h;simp at hb
   ·exact oV h
theorem jQ{env:Env}:∀ (names:List (Str × NameKind)) (x:Str),(names.map fun (n,k)=>if (k==NameKind.free&&env.scope.kind == .function&&env.kindOf n==some .cell) then (n,NameKind.cell) else (n,k)).lookup x =
  (names.lookup x).map fun k=>if (k==NameKind.free&&env.scope.kind == .function&&env.kindOf x==some .cell) then NameKind.cell else k
 | [],_=>rfl
 | (n,k) :: r,x=>by
  have ih:=@jQ env r x
  rw [List.map_cons,List.lookup_cons]
  show List.lookup x ((if (k==NameKind.free&&env.scope.kind == .function&&env.kindOf n==some .cell)=true then (n,NameKind.cell) else (n,k)) :: _)=_
  cases hx:x==n with
  | true =>
   have e:x=n:=beq_iff_eq.mp hx
   subst e
   by_cases hc:(k==NameKind.free&&env.scope.kind == .function&&env.kindOf x==some .cell)=true
   ·rw [if_pos hc,List.lookup_cons,List.lookup_cons,hx];simp only [Option.map_some];rw [if_pos hc]
   ·rw [if_neg hc,List.lookup_cons,List.lookup_cons,hx];simp only [Option.map_some];rw [if_neg hc]
  | false =>
   by_cases hc:(k==NameKind.free&&env.scope.kind == .function&&env.kindOf n==some .cell)=true
   ·rw [if_pos hc,List.lookup_cons,List.lookup_cons,hx];exact ih
   ·rw [if_neg hc,List.lookup_cons,List.lookup_cons,hx];exact ih
theorem lG:∀ (names:List (Str × NameKind)) (n:Nat) (acc:List (Str × Addr)),cellsFrom n names acc=cellsFrom n names []++acc
 | [],_,_=>rfl
 | (x,k) :: r,n,acc=>by
  unfold cellsFrom
  split
  ·rw [lG r (n+1) ((x,n) :: acc),lG r (n+1) [(x,n)],List.append_assoc];rfl
  ·exact lG r n acc
theorem qN:∀ (names:List (Str × NameKind)) (n:Nat) (acc:List (Str × Addr)) (x:Str) (c:Addr),(x,c)∈cellsFrom n names acc->(x,c)∈acc\/(x,NameKind.cell)∈names
 | [],_,_,_,_,h => .inl h
 | (y,k) :: r,n,acc,x,c,h=>by
  unfold cellsFrom at h
  split at h
  ·rename_i hk
   rcases qN r _ _ x c h with z | z
   ·rcases List.mem_cons.mp z with z | z
    ·cases z;exact .inr (by rw [show k=NameKind.cell from by simpa using hk];exact List.mem_cons_self)
    ·exact .inl z
   ·exact .inr (List.mem_cons_of_mem _ z)
  ·rcases qN r _ _ x c h with z | z
   ·exact .inl z
   ·exact .inr (List.mem_cons_of_mem _ z)
theorem lH:∀ (names:List (Str × NameKind)) (n:Nat) (acc:List (Str × Addr)) (x:Str),((x,NameKind.cell)∈names\/∃ c,(x,c)∈acc)->∃ c,(x,c)∈cellsFrom n names acc
 | [],_,_,x,h=>h.elim (fun z=>nomatch z) id
 | (y,k) :: r,n,acc,x,h=>by
  unfold cellsFrom
  split
  ·refine lH r _ _ x ?_
   rcases h with h | ⟨c,h⟩
   ·rcases List.mem_cons.mp h with h | h
    ·cases h;exact .inr ⟨n,List.mem_cons_self⟩
    ·exact .inl h
   ·exact .inr ⟨c,List.mem_cons_of_mem _ h⟩
  ·rename_i hk
   refine lH r _ _ x ?_
   rcases h with h | h
   ·rcases List.mem_cons.mp h with h | h
    ·cases h;exact absurd rfl hk
    ·exact .inl h
   ·exact .inr h
theorem aBp{α:Type}(x:Str):∀ (l r:List (Str × α)),(l++r).lookup x=(l.lookup x).or (r.lookup x)
 | [],r=>by simp
 | (y,v) :: l,r=>by
  rw [List.cons_append,List.lookup_cons,List.lookup_cons]
  cases hb:x==y with
  | true=>rfl
  | false=>exact aBp x l r
theorem lJ{α:Type}:∀ {l:List (Str × α)} {x:Str} {v:α},(l.map (·.1)).Nodup->(x,v)∈l->l.lookup x=some v
 | (y,w) :: l,x,v,nd,h=>by
  rw [List.map_cons,List.nodup_cons] at nd
  rw [List.lookup_cons]
  rcases List.mem_cons.mp h with h | h
  ·cases h;simp
  ·have hne:(x==y)=false:=by
    rw [beq_eq_false_iff_ne]
    intro z
    exact nd.1 (List.mem_map.mpr ⟨(x,v),h,z⟩)
   rw [hne]
   exact lJ nd.2 h
theorem aKv{M:Model}{A:Around}{E:Value->Shared->Prop}{s:Shared}{scope:Scope}{gl:Addr}{cl:List (Str × Addr)}{qual:Str}{env:Env}{Q:Env->Shared->Prop}
  (hQ:∀ h',h'.Ns s.heap.objs.size (fun _=>none)->(∀ b o,s.heap.get? b=some o->h'.get? b=some o)->CellsOk h' (s.heap.objs.size+1) (cellsFrom (s.heap.objs.size+1) scope.names []) ->
   Q { scope:=scope,locals:=s.heap.objs.size,globals:=gl,cells:=cellsFrom (s.heap.objs.size+1) scope.names cl,qual:=qual,func:=none,code:=env.code,frame:=env.frame,builtins:=env.builtins } { s with heap:=h' }) :
  wpAny M A (newFunctionEnv scope gl cl [] qual none .none (some env)) Q E s:=by
 simp only [newFunctionEnv,Option.isSome_some,if_true]
 refine wpAny_bind (wpAny_alloc (wpAny_bind (wpAny_layCells _ (fun name kind cells=>by cases hkc:kind==NameKind.cell<;>simp [hkc]) _ _ _ _ ?_)))
 rw [List.forIn_nil]
 refine wpAny_bind (wpAny_pure (wpAny_pure ?_))
 have ok:=cellsFrom_ok scope.names (s.heap.push { cls := .type "dict", data := .dict #[] }) (s.heap.objs.size+1) [] ⟨fun _ _ hm=>(nomatch hm),List.Pairwise.nil⟩ (by rw [Heap.size_push];exact Nat.le_refl _)
 rw [Heap.size_push] at ok
 have e:({ s with heap:=s.heap.push { cls := .type "dict", data := .dict #[] } }:Shared).heap.objs.size=s.heap.objs.size+1:=Heap.size_push ..
 rw [e]
 exact hQ _ ((Heap.Ns.new s.heap (.type "dict")).keeps (pushCells_keeps _ _)) (fun b o q=>pushCells_keeps _ _ b o (Heap.get?_push_of_some _ q)) ok
structure CScope(X:Cx)(scope:Scope)(is:List Nat):Prop where
 kind:scope.kind = .function
 nd:(scope.names.map (·.1)).Nodup
 free:∀ x∈scope.names,x.2 = .free->X.env.kindOf x.1=some .cell\/X.env.kindOf x.1=some .free
 own:∀ (i:Nat) x,X.N[i]?=some x->(scope.names.lookup x=some .local\/scope.names.lookup x=some .cell)->i∈is
section
variable{X:Cx}{scope:Scope}{is:List Nat}
theorem CScope.names(S:CScope X scope is):∀ x∈scope.names,x.2 = .local->scope.names.lookup x.1=some .local:=fun x hx e=>lJ S.nd (by rw [<-e];exact hx)
def cG(X:Cx)(scope:Scope)(C:Addr)(s₀:Shared)(H₀:Hp)(fp:List Addr):Cx :=
 { X with s₀:=s₀,H₀:=H₀,env:=compEnvC scope (cellsFrom (C+1) scope.names (clo X.env.cells scope.names [])) C X.env,outer:=X.stack,stack:=X.stack,ex:=fp,fn:=fun x=>scope.names.lookup x==some .cell,pn:=[],xe:=fun _ _=>False,calm:=true }
theorem CScope.cells(S:CScope X scope is)(ok:X.Ok):∀ y∈scope.names,y.2 = .free->∃ c,X.env.cells.lookup y.1=some c:=fun y hy hf=>ok.has y.1 (S.free y hy hf)
theorem CScope.lk(S:CScope X scope is)(ok:X.Ok){n:Nat}{x:Str}{c:Addr}(h:(cellsFrom n scope.names (clo X.env.cells scope.names [])).lookup x=some c) :
  ((cellsFrom n scope.names []).lookup x=some c/\scope.names.lookup x=some .cell)\/(scope.names.lookup x=some .free/\X.env.cells.lookup x=some c):=by
 rw [lG,aBp] at h
 cases e:(cellsFrom n scope.names []).lookup x with
 | some c' =>
  rw [e] at h
  cases h
  rcases qN _ _ _ _ _ (PySem.mem_of_lookup e) with z | z
  ·cases z
  ·exact .inl ⟨rfl,lJ S.nd z⟩
 | none =>
  rw [e] at h
  have h:(clo X.env.cells scope.names []).lookup x=some c:=h
  rcases aEd scope.names [] x c (S.cells ok) (PySem.mem_of_lookup h) with ⟨h1,h2⟩ | h2
  ·exact .inr ⟨lJ S.nd h1,h2⟩
  ·cases h2
def aFt(is:List Nat)(σ:LSt):LSt:=is.foldl (fun τ i=>τ.set i none) σ
theorem aFu(is:List Nat):∀ σ:LSt,(aFt is σ).length=σ.length:=by
 induction is with
 | nil=>exact fun _=>rfl
 | cons i is ih=>intro σ;show (aFt is (σ.set i none)).length=_;rw [ih,List.length_set]
theorem aO3(is:List Nat):∀ (σ:LSt) (j:Nat) (v:V),(aFt is σ)[j]?=some (some v)->σ[j]?=some (some v)/\j ∉ is:=by
 induction is with
 | nil=>exact fun σ j v h=>⟨h,by simp⟩
 | cons i is ih =>
  intro σ j v h
  obtain ⟨h1,h2⟩:=ih (σ.set i none) j v h
  rw [List.getElem?_set] at h1
  by_cases e:i=j
  ·subst e
   rw [if_pos rfl] at h1
   split at h1<;>cases h1
  ·rw [if_neg e] at h1
   exact ⟨h1,fun z=>(List.mem_cons.mp z).elim (fun z=>e z.symm) h2⟩
theorem aHt{pins:List (Addr × Obj)}{σ:LSt}{H:Hp}{s:Shared}{fp:List Addr}{h':Heap}{t':Nat}(S:CScope X scope is)(hc:X.calm=true)(I:Inv X pins σ H s)(hf:∀ b∈fp,vQ X pins H b)(hlt:∀ b∈fp,b < s.heap.objs.size)
  (hn:h'.Ns s.heap.objs.size fun _=>none) (hk:∀ b o,s.heap.get? b=some o->h'.get? b=some o) (hcl:CellsOk h' (s.heap.objs.size+1) (cellsFrom (s.heap.objs.size+1) scope.names [])) :
  Inv (cG X scope s.heap.objs.size s H fp) [] (aFt is σ) H { s with heap:=h',toks:=t' }:=by
 have lk:=@CScope.lk X scope is S I.ok (s.heap.objs.size+1)
 have nf:∀ b∈fp,b≠s.heap.objs.size:=fun b hb=>Nat.ne_of_lt (hlt b hb)
 have cellLt:∀ x c,X.env.cells.lookup x=some c->c < s.heap.objs.size:=fun x c e=>by
  obtain ⟨v,q⟩:=I.cell x c e
  exact q.lt
 have ownGe:∀ x c,(cellsFrom (s.heap.objs.size+1) scope.names []).lookup x=some c->s.heap.objs.size+1<=c:=fun x c e=>(hcl.empty x c (PySem.mem_of_lookup e)).2
 have has:∀ x k,(k = .cell\/k = .free)->scope.names.lookup x=some k->∃ c,(cellsFrom (s.heap.objs.size+1) scope.names (clo X.env.cells scope.names [])).lookup x=some c:=fun x k hk e=>by
  have hm:=PySem.mem_of_lookup e
  rcases hk with rfl | rfl
  ·obtain ⟨c,q⟩:=lH scope.names (s.heap.objs.size+1) (clo X.env.cells scope.names []) x (.inl hm)
   exact oV q
  ·obtain ⟨c,q⟩:=lH scope.names (s.heap.objs.size+1) (clo X.env.cells scope.names []) x (.inr (aEe (cells:=X.env.cells) scope.names [] x (.inl hm)))
   exact oV q
 have knd:∀ x,(relabel scope X.env).names.lookup x=some .cell\/(relabel scope X.env).names.lookup x=some .free->scope.names.lookup x=some .cell\/scope.names.lookup x=some .free:=fun x hx=>by
  unfold relabel at hx
  rw [jQ] at hx
  cases e:scope.names.lookup x with
  | none=>rw [e] at hx;rcases hx with hx | hx<;>cases hx
  | some k =>
   rw [e] at hx
   simp only [Option.map_some] at hx
   by_cases hc:(k==NameKind.free&&X.env.scope.kind == .function&&X.env.kindOf x==some .cell)=true
   ·simp only [Bool.and_eq_true,beq_iff_eq] at hc
    exact .inr (by rw [hc.1.1])
   ·rw [if_neg hc] at hx;exact hx
 refine ⟨⟨I.ok.mod,?_,I.ok.glob,I.ok.blt,Nat.le_refl _,fun x y c h1 h2=>?_,fun x hx=>?_,fun x c hfn e=>?_,fun _=>I.ok.hd hc,I.ok.frames,.inl rfl,fun b hb=>⟨nf b hb,fun x c e z=>?_⟩,I.bs,?_,fun b o e hb=>?_,fun b hb z=>?_,I.stack,I.stkFree⟩,
  rfl,I.bare,Un.kept hk,⟨_,hn,fun i x v e1 e2 e3=>?_⟩,fun x c e=>?_,I.hok.fresh (Nat.le_refl _),fun x c e=>?_,(fun p hp=>absurd (show p∈([]:List (Addr × Obj)) from hp) (by simp)),I.hok.kept hk,by rw [aFu];exact I.len⟩
 ·show (relabel scope X.env).kind = .function
  exact S.kind
 ·rcases lk h1 with ⟨a1,_⟩ | ⟨_,a1⟩ <;> rcases lk h2 with ⟨a2,_⟩ | ⟨_,a2⟩
  ·exact name_of_addr hcl.apart (PySem.mem_of_lookup a1) (PySem.mem_of_lookup a2)
  ·exact absurd (Nat.lt_of_lt_of_le (cellLt y c a2) (Nat.le_of_succ_le (ownGe x c a1))) (Nat.lt_irrefl _)
  ·exact absurd (Nat.lt_of_lt_of_le (cellLt x c a1) (Nat.le_of_succ_le (ownGe y c a2))) (Nat.lt_irrefl _)
  ·exact I.ok.inj x y c a1 a2
 ·rcases knd x hx with e | e
  ·exact has x _ (.inl rfl) e
  ·exact has x _ (.inr rfl) e
 ·have hfn:scope.names.lookup x=some .cell:=beq_iff_eq.mp hfn
  rcases lk e with ⟨a1,_⟩ | ⟨a1,_⟩
  ·have:=ownGe x c a1
   show s.heap.objs.size<=c
   omega
  ·rw [hfn] at a1;cases a1
 ·rcases lk e with ⟨a1,_⟩ | ⟨_,a1⟩
  ·have h2:=hlt b hb
   rw [<-z] at h2
   exact absurd (Nat.lt_of_lt_of_le h2 (Nat.le_of_succ_le (ownGe x c a1))) (Nat.lt_irrefl _)
  ·exact (hf b hb).2.2.2.2.1 x c a1 z
 ·exact Nat.le_trans I.ok.bsz I.sz
 ·rcases (hf b hb).2.2.2.1 with z | z
  ·exact I.ok.noex b o e z
  ·exact absurd (Nat.lt_of_lt_of_le (Heap.lt_size e) (Nat.le_trans I.ok.bsz z)) (Nat.lt_irrefl _)
 ·rcases List.mem_cons.mp (I.stkSub b z) with z | z
  ·exact (hf b hb).2.1 z
  ·exact (hf b hb).2.2.1 z
 ·obtain ⟨e2,hni⟩:=aO3 is σ i v e2
  have e3:(relabel scope X.env).names.lookup x=some .local\/(relabel scope X.env).names.lookup x=some .cell\/(relabel scope X.env).names.lookup x=some .free:=e3
  have hfr:scope.names.lookup x=some .free:=by
   have e4:=e3
   unfold relabel at e4
   rw [jQ] at e4
   cases e:scope.names.lookup x with
   | none=>rw [e] at e4;rcases e4 with e4 | e4 | e4<;>cases e4
   | some k =>
    rw [e] at e4
    simp only [Option.map_some] at e4
    by_cases hc:(k==NameKind.free&&X.env.scope.kind == .function&&X.env.kindOf x==some .cell)=true
    ·simp only [Bool.and_eq_true,beq_iff_eq] at hc
     rw [hc.1.1]
    ·rw [if_neg hc] at e4
     rcases e4 with e4 | e4 | e4
     ·exact absurd (S.own i x e1 (.inl (by rw [e,e4]))) hni
     ·exact absurd (S.own i x e1 (.inr (by rw [e,e4]))) hni
     ·exact e4
  have hrel:(relabel scope X.env).names.lookup x=some .cell\/(relabel scope X.env).names.lookup x=some .free:=by
   rcases e3 with e3 | e3 | e3
   ·unfold relabel at e3
    rw [jQ,hfr] at e3
    simp only [Option.map_some] at e3
    split at e3<;>cases e3
   ·exact .inl e3
   ·exact .inr e3
  have hvis:=S.free _ (PySem.mem_of_lookup hfr) rfl
  obtain ⟨m,hm,hl⟩:=I.loc
  obtain ⟨u,ru,lu⟩:=hl i x v e1 e2 (.inr hvis)
  refine ⟨u,ru,.inr ⟨hrel,?_⟩⟩
  rcases lu with ⟨k1,_⟩ | ⟨_,c,ec,zc⟩
  ·have k1:X.env.kindOf x=some .local:=k1
   rcases hvis with q | q<;>rw [k1] at q<;>cases q
  ·obtain ⟨c2,e5⟩:=has x _ (.inr rfl) hfr
   rcases lk e5 with ⟨_,a1⟩ | ⟨_,a1⟩
   ·rw [hfr] at a1;cases a1
   ·rw [ec] at a1
    cases a1
    exact ⟨c,e5,zc.keeps hk⟩
 ·rcases lk e with ⟨a1,_⟩ | ⟨_,a1⟩
  ·exact ⟨_,(hcl.empty x c (PySem.mem_of_lookup a1)).1⟩
  ·obtain ⟨v,q⟩:=I.cell x c a1
   exact ⟨v,q.keeps hk⟩
 ·rcases lk e with ⟨a1,_⟩ | ⟨_,a1⟩
  ·exact I.hok.fresh (by have:=ownGe x c a1;omega)
  ·exact I.freeC x c a1
end
end Pu
namespace Pu
open PySem PySem.Spec PyProof.Rows L2
theorem aBq(elt target iter c:Expr)(scope:Scope)(pos:Pos)(it acc:Value)(env:Env) :
  compTurn (.ListComp elt [⟨target,iter,[c],0⟩] scope pos) 0 it acc env=(standAt iter.pos >>= fun _=>pyNext it >>= fun r=>match r with
   | none=>pure (.done .next)
   | some v=>letOwnedTupleGo target it v >>= fun _=>assign target env v >>= fun _=>isTrue c env (eval c env) >>= fun ok =>
    if ok=true then (eval elt env >>= fun x=>call (.builtin "list.append") [acc,x] >>= fun _=>again (.compLoop (.ListComp elt [⟨target,iter,[c],0⟩] scope pos) 0 it acc env))
    else again (.compLoop (.ListComp elt [⟨target,iter,[c],0⟩] scope pos) 0 it acc env)):=by
 unfold compTurn
 simp [List.forIn_cons,List.forIn_nil]
 rfl
theorem aA6(elt target iter:Expr)(scope:Scope)(pos:Pos)(it acc:Value)(env:Env) :
  compTurn (.ListComp elt [⟨target,iter,[],0⟩] scope pos) 0 it acc env=(standAt iter.pos >>= fun _=>pyNext it >>= fun r=>match r with
   | none=>pure (.done .next)
   | some v=>letOwnedTupleGo target it v >>= fun _=>assign target env v >>= fun _ =>
    (eval elt env >>= fun x=>call (.builtin "list.append") [acc,x] >>= fun _=>again (.compLoop (.ListComp elt [⟨target,iter,[],0⟩] scope pos) 0 it acc env))):=by
 unfold compTurn
 simp [List.forIn_nil]
 rfl
section
variable{X:Cx}{scope:Scope}{is:List Nat}{elt tg iter:Expr}{pos:Pos}{wi:TI}{g:TG}{te:TE}{tt:TT}
def tLC(is:List Nat)(wi:TI)(g:TG)(tt:TT)(te:TE):TE:=fun σ H Q=>wi σ H fun J H1=>∀ p,H1 p=none->∃ W:Nat->Nat->LSt->List V->Hp->Prop,(∃ m,W 0 m (aFt is σ) [] (upd H1 p (.lst []))) /\
 ∀ i m τ vs H,W i m τ vs H->H p=some (.lst vs)/\((J.stop i H/\Q (.ref p) H)\/(J.go i H/\∀ x H',J.yld i H x H'->g x τ H' fun τ2 H2=>tt τ2 H2 fun k H3 =>
  if k=true then te τ2 H3 fun y H4=>H4 p=some (.lst vs)/\vs.length < sizeLine/\∃ m',m' < m/\W (i+1) m' τ2 (vs++[y]) (upd H4 p (.lst (vs++[y]))) else ∃ m',m' < m/\W (i+1) m' τ2 vs H3))
theorem aEf{pins:List (Addr × Obj)}{σ σ5:LSt}{H H5:Hp}{s s5:Shared}{fp:List Addr}{C:Addr}{h':Heap}(I:Inv X pins σ H s)(hf:∀ b∈fp,vQ X pins H b)(hC:s.heap.objs.size<=C)(J:Inv (cG X scope C s H fp) [] σ5 H5 s5)
  (hs:Heap.SameBut C s5.heap h'):Inv X pins σ H5 { s5 with heap:=h' }:=by
 have hfree:H5 C=none:=J.free
 have ne:∀ b o,s.heap.get? b=some o->b≠C:=fun b o e z=>by
  have:=Heap.lt_size e
  subst z
  exact absurd (Nat.lt_of_lt_of_le this hC) (Nat.lt_irrefl _)
 have u:Un (frs X.stack) fp H H5 s.heap h':=⟨fun b o e n hb hx=>hs.extBut b o (ne b o e) (J.base.keep b o e n hb hx),fun b o e n hb hx=>by
   obtain ⟨sl,q⟩:=J.base.slot b o e n hb hx
   exact ⟨sl,hs.extBut b _ (ne b o e) q⟩,J.base.free,fun b o e hx=>by
   obtain ⟨o',q⟩:=J.base.there b o e hx
   exact ⟨o',hs.extBut b _ (ne b o e) q⟩,J.base.tups,J.base.frzs,J.base.tbls⟩
 have hok:HOk X.prog X.w H5 h':=fun b o e=>by
  refine (J.hok b o e).stay (fun c v hc q=>hs.extBut c v ?_ q) (fun _ q=>q) fun _ _ q=>q
  rintro rfl
  rcases hc with z | z
  ·subst z;rw [hfree] at e;cases e
  ·rw [hfree] at z;cases z
 obtain ⟨hh,gg,dd,tt,os⟩:=s5
 have hos:os=s.os:=J.os
 subst hos
 have fin:=I.call (h':=h') (g':=gg) (d':=dd) (t':=tt) (ch:=fp) u hok J.bare fun b hb=>⟨(hf b hb).2.2.2.1,(hf b hb).2.1,(hf b hb).2.2.2.2.1,(hf b hb).2.2.2.2.2⟩
 exact fin
theorem aD7{Y:Cx}{pins:List (Addr × Obj)}{τ:LSt}{H:Hp}{s:Shared}{p:Addr}{vs:List V}{α:Type}{k:Sem α}{Q:α->Shared->Prop}{E:Value->Shared->Prop}(he:PE Y elt te)(hx:∀ e s',Y.xe e s'->E e s')(I:Inv Y pins τ H s)(hw:te τ H fun y H4=>H4 p=some (.lst vs)/\vs.length < sizeLine/\∀ s',Inv Y pins τ (upd H4 p (.lst (vs++[y]))) s'->wpAny (model Y.prog Y.w) Y.A k Q E s') :
  wpAny (model Y.prog Y.w) Y.A (eval elt Y.env >>= fun x=>call (.builtin "list.append") [.ref p,x] >>= fun _=>k) Q E s:=by
 refine wpAny_bind (wpAny_mono (he pins s τ H _ I hw) (fun u s1 ⟨y,H4,I4,r4,hp,hz,q⟩=>?_) hx)
 obtain ⟨z,its,n,r,hl,e⟩:=I4.lstM hp
 refine wpAny_bind (call_meets PySem.F.slot_list_append ⟨_,e,rfl⟩ PySem.F.entry_list_append (PySem.F.args_list_append_2 _ _) (PySem.list_append p its.toArray n u (by rw [List.size_toArray];omega)) ⟨e,?_⟩)
 refine q _ (I4.lset (its':=its++[u]) (t':=s1.toks) hp e (by simp) (r.append (.cons r4 .nil)) ?_)
 rw [List.length_append,List.length_singleton]
 omega
end
theorem aKw{Y:Cx}{e tg:Expr}{env:Env}{g:TG}{te:TE}{tt:TT}{it p:Addr}{fp:List Addr}{tn:Nat->Heap->Prop}{J:It}{R:Result->Shared->Prop}{iterPos:Pos}{rest:Sem Fin}
  (T:Turn Y.prog Y.w Y.K tg J fp it tn) (hc:Y.calm=true) (hE:Y.xe=fun _ _=>False) (hg:PG Y tg g) (hq:(Code.compLoop e 0 (.ref it) (.ref p) Y.env).quiet=true)
  (hden:∀ (s:Shared) (Q:Fin->Shared->Prop),wpAny (model Y.prog Y.w) Y.A (pyNext (.ref it) >>= fun r=>match r with
    | none=>pure (.done .next)
    | some v=>letOwnedTupleGo tg (.ref it) v >>= fun _=>assign tg Y.env v >>= fun _=>rest) Q (fun _ _=>False) s ->
   wpAny (model Y.prog Y.w) (Y.A.under (.compLoop e 0 (.ref it) (.ref p) Y.env)) ((model Y.prog Y.w).den (.compLoop e 0 (.ref it) (.ref p) Y.env)) Q (fun _ _=>False) s)
  (hrest:∀ (τ:LSt) (H:Hp) (s:Shared) (pins:List (Addr × Obj)) (vs:List V) (N:Hp->List V->Prop) (Q:Fin->Shared->Prop),Inv Y pins τ H s ->
   (tt τ H fun k H3=>if k=true then te τ H3 fun y H4=>H4 p=some (.lst vs)/\vs.length < sizeLine/\N (upd H4 p (.lst (vs++[y]))) (vs++[y]) else N H3 vs) ->
   (∀ s' H' ws,Inv Y pins τ H' s'->N H' ws->Q (.again (.compLoop e 0 (.ref it) (.ref p) Y.env)) s')->wpAny (model Y.prog Y.w) Y.A rest Q (fun _ _=>False) s)
  (W:Nat->Nat->LSt->List V->Hp->Prop) {Qe:Hp->Prop}
  (step:∀ i m τ vs H,W i m τ vs H->H p=some (.lst vs)/\((J.stop i H/\Qe H)\/(J.go i H/\∀ x H',J.yld i H x H'->g x τ H' fun τ2 H2=>tt τ2 H2 fun k H3 =>
   if k=true then te τ2 H3 fun y H4=>H4 p=some (.lst vs)/\vs.length < sizeLine/\∃ m',m' < m/\W (i+1) m' τ2 (vs++[y]) (upd H4 p (.lst (vs++[y]))) else ∃ m',m' < m/\W (i+1) m' τ2 vs H3)))
  (hR:∀ τ H s,Inv Y [] τ H s->Qe H->R (.ok .next) s) {s:Shared} {τ:LSt} {H:Hp} {vs:List V} {i m:Nat} (I:Inv Y [] τ H s) (st:tn i s.heap) (fr:∀ b∈fp,vQ Y [] H b) (w:W i m τ vs H) :
  codeAny (model Y.prog Y.w) Y.A (.compLoop e 0 (.ref it) (.ref p) Y.env) R s:=by
 have stat:∀ {H':Hp},(∀ b∈fp,H' b=none)->∀ b∈fp,vQ Y [] H' b:=fun hn b hb=>⟨hn b hb,(fr b hb).2⟩
 refine codeAny_loop hq (fun n s'=>∃ i τ' vs' H',Inv Y [] τ' H' s'/\tn i s'.heap/\(∀ b∈fp,H' b=none)/\W i n τ' vs' H') (fun n s3 hI=>?_) m ⟨i,τ,vs,H,I,st,fun b hb=>(fr b hb).1,w⟩
 obtain ⟨i,τ3,vs3,H3,I3,st3,fr3,w3⟩:=hI
 refine wpAny_mono (hden s3 _ ?_) (fun _ _ q=>q) (fun _ _ q=>q.elim)
 obtain ⟨hp,hs⟩:=step i n τ3 vs3 H3 w3
 rcases hs with ⟨stop,qe⟩ | ⟨go,hs⟩
 ·refine wpAny_bind (thn (T.done Y rfl rfl rfl hc i [] s3 τ3 H3 (fun _ _=>False) I3 (stat fr3) st3 stop) fun r s4 ⟨hr,I4⟩=>?_)
  subst hr
  exact wpAny_pure (hR τ3 H3 s4 I4 qe)
 ·refine wpAny_bind (thn (T.item Y rfl rfl rfl hc i [] s3 τ3 H3 (fun _ _=>False) I3 (stat fr3) st3 go) fun r s4 ⟨u,hr,h4⟩=>?_)
  subst hr
  refine wpAny_bind (thn h4 fun _ s5 ⟨x,H5,I5,r5,y5,st5,fr5⟩=>?_)
  have I5':=I5.pinned (stat fr5) (T.obj _ _ st5)
  have hg':=hg _ s5 τ3 H5 x u _ I5' r5 (hs x H5 y5)
  rw [hE] at hg'
  refine wpAny_bind (thn hg' fun _ s6 ⟨τ6,H6,I6,q6⟩=>?_)
  refine hrest τ6 H6 s6 _ vs3 (fun H' ws=>∃ m',m' < n/\W (i+1) m' τ6 ws H') _ I6 q6 fun s7 H7 ws I7 ⟨m',hm,w7⟩=>?_
  refine ⟨rfl,m',hm,i+1,τ6,ws,H7,I7.unpinned,T.keep _ _ _ st5 fun b hb o e=>(I7.pin (b,o) (List.mem_append_right _ (List.mem_append_right _ (pW hb e)))).1,fun b hb=>?_,w7⟩
  obtain ⟨o,e,d⟩:=T.obj _ _ st5 b hb
  exact (I7.pin (b,o) (List.mem_append_right _ (List.mem_append_right _ (pW hb e)))).2.1
end Pu
namespace Pu
open PySem PySem.Spec PyProof.Rows L2
section
variable{X:Cx}{scope:Scope}{is:List Nat}{elt tg iter c:Expr}{pos:Pos}{wi:TI}{g:TG}{te:TE}{tt:TT}
theorem tY{use:Option (Value->Sem Unit)}{Qf:Value->Shared->Prop}{ppos:Pos}{pins:List (Addr × Obj)}{s:Shared}{σ:LSt}{H:Hp}{Q:VK}{ifs:List Expr}{rest:Env->Value->Value->Sem Fin}(S:CScope X scope is)(hc:X.calm=true)(hi:L2.PI X tg iter wi)(hg:∀ C s₀ H₀ fp,PG (cG X scope C s₀ H₀ fp) tg g)
  (hquiet:∀ it acc env,(Code.compLoop (.ListComp elt [⟨tg,iter,ifs,0⟩] scope pos) 0 it acc env).quiet=true)
  (hden:∀ C s₀ H₀ fp it p (s:Shared) (Q:Fin->Shared->Prop),wpAny (model X.prog X.w) X.A (pyNext (.ref it) >>= fun r=>match r with
    | none=>pure (.done .next)
    | some v=>letOwnedTupleGo tg (.ref it) v >>= fun _=>assign tg (cG X scope C s₀ H₀ fp).env v >>= fun _=>rest (cG X scope C s₀ H₀ fp).env (.ref it) (.ref p)) Q (fun _ _=>False) s ->
   wpAny (model X.prog X.w) (X.A.under (.compLoop (.ListComp elt [⟨tg,iter,ifs,0⟩] scope pos) 0 (.ref it) (.ref p) (cG X scope C s₀ H₀ fp).env)) ((model X.prog X.w).den (.compLoop (.ListComp elt [⟨tg,iter,ifs,0⟩] scope pos) 0 (.ref it) (.ref p) (cG X scope C s₀ H₀ fp).env)) Q (fun _ _=>False) s)
  (hrest:∀ C s₀ H₀ fp it p (τ:LSt) (H:Hp) (s:Shared) (pins:List (Addr × Obj)) (vs:List V) (N:Hp->List V->Prop) (Q:Fin->Shared->Prop),Inv (cG X scope C s₀ H₀ fp) pins τ H s ->
   (tt τ H fun k H3=>if k=true then te τ H3 fun y H4=>H4 p=some (.lst vs)/\vs.length < sizeLine/\N (upd H4 p (.lst (vs++[y]))) (vs++[y]) else N H3 vs) ->
   (∀ s' H' ws,Inv (cG X scope C s₀ H₀ fp) pins τ H' s'->N H' ws->Q (.again (.compLoop (.ListComp elt [⟨tg,iter,ifs,0⟩] scope pos) 0 (.ref it) (.ref p) (cG X scope C s₀ H₀ fp).env)) s') ->
   wpAny (model X.prog X.w) X.A (rest (cG X scope C s₀ H₀ fp).env (.ref it) (.ref p)) Q (fun _ _=>False) s)
  (hs:∀ x,foldedSetIterable iter X.env x=pure x) (I:Inv X pins σ H s) (h:tLC is wi g tt te σ H Q)
  (hfin:∀ C p H5 s5 m5 s3 H3 fp τ,s3.heap.objs.size<=C->Inv X pins σ H3 s3->(∀ b∈fp,vQ X pins H3 b)->Inv (cG X scope C s3 H3 fp) [] τ H5 s5->s5.heap.Ns C m5->Q (.ref p) H5->compPost (model X.prog X.w) X.A X.xe use Qf (.ref p) C (.ok .next) s5) :
  wpAny (model X.prog X.w) X.A (comprehension (.ListComp elt [⟨tg,iter,ifs,0⟩] scope pos) scope X.env ppos (newList []) false (eval iter X.env) use) Qf X.xe s:=by
 refine wpAny_comprehension_free (use:=use) rfl hs (aCe (S.cells I.ok)) S.kind S.names ?_
 refine thn (hi pins s σ H _ I h) fun v s1 h1=>thn h1 fun itv s2 h2=>?_
 obtain ⟨it,fp,tn,J,H2,e,I2,T,st2,f2,hW⟩:=h2
 subst e
 refine wpAny_newObj_type (aKv fun h₁ hns₁ hkp hcl₁=>?_)
 have I3:Inv X pins σ (upd H2 s2.heap.objs.size (.lst [])) { s2 with heap:=s2.heap.push { cls := .type "list", data := .seq ([]:List Value).toArray } }:=I2.lnew (t':=s2.toks) .nil (Nat.zero_le _)
 obtain ⟨W,⟨m,w0⟩,step⟩:=hW s2.heap.objs.size I2.fresh
 have hob:∀ b∈fp,b < s2.heap.objs.size:=fun b hb=>let ⟨o,e,_⟩:=T.obj 0 _ st2 b hb;Heap.lt_size e
 have hfp:∀ b∈fp,vQ X pins (upd H2 s2.heap.objs.size (.lst [])) b:=fun b hb=>⟨by rw [bT (Nat.ne_of_lt (hob b hb))];exact (f2 b hb).1,(f2 b hb).2⟩
 have hk:∀ b o,(s2.heap.push { cls := .type "list", data := .seq ([]:List Value).toArray }).get? b=some o->h₁.get? b=some o:=hkp
 have Ic:=aHt (t':=s2.toks) S hc I3 hfp (fun b hb=>Nat.lt_of_lt_of_le (hob b hb) (by rw [Heap.size_push];exact Nat.le_succ _)) hns₁ hk hcl₁
 have st4:tn 0 h₁:=T.keep 0 _ _ st2 fun b _ o e=>hk b o (Heap.get?_push_of_some _ e)
 have fr4:∀ b∈fp,vQ (cG X scope _ _ _ fp) [] (upd H2 s2.heap.objs.size (.lst [])) b:=fun b hb=>⟨(hfp b hb).1,(Ic.ok.exf b hb).1,Ic.ok.exfs b hb,.inl hb,fun x c e=>(Ic.ok.exf b hb).2 x c e,fun p hp=>absurd (show p∈([]:List (Addr × Obj)) from hp) (by simp)⟩
 have loop:=aKw (Y:=cG X scope _ _ _ fp) (e := .ListComp elt [⟨tg,iter,ifs,0⟩] scope pos) (env:=X.env) (iterPos:=pos) T rfl rfl (hg _ _ _ fp) (hquiet _ _ _) (hden _ _ _ fp it s2.heap.objs.size) (hrest _ _ _ fp it s2.heap.objs.size) W step
  (R:=compPost (model X.prog X.w) X.A X.xe use Qf (.ref s2.heap.objs.size) (s2.heap.push { cls := .type "list", data := .seq ([]:List Value).toArray }).objs.size) (fun τ H5 s5 I5 q5=>by
   obtain ⟨m5,hn5,_⟩:=I5.loc
   exact hfin _ _ H5 s5 m5 _ _ fp τ (Nat.le_refl _) I3 hfp I5 hn5 q5) Ic st4 fr4 w0
 exact codeAny_compStart_list loop (T.self _ 0 _ _ _ st4 loop)
theorem qO{e:Expr}{it acc:Value}{env:Env}:(Code.compLoop e 0 it acc env).quiet=true:=rfl
theorem aYo {Y : Cx} {it p : Addr} {s : Shared} {Q : Fin -> Shared -> Prop} (h : wpAny (model X.prog X.w) X.A (pyNext (.ref it) >>= fun r => match r with
        | none=>pure (.done .next)
        | some v=>letOwnedTupleGo tg (.ref it) v >>= fun _=>assign tg Y.env v >>= fun _=>(eval elt Y.env >>= fun x=>call (.builtin "list.append") [.ref p,x] >>= fun _=>again (.compLoop (.ListComp elt [⟨tg,iter,[],0⟩] scope pos) 0 (.ref it) (.ref p) Y.env))) Q (fun _ _=>False) s) :
      wpAny (model X.prog X.w) (X.A.under (.compLoop (.ListComp elt [⟨tg,iter,[],0⟩] scope pos) 0 (.ref it) (.ref p) Y.env)) ((model X.prog X.w).den (.compLoop (.ListComp elt [⟨tg,iter,[],0⟩] scope pos) 0 (.ref it) (.ref p) Y.env)) Q (fun _ _=>False) s:=by
 show wpAny _ _ ((compTurn (.ListComp elt [⟨tg,iter,[],0⟩] scope pos) 0 (.ref it) (.ref p) Y.env).onRaise (fun x=>do noteFrame x Y.env;theTreesLotGoes x)) _ _ s
 refine wpAny_noted ?_
 rw [aA6]
 exact wpAny_bind (wpAny_standAt (wpAny_mono h (fun _ _ q=>q) fun _ _ q=>q.elim))
theorem aYp {Y : Cx} {it p : Addr} {s : Shared} {Q : Fin -> Shared -> Prop} (h : wpAny (model X.prog X.w) X.A (pyNext (.ref it) >>= fun r => match r with
        | none=>pure (.done .next)
        | some v=>letOwnedTupleGo tg (.ref it) v >>= fun _=>assign tg Y.env v >>= fun _=>(isTrue c Y.env (eval c Y.env) >>= fun ok=>if ok=true then (eval elt Y.env >>= fun x=>call (.builtin "list.append") [.ref p,x] >>= fun _=>again (.compLoop (.ListComp elt [⟨tg,iter,[c],0⟩] scope pos) 0 (.ref it) (.ref p) Y.env))
          else again (.compLoop (.ListComp elt [⟨tg,iter,[c],0⟩] scope pos) 0 (.ref it) (.ref p) Y.env))) Q (fun _ _=>False) s) :
      wpAny (model X.prog X.w) (X.A.under (.compLoop (.ListComp elt [⟨tg,iter,[c],0⟩] scope pos) 0 (.ref it) (.ref p) Y.env)) ((model X.prog X.w).den (.compLoop (.ListComp elt [⟨tg,iter,[c],0⟩] scope pos) 0 (.ref it) (.ref p) Y.env)) Q (fun _ _=>False) s:=by
 show wpAny _ _ ((compTurn (.ListComp elt [⟨tg,iter,[c],0⟩] scope pos) 0 (.ref it) (.ref p) Y.env).onRaise (fun x=>do noteFrame x Y.env;theTreesLotGoes x)) _ _ s
 refine wpAny_noted ?_
 rw [aBq]
 exact wpAny_bind (wpAny_standAt (wpAny_mono h (fun _ _ q=>q) fun _ _ q=>q.elim))
def aEg:TT:=fun _ H Q=>Q true H
theorem aT3{Y:Cx}(hY:Y.xe=fun _ _=>False)(he:PE Y elt te){it p:Addr}(τ:LSt)(H:Hp)(s:Shared)(pins:List (Addr × Obj))(vs:List V)(N:Hp->List V->Prop)(Q:Fin->Shared->Prop)(I:Inv Y pins τ H s)
  (h:aEg τ H fun k H3=>if k=true then te τ H3 fun y H4=>H4 p=some (.lst vs)/\vs.length < sizeLine/\N (upd H4 p (.lst (vs++[y]))) (vs++[y]) else N H3 vs)
  (mono:∀ (Q Q':VK),(∀ v H',Q v H'->Q' v H')->te τ H Q->te τ H Q')
  (q:∀ s' H' ws,Inv Y pins τ H' s'->N H' ws->Q (.again (.compLoop (.ListComp elt [⟨tg,iter,[],0⟩] scope pos) 0 (.ref it) (.ref p) Y.env)) s') :
  wpAny (model Y.prog Y.w) Y.A (eval elt Y.env >>= fun x=>call (.builtin "list.append") [.ref p,x] >>= fun _=>again (.compLoop (.ListComp elt [⟨tg,iter,[],0⟩] scope pos) 0 (.ref it) (.ref p) Y.env)) Q (fun _ _=>False) s:=by
 have h':te τ H fun y H4=>H4 p=some (.lst vs)/\vs.length < sizeLine/\N (upd H4 p (.lst (vs++[y]))) (vs++[y]):=h
 exact aD7 he (by rw [hY];exact fun _ _ z=>z) I (mono _ _ (fun y H4 ⟨a,b,n⟩=>⟨a,b,fun s' I'=>wpAny_pure (q s' _ _ I' n)⟩) h')
end
end Pu
namespace Pu
open PySem PySem.Spec PyProof.Rows L2
section
variable{K:PySem.W.Frag}{B A:List Addr}{H:Hp}{st st':PSt}{σ:LSt}
theorem aQt(is:List Nat):∀ st:PSt,(clr is st).length=st.length:=by
 induction is with
 | nil=>exact fun _=>rfl
 | cons i is ih=>intro st;show (clr is (st.set i none)).length=_;rw [ih,List.length_set]
theorem aAg(is:List Nat):∀ (st:PSt) (j:Nat) (x:Sl),(clr is st)[j]?=some (some x)->st[j]?=some (some x)/\j ∉ is:=by
 induction is with
 | nil=>exact fun σ j v h=>⟨h,by simp⟩
 | cons i is ih =>
  intro σ j v h
  obtain ⟨h1,h2⟩:=ih (σ.set i none) j v h
  rw [List.getElem?_set] at h1
  by_cases e:i=j
  ·subst e
   rw [if_pos rfl] at h1
   split at h1<;>cases h1
  ·rw [if_neg e] at h1
   exact ⟨h1,fun z=>(List.mem_cons.mp z).elim (fun z=>e z.symm) h2⟩
theorem aBr(is:List Nat):∀ (σ:LSt) (j:Nat),j ∉ is->(aFt is σ)[j]?=σ[j]?:=by
 induction is with
 | nil=>exact fun σ j _=>rfl
 | cons i is ih =>
  intro σ j h
  show (aFt is (σ.set i none))[j]?=_
  rw [ih _ j fun z=>h (List.mem_cons_of_mem _ z),List.getElem?_set,if_neg (show ¬ i=j from fun z=>h (z ▸ List.mem_cons_self))]
theorem RS.clr(is:List Nat)(r:RS K B A H st σ):RS K B A H (Pu.clr is st) (aFt is σ) where
 len:=by rw [aQt,aFu,r.len]
 own:=r.own
 dis:=r.dis
 val:=fun i d e=>by
  obtain ⟨e1,h⟩:=aAg is st i _ e
  rw [aBr is σ i h]
  exact r.val i d e1
 lst:=fun i kk xs e=>by
  obtain ⟨e1,h⟩:=aAg is st i _ e
  obtain ⟨a,o,vs,e2,m,h1,ko,q,u⟩:=r.lst i kk xs e1
  refine ⟨a,o,vs,by rw [aBr is σ i h];exact e2,m,h1,ko,q,fun j k' ys ej ej2=>?_⟩
  obtain ⟨e3,h3⟩:=aAg is st j _ ej
  rw [aBr is σ j h3] at ej2
  exact u j k' ys e3 ej2
theorem RS.weaken(r:RS K B A H st σ)(hl:st'.length=st.length)(h:∀ (j:Nat) (x:Sl),st'[j]?=some (some x)->st[j]?=some (some x)):RS K B A H st' σ where
 len:=hl.trans r.len
 own:=r.own
 dis:=r.dis
 val:=fun i d e=>r.val i d (h i _ e)
 lst:=fun i kk xs e=>by
  obtain ⟨a,o,vs,e2,m,h1,ko,q,u⟩:=r.lst i kk xs (h i _ e)
  exact ⟨a,o,vs,e2,m,h1,ko,q,fun j k' ys ej ej2=>u j k' ys (h j _ ej) ej2⟩
theorem mem_mid{A B:List Addr}{p b:Addr}:b∈A++p :: B ↔ b=p\/b∈A++B:=by
 simp only [List.mem_append,List.mem_cons]
 constructor
 ·rintro (h | h | h)
  ·exact .inr (.inl h)
  ·exact .inl h
  ·exact .inr (.inr h)
 ·rintro (h | h | h)
  ·exact .inr (.inl h)
  ·exact .inl h
  ·exact .inr (.inr h)
theorem aFv{p:Addr}{o:HO}(hp:H p=none):aZ (hide (A++B) H) (hide (A++p :: B) (upd H p o)):=fun b u q=>by
 have q1:=bM _ _ _ _ q
 have hb:b ∉ A++B:=fun z=>by rw [gC z] at q;cases q
 have ne:b≠p:=bK q1 hp
 rw [cF (show b ∉ A++p :: B from fun z=>(mem_mid.mp z).elim ne hb),bT ne]
 exact q1
theorem RS.grow(r:RS K B A H st σ){p:Addr}{vs:List V}(hp:H p=none):RS K (p :: B) A (upd H p (.lst vs)) st σ where
 len:=r.len
 own:=fun a ha=>by
  by_cases e:a=p
  ·subst e;rw [cL];rfl
  ·rw [bT e];exact r.own a ((mem_mid.mp ha).resolve_left e)
 dis:=fun a ha hb=>by
  rcases List.mem_cons.mp hb with rfl | hb
  ·exact r.own.free hp (List.mem_append_left _ ha)
  ·exact r.dis a ha hb
 val:=fun j d' e=>let ⟨u,e1,q⟩:=r.val j d' e;⟨u,e1,q.mono (aFv hp)⟩
 lst:=fun j kk xs e=>by
  obtain ⟨a,o,vs',e1,m,h1,ko,q,u⟩:=r.lst j kk xs e
  exact ⟨a,o,vs',e1,m,by rw [bT (bK h1 hp)];exact h1,ko,q.mono (aFv hp),u⟩
theorem RS.put{p:Addr}(r:RS K (p :: B) A H st σ){vs:List V}:RS K (p :: B) A (upd H p (.lst vs)) st σ:=by
 have hh:hide (A++p :: B) (upd H p (.lst vs))=hide (A++p :: B) H:=wV (mem_mid.mpr (.inl rfl))
 refine ⟨r.len,fun b hb=>?_,r.dis,fun j d e=>by rw [hh];exact r.val j d e,fun j kk xs e=>?_⟩
 ·by_cases e:b=p
  ·subst e;rw [cL];rfl
  ·rw [bT e];exact r.own b hb
 ·obtain ⟨a,o,vs',e1,m,h1,ko,q,u⟩:=r.lst j kk xs e
  refine ⟨a,o,vs',e1,m,?_,ko,by rw [hh];exact q,u⟩
  have:a≠p:=fun z=>r.dis a m (z ▸ List.mem_cons_self)
  rw [bT this];exact h1
end
def aD8(is:List Nat)(t:Tg):Prop:=∀ d st s2,t d st = .ok s2->s2.length=st.length/\∀ (j:Nat),j ∉ is->s2[j]?=st[j]?
theorem nF{i:Nat}:aD8 [i] (tgN i):=fun d st s2 h=>by
 cases h
 refine ⟨List.length_set,fun j hj=>?_⟩
 rw [List.getElem?_set,if_neg fun z=>hj (by simp [z])]
def ndB:List Str->Bool
 | []=>true
 | x :: r => !r.contains x&&ndB r
theorem aT4:∀ {l:List Str},ndB l=true->l.Nodup
 | [],_ => .nil
 | x :: r,h=>by
  unfold ndB at h
  simp only [Bool.and_eq_true,Bool.not_eq_true'] at h
  exact List.nodup_cons.mpr ⟨fun z=>by rw [List.contains_iff_mem.mpr z] at h;exact Bool.noConfusion h.1,aT4 h.2⟩
def aYq(scope:Scope)(outer:List (Str × NameKind))(N:List Str)(is:List Nat):Bool :=
 scope.kind == .function&&ndB (scope.names.map (·.1))&&scope.names.all (fun x=>x.2 != .free||outer.lookup x.1==some .cell||outer.lookup x.1==some .free) &&
  (List.range N.length).all fun i=>(scope.names.lookup (N.getD i "") != some .local&&scope.names.lookup (N.getD i "") != some .cell)||is.contains i
theorem CScope.of{X:Cx}{scope:Scope}{is:List Nat}(h:aYq scope X.env.scope.names X.N is=true):CScope X scope is:=by
 unfold aYq at h
 simp only [Bool.and_eq_true,List.all_eq_true] at h
 obtain ⟨⟨⟨h1,h0⟩,h2⟩,h3⟩:=h
 refine ⟨by simpa using h1,aT4 h0,fun x hx hf=>?_,fun i x e hl=>?_⟩
 ·have:=h2 x hx
  simp only [Bool.or_eq_true,bne_iff_ne,ne_eq,beq_iff_eq] at this
  rcases this with (z | z) | z
  ·exact absurd hf z
  ·exact .inl z
  ·exact .inr z
 ·have hi:i < X.N.length:=(List.getElem?_eq_some_iff.mp e).1
  have:=h3 i (List.mem_range.mpr hi)
  rw [List.getD_eq_getElem?_getD,e] at this
  simp only [Option.getD_some,Bool.or_eq_true,Bool.and_eq_true,bne_iff_ne,ne_eq] at this
  rcases this with ⟨z1,z2⟩ | z
  ·rcases hl with hl | hl
   ·exact absurd hl z1
   ·exact absurd hl z2
  ·simpa using z
theorem aQu{K:PySem.W.Frag}{B:List Addr}{f:Ex}{τ:LSt}{H:Hp}(Q Q':VK)(m:∀ v H',Q v H'->Q' v H')(h:tI K B f τ H Q):tI K B f τ H Q' :=
 let ⟨A,st,d,rs,hd,q⟩:=h;⟨A,st,d,rs,hd,fun v H' s r=>m v H' (q v H' s r)⟩
def tIx(K:PySem.W.Frag)(f:Ex):TE:=fun τ H Q=>∃ B,tI K B f τ H Q
def tTx(K:PySem.W.Frag)(f:Ex):TT:=fun τ H Q=>∃ B,tT K B f τ H Q
def tGx(K:PySem.W.Frag)(t:Tg):TG:=fun v τ H Q=>∃ B,tG K B t v τ H Q
theorem aQv{X:Cx}{e:Expr}{f:Ex}(h:∀ B,PE X e (tI X.K B f)):PE X e (tIx X.K f):=fun pins s σ H Q I ⟨B,q⟩=>h B pins s σ H Q I q
theorem aYr{X:Cx}{e:Expr}{f:Ex}(h:∀ B,PT X e (tT X.K B f)):PT X e (tTx X.K f):=fun pins s σ H Q I ⟨B,q⟩=>h B pins s σ H Q I q
theorem aQw{X:Cx}{e:Expr}{t:Tg}(h:∀ B,PG X e (tG X.K B t)):PG X e (tGx X.K t):=fun pins s σ H v u Q I r ⟨B,q⟩=>h B pins s σ H v u Q I r q
theorem wY{K:PySem.W.Frag}{f:Ex}{τ:LSt}{H:Hp}(Q Q':VK)(m:∀ v H',Q v H'->Q' v H')(h:tIx K f τ H Q):tIx K f τ H Q':=let ⟨B,q⟩:=h;⟨B,aQu Q Q' m q⟩
theorem aJd{K:PySem.W.Frag}{B:List Addr}{is:List Nat}{t:Tg}{it:ItE}{c f:Ex}{tt:TT}{σ:LSt}{H:Hp}(hsub:aD8 is t)
  (htt:∀ τ H Q,tTx K c τ H Q->tt τ H Q) {A:List Addr} {st:PSt} {xs ys:List D} (rs:RS K B A H st σ) (hx:it st = .ok xs) (hl:xs.length<=big) (hy:mV t c f (clr is st) xs = .ok ys) {Q:VK}
  (q:∀ p vs H1 H',aZ H H1->H1 p=none->aZ H1 H'->H' p=some (.lst vs)->bH K (hide (A++p :: B) H') ys vs->Q (.ref p) H'):tLC is (tIt K B it) (tGx K t) tt (tIx K f) σ H Q:=by
 refine ⟨A,st,xs,rs,hx,fun J H1 s1 ito p hp=>?_⟩
 have rs1:=rs.mono s1
 refine ⟨fun i m τ vs H'=>m=xs.length - i/\i<=xs.length/\vs.length<=i/\H' p=some (.lst vs)/\aZ H1 H'/\RS K (p :: B) A H' (clr is st) τ /\
   ∃ ds rest,bH K (hide (A++p :: B) H') ds vs/\mV t c f (clr is st) (xs.drop i) = .ok rest/\ds++rest=ys,⟨xs.length,by simp,Nat.zero_le _,Nat.zero_le _,cL,dJ hp,(rs1.clr is).grow hp,[],ys,.nil,by rw [List.drop_zero];exact hy,rfl⟩,?_⟩
 rintro i m τ vs H' ⟨rfl,hi,hvl,hpv,s2,rs2,ds,rest,rds,hr,hcat⟩
 refine ⟨hpv,?_⟩
 have mv:∀ a,a∈(p :: A)++B ↔ a∈A++p :: B:=fun a=>by
  rw [mem_mid]
  exact List.mem_cons
 have le:Le A H1 (p :: A) H':=fun b u z=>by
  have z1:=bM _ _ _ _ z
  have hb:b ∉ A:=fun w=>by rw [gC w] at z;cases z
  have ne:b≠p:=bK z1 hp
  rw [cF (show b ∉ p :: A from fun w=>(List.mem_cons.mp w).elim ne hb)]
  exact s2 b u z1
 obtain ⟨i1,i2⟩:=ito (p :: A) H' le (fun a ha=>rs2.own a ((mv a).mp ha)) i
 by_cases hlt:i < xs.length
 ·have hd':xs[i]?=some xs[i]:=List.getElem?_eq_getElem hlt
  obtain ⟨go,yl⟩:=i1 _ hd'
  rw [List.drop_eq_getElem_cons hlt] at hr
  obtain ⟨st2,hst2,h5⟩:=R.ok_of hr
  obtain ⟨cb,hcb,h6⟩:=R.ok_of h5
  obtain ⟨k,rfl,h7⟩:=pX h6
  refine .inr ⟨go,fun x H2 y=>?_⟩
  obtain ⟨sm3,rx⟩:=yl x H2 y
  have hpv:=sm3 _ _ hpv
  have s2:=s2.trans sm3
  have rs2:=rs2.mono sm3
  have rds:=rds.mono (aZ.hide sm3)
  have rx':Rep K (hide (A++p :: B) H2) xs[i] x:=rx.mono (gU fun a ha=>(mv a).mpr ha)
  obtain ⟨sl,sg⟩:=hsub _ _ _ hst2
  have back:∀ (j:Nat) (z:Sl),(clr is st)[j]?=some (some z)->st2[j]?=some (some z):=fun j z ez=>by rw [sg j (aAg is st j z ez).2];exact ez
  refine ⟨p :: B,A,clr is st,xs[i],st2,rs2,rx',hst2,fun τ2 rs3=>htt _ _ _ ⟨p :: B,A,st2,k,rs3,hcb,fun H3 s3=>?_⟩⟩
  cases k with
  | true =>
   obtain ⟨y',hy',h8⟩:=R.ok_of h7
   obtain ⟨rest',hrest',h9⟩:=R.ok_of h8
   cases h9
   refine ⟨p :: B,A,st2,y',rs3.mono s3,hy',fun v H4 s4 r4=>⟨s4 _ _ (s3 _ _ hpv),?_,xs.length - (i+1),by omega,rfl,hlt,by rw [List.length_append,List.length_singleton];omega,cL,?_,?_,ds++[y'],rest',?_,hrest',by rw [List.append_assoc];exact hcat⟩⟩
   ·have:sizeLine=16777216:=by decide
    have hbg:=mU
    omega
   ·exact fun b u z=>by rw [bT (bK z hp)];exact s4 _ _ (s3 _ _ (s2 b u z))
   ·exact (((rs3.mono s3).mono s4).weaken (by rw [sl]) back).put
   ·rw [wV (mem_mid.mpr (.inl rfl))]
    exact (rds.mono (aZ.hide (s3.trans s4))).append (.cons r4 .nil)
  | false=>exact ⟨xs.length - (i+1),by omega,rfl,hlt,by omega,s3 _ _ hpv,s2.trans s3,(rs3.mono s3).weaken (by rw [sl]) back,ds,rest,rds.mono (aZ.hide s3),h7,hcat⟩
 ·have e:i=xs.length:=by omega
  subst e
  rw [List.drop_length] at hr
  cases hr
  rw [List.append_nil] at hcat
  subst hcat
  exact .inl ⟨i2 (Nat.le_refl _),q p vs H1 H' s1 hp s2 hpv rds⟩
section
variable{X:Cx}{B:List Addr}{scope:Scope}{elt tg iter c:Expr}{pos:Pos}{t:Tg}{it:ItE}{f u:Ex}
theorem aT5{Y:Cx}{te:TE}{tt:TT}(hY:Y.xe=fun _ _=>False)(he:PE Y elt te)(ht:PT Y c tt){it p:Addr}(τ:LSt)(H:Hp)(s:Shared)(pins:List (Addr × Obj))(vs:List V)(N:Hp->List V->Prop)(Q:Fin->Shared->Prop)(I:Inv Y pins τ H s)
  (h:tt τ H fun k H3=>if k=true then te τ H3 fun y H4=>H4 p=some (.lst vs)/\vs.length < sizeLine/\N (upd H4 p (.lst (vs++[y]))) (vs++[y]) else N H3 vs)
  (mono:∀ H (Q Q':VK),(∀ v H',Q v H'->Q' v H')->te τ H Q->te τ H Q')
  (q:∀ s' H' ws,Inv Y pins τ H' s'->N H' ws->Q (.again (.compLoop (.ListComp elt [⟨tg,iter,[c],0⟩] scope pos) 0 (.ref it) (.ref p) Y.env)) s') :
  wpAny (model Y.prog Y.w) Y.A (isTrue c Y.env (eval c Y.env) >>= fun ok => if ok = true then (eval elt Y.env >>= fun x => call (.builtin "list.append") [.ref p, x] >>= fun _ => again (.compLoop (.ListComp elt [⟨tg, iter, [c], 0⟩] scope pos) 0 (.ref it) (.ref p) Y.env))
        else again (.compLoop (.ListComp elt [⟨tg,iter,[c],0⟩] scope pos) 0 (.ref it) (.ref p) Y.env)) Q (fun _ _=>False) s:=by
 have ht':=ht pins s τ H _ I h
 rw [hY] at ht'
 refine wpAny_bind (thn ht' fun k s1 ⟨H1,I1,q1⟩=>?_)
 cases k with
 | true =>
  rw [if_pos rfl]
  have q1:te τ H1 fun y H4=>H4 p=some (.lst vs)/\vs.length < sizeLine/\N (upd H4 p (.lst (vs++[y]))) (vs++[y]):=q1
  exact aD7 he (by rw [hY];exact fun _ _ z=>z) I1 (mono _ _ _ (fun y H4 ⟨a,b,n⟩=>⟨a,b,fun s' I'=>wpAny_pure (q s' _ _ I' n)⟩) q1)
 | false =>
  rw [if_neg Bool.false_ne_true]
  exact wpAny_pure (q s1 H1 vs I1 q1)
theorem aHu{σ:LSt}{H:Hp}{Q:VK}{st:PSt}{A:List Addr}{ys:List D}{p:Addr}{vs:List V}{H1 H':Hp}(rs:RS X.K B A H st σ)(q:∀ v H',aZ H H'->Rep X.K (hide (A++B) H') (.lst ys) v->Q v H')(s1:aZ H H1)(hp:H1 p=none)(s2:aZ H1 H')
  (hv:H' p=some (.lst vs)) (r:bH X.K (hide (A++p :: B) H') ys vs):Q (.ref p) H' :=
 q _ H' (s1.trans s2) (bQ.mpr ⟨p,vs,rfl,SqL.of (by rw [cF ((rs.own.mono s1).free hp)];exact hv),r.mono (gU fun a ha=>mem_mid.mpr (.inr ha))⟩)
theorem yS(is:List Nat)(hsub:aD8 is t)(S:CScope X scope is)(hi:L2.PI X tg iter (tIt X.K B it))(hg:∀ (B:List Addr) (C:Addr) (s₀:Shared) (H₀:Hp) (fp:List Addr),PG (cG X scope C s₀ H₀ fp) tg (tG X.K B t))
  (he:∀ (B:List Addr) (C:Addr) (s₀:Shared) (H₀:Hp) (fp:List Addr),PE (cG X scope C s₀ H₀ fp) elt (tI X.K B f)) (hc:X.calm=true) (hs:∀ x,foldedSetIterable iter X.env x=pure x:=by intro _;rfl) :
  PE X (.ListComp elt [⟨tg,iter,[],0⟩] scope pos) (tI X.K B (fK is t it jL f)):=by
 intro pins s σ H Q I h
 obtain ⟨A,st,d,rs,hd,q⟩:=h
 obtain ⟨xs,hx,h2⟩:=R.ok_of hd
 obtain ⟨hl,h3⟩:=aJ h2
 obtain ⟨ys,hy,h4⟩:=R.ok_of h3
 cases h4
 rw [eval_ListComp]
 refine tY (use:=none) (Qf:=EP X pins σ Q) (Q:=Q) (tt:=aEg) (te:=tIx X.K f) (rest:=fun env it p=>eval elt env >>= fun x=>call (.builtin "list.append") [p,x] >>= fun _=>again (.compLoop (.ListComp elt [⟨tg,iter,[],0⟩] scope pos) 0 it p env)) S hc hi (fun C s₀ H₀ fp=>aQw fun B=>hg B C s₀ H₀ fp) (fun _ _ _=>qO)
  (fun C s₀ H₀ fp it p s Q h=>aYo (Y:=cG X scope C s₀ H₀ fp) h) (fun C s₀ H₀ fp it p τ H s pins vs N Q I h q=>aT3 (Y:=cG X scope C s₀ H₀ fp) rfl (aQv fun B=>he B C s₀ H₀ fp) τ H s pins vs N Q I h (fun Q Q' m h=>wY Q Q' m h) q) hs I
  (aJd hsub (fun τ H Q ⟨B,A,st,k,rs,hk,q⟩=>?_) rs hx hl hy fun p vs H1 H' s1 hp s2 hv r=>aHu rs q s1 hp s2 hv r) fun C p H5 s5 m5 s3 H3 fp τ hC I3 hfp I5 hn5 q5=>⟨m5,hn5,fun h' hs'=>⟨.ref p,H5,aEf I3 hfp hC I5 hs',rfl,q5⟩⟩
 cases hk
 exact q H (aZ.refl _)
theorem wZ(is:List Nat)(hsub:aD8 is t)(S:CScope X scope is)(hi:L2.PI X tg iter (tIt X.K B it))(hg:∀ (B:List Addr) (C:Addr) (s₀:Shared) (H₀:Hp) (fp:List Addr),PG (cG X scope C s₀ H₀ fp) tg (tG X.K B t))
  (ht:∀ (B:List Addr) (C:Addr) (s₀:Shared) (H₀:Hp) (fp:List Addr),PT (cG X scope C s₀ H₀ fp) c (tT X.K B u))
  (he:∀ (B:List Addr) (C:Addr) (s₀:Shared) (H₀:Hp) (fp:List Addr),PE (cG X scope C s₀ H₀ fp) elt (tI X.K B f)) (hc:X.calm=true) (hs:∀ x,foldedSetIterable iter X.env x=pure x:=by intro _;rfl) :
  PE X (.ListComp elt [⟨tg,iter,[c],0⟩] scope pos) (tI X.K B (fK is t it u f)):=by
 intro pins s σ H Q I h
 obtain ⟨A,st,d,rs,hd,q⟩:=h
 obtain ⟨xs,hx,h2⟩:=R.ok_of hd
 obtain ⟨hl,h3⟩:=aJ h2
 obtain ⟨ys,hy,h4⟩:=R.ok_of h3
 cases h4
 rw [eval_ListComp]
 exact tY (use:=none) (Qf:=EP X pins σ Q) (Q:=Q) (tt:=tTx X.K u) (te:=tIx X.K f) (rest:=fun env it p=>isTrue c env (eval c env) >>= fun ok=>if ok=true then (eval elt env >>= fun x=>call (.builtin "list.append") [p,x] >>= fun _=>again (.compLoop (.ListComp elt [⟨tg,iter,[c],0⟩] scope pos) 0 it p env)) else again (.compLoop (.ListComp elt [⟨tg,iter,[c],0⟩] scope pos) 0 it p env)) S hc hi (fun C s₀ H₀ fp=>aQw fun B=>hg B C s₀ H₀ fp) (fun _ _ _=>qO)
  (fun C s₀ H₀ fp it p s Q h=>aYp (Y:=cG X scope C s₀ H₀ fp) h) (fun C s₀ H₀ fp it p τ H s pins vs N Q I h q=>aT5 (Y:=cG X scope C s₀ H₀ fp) rfl (aQv fun B=>he B C s₀ H₀ fp) (aYr fun B=>ht B C s₀ H₀ fp) τ H s pins vs N Q I h (fun _ Q Q' m h=>wY Q Q' m h) q) hs I
  (aJd hsub (fun τ H Q h=>h) rs hx hl hy fun p vs H1 H' s1 hp s2 hv r=>aHu rs q s1 hp s2 hv r) fun C p H5 s5 m5 s3 H3 fp τ hC I3 hfp I5 hn5 q5=>⟨m5,hn5,fun h' hs'=>⟨.ref p,H5,aEf I3 hfp hC I5 hs',rfl,q5⟩⟩
end
end Pu
namespace Pu
open PySem PySem.Spec PyProof.Rows L2 PySem.SeqAt
section
variable{X:Cx}{pins:List (Addr × Obj)}{σ:LSt}{H:Hp}{s:Shared}
theorem aJe(I:Inv X pins σ H s){a:Addr}{xs ys:List V}(h1:SqL X.K H a xs)(h2:SqT X.K H a ys):False:=by
 obtain ⟨its,_,⟨o,n,e,hc,_⟩,_⟩:=I.list h1
 obtain ⟨its2,_,⟨o2,e2,hc2,_⟩,_⟩:=I.tuple h2
 rw [e] at e2;cases e2
 rw [hc] at hc2;simp at hc2
mutual
theorem Rep.inj(I:Inv X pins σ H s):∀ {x y:D} {v:V},plain x=true->plain y=true->Rep X.K H x v->Rep X.K H y v->x=y
 | .non,y,v,px,py,h,h'=>by
  have e:=bW.mp h;subst e
  cases y<;>first | (simp at py;done) | skip
  all_goals simp only [bW,bD,aQ,bJ,pM,bQ] at h'
  all_goals first | rfl | (obtain ⟨_,_,h',_⟩:=h';cases h';done) | (cases h';done)
 | .bl b,y,v,px,py,h,h'=>by
  have e:=bD.mp h;subst e
  cases y<;>first | (simp at py;done) | skip
  all_goals simp only [bW,bD,aQ,bJ,pM,bQ] at h'
  all_goals first | (obtain ⟨_,_,h',_⟩:=h';cases h';done) | (cases h';first | rfl | done)
 | .int i,y,v,px,py,h,h'=>by
  have e:=aQ.mp h;subst e
  cases y<;>first | (simp at py;done) | skip
  all_goals simp only [bW,bD,aQ,bJ,pM,bQ] at h'
  all_goals first | (obtain ⟨_,_,h',_⟩:=h';cases h';done) | (cases h';first | rfl | done)
 | .str x,y,v,px,py,h,h'=>by
  have e:=bJ.mp h;subst e
  cases y with
  | dct _ _ _=>simp at py
  | ins _ _ _=>simp at py
  | exn _ _ _=>simp at py
  | str z =>
   have e2:=bJ.mp h'
   injection e2 with e2
   injection e2 with e2
   have:x=z:=by simpa using congrArg Array.toList e2
   rw [this]
  | non=>exact nomatch bW.mp h'
  | bl _=>exact nomatch bD.mp h'
  | int _=>exact nomatch aQ.mp h'
  | tup _=>obtain ⟨_,_,h',_⟩:=bB h';cases h'
  | lst _=>obtain ⟨_,_,h',_⟩:=bQ.mp h';cases h'
 | .tup ds,y,v,px,py,h,h'=>by
  obtain ⟨a,vs,e,hq,hr⟩:=bB h
  subst e
  cases y with
  | dct _ _ _=>simp at py
  | ins _ _ _=>simp at py
  | exn _ _ _=>simp at py
  | tup es =>
   obtain ⟨a',vs',e',hq',hr'⟩:=bB h'
   cases e'
   have:=I.tuple_inj hq hq'
   subst this
   rw [bH.inj I (by simpa using px) (by simpa using py) hr hr']
  | lst es =>
   obtain ⟨a',vs',e',hq',hr'⟩:=bQ.mp h'
   cases e'
   exact (aJe I hq' hq).elim
  | non=>exact nomatch bW.mp h'
  | bl _=>exact nomatch bD.mp h'
  | int _=>exact nomatch aQ.mp h'
  | str _=>exact nomatch bJ.mp h'
 | .lst ds,y,v,px,py,h,h'=>by
  obtain ⟨a,vs,e,hq,hr⟩:=bQ.mp h
  subst e
  cases y with
  | dct _ _ _=>simp at py
  | ins _ _ _=>simp at py
  | exn _ _ _=>simp at py
  | lst es =>
   obtain ⟨a',vs',e',hq',hr'⟩:=bQ.mp h'
   cases e'
   have:=I.list_inj hq hq'
   subst this
   rw [bH.inj I (by simpa using px) (by simpa using py) hr hr']
  | tup es =>
   obtain ⟨a',vs',e',hq',hr'⟩:=bB h'
   cases e'
   exact (aJe I hq hq').elim
  | non=>exact nomatch bW.mp h'
  | bl _=>exact nomatch bD.mp h'
  | int _=>exact nomatch aQ.mp h'
  | str _=>exact nomatch bJ.mp h'
 | .dct _ _ _,y,v,px,py,h,h'=>by simp at px
 | .ins _ _ _,y,v,px,py,h,h'=>by simp at px
 | .exn _ _ _,y,v,px,py,h,h'=>by simp at px
theorem bH.inj(I:Inv X pins σ H s):∀ {xs ys:List D} {vs:List V},cV xs=true->cV ys=true->bH X.K H xs vs->bH X.K H ys vs->xs=ys
 | [],ys,vs,px,py,h,h'=>by
  have e:=cP.mp h;subst e
  cases ys with
  | nil=>rfl
  | cons y ys=>obtain ⟨_,_,h',_⟩:=bV.mp h';cases h'
 | x :: xs,ys,vs,px,py,h,h'=>by
  obtain ⟨v,r,e,h1,h2⟩:=bV.mp h
  subst e
  cases ys with
  | nil=>exact nomatch cP.mp h'
  | cons y ys =>
   obtain ⟨v',r',e',h1',h2'⟩:=bV.mp h'
   cases e'
   simp only [lL,Bool.and_eq_true] at px py
   rw [Rep.inj I px.1 py.1 h1 h1',bH.inj I px.2 py.2 h2 h2']
end
mutual
theorem aBs:∀ x:D,plain x=true->eqD x x=true
 | .non,_=>by unfold eqD;rfl
 | .bl b,_=>by unfold eqD;simp
 | .int i,_=>by unfold eqD;simp
 | .str x,_=>by unfold eqD;simp
 | .tup x,h=>by unfold eqD;exact yU x (by simpa using h)
 | .lst x,h=>by unfold eqD;exact yU x (by simpa using h)
 | .dct _ _ _,h=>by simp at h
 | .ins _ _ _,h=>by simp at h
 | .exn _ _ _,h=>by simp at h
theorem yU:∀ x:List D,cV x=true->dU x x=true
 | [],_=>by unfold dU;rfl
 | a :: x,h=>by
  simp only [lL,Bool.and_eq_true] at h
  unfold dU;rw [aBs a h.1,yU x h.2];rfl
end
def pairE(xs ys:List D)(j:Nat):Bool:=eqD (xs.getD j .non) (ys.getD j .non)
theorem lQ:∀ xs ys:List D,((List.range (min xs.length ys.length)).all (pairE xs ys)&&xs.length==ys.length)=dU xs ys
 | [],[]=>by unfold dU;rfl
 | [],_ :: _=>by unfold dU;simp
 | _ :: _,[]=>by unfold dU;simp
 | x :: xs,y :: ys=>by
  have ih:=lQ xs ys
  have e:dU (x :: xs) (y :: ys)=(eqD x y&&dU xs ys):=by conv=>lhs;unfold dU
  rw [e,<-ih]
  have hm:min (x :: xs).length (y :: ys).length=min xs.length ys.length+1:=by simp only [List.length_cons];omega
  rw [hm,List.range_succ_eq_map,List.all_cons,List.all_map]
  have e1:pairE (x :: xs) (y :: ys) 0=eqD x y:=rfl
  have e2:(pairE (x :: xs) (y :: ys) ∘ Nat.succ)=pairE xs ys:=rfl
  rw [e1,e2,Bool.and_assoc]
  congr 1
  simp
theorem vN{xs ys:List D}(h:xs.length≠ys.length):dU xs ys=false:=by
 rw [<-lQ];simp [h]
mutual
theorem aFw(I:Inv X pins σ H s):∀ (x y:D) (A:Around) (v u:V) (a b:Value),Rep X.K H x v->Rep X.K H y u->RelV v a->RelV u b->A.units+dep x < cLine->plain x=true->plain y=true->EqAt A s a b (eqD x y)
 | .non,y,A,v,u,a,b,ra,rb,va,vb,hu,px,py=>by
  have zv:=bW.mp ra;subst zv;have za:a=Value.none:=va;subst za
  cases y with
  | dct _ _ _=>simp at py
  | ins _ _ _=>simp at py
  | exn _ _ _=>simp at py
  | non =>
   have zu:=bW.mp rb;subst zu;have zb:b=Value.none:=vb;subst zb
   have e:eqD (.non) (.non)=eqD _ _:=rfl
   unfold eqD
   exact EqAt.same _
  | bl y =>
   have zu:=bD.mp rb;subst zu;have zb:b=Value.bool y:=vb;subst zb
   have e:eqD (.non) (.bl y)=eqD _ _:=rfl
   unfold eqD
   exact EqAt.none_bool y
  | int y =>
   have zu:=aQ.mp rb;subst zu;obtain ⟨tb,zb⟩:∃ t,b=Value.int y t:=vb;subst zb
   have e:eqD (.non) (.int y)=eqD _ _:=rfl
   unfold eqD
   exact EqAt.none_int y tb
  | str y =>
   have zu:=bJ.mp rb;subst zu;obtain ⟨tb,zb⟩:∃ t,b=Value.str ⟨y.toArray⟩ t:=vb;subst zb
   have e:eqD (.non) (.str y)=eqD _ _:=rfl
   unfold eqD
   exact EqAt.none_str _ tb
  | tup y =>
   obtain ⟨lb,wsb,zu,hqb,hrb⟩:=bB rb;subst zu;have zb:b=Value.ref lb:=vb;subst zb;obtain ⟨itsb,rvb,plb,_⟩:=I.tuple hqb;have ilb:s.heap.IsTuple lb itsb.toArray:=plb
   have e:eqD (.non) (.tup y)=eqD _ _:=rfl
   unfold eqD
   exact EqAt.none_tuple ilb (Nat.lt_of_le_of_lt (Nat.le_add_right _ _) hu)
  | lst y =>
   obtain ⟨lb,wsb,zu,hqb,hrb⟩:=bQ.mp rb;subst zu;have zb:b=Value.ref lb:=vb;subst zb;obtain ⟨itsb,rvb,plb,_⟩:=I.list hqb;have ilb:=plb.isList
   have e:eqD (.non) (.lst y)=eqD _ _:=rfl
   unfold eqD
   exact EqAt.none_list ilb (Nat.lt_of_le_of_lt (Nat.le_add_right _ _) hu)
 | .bl x,y,A,v,u,a,b,ra,rb,va,vb,hu,px,py=>by
  have zv:=bD.mp ra;subst zv;have za:a=Value.bool x:=va;subst za
  cases y with
  | dct _ _ _=>simp at py
  | ins _ _ _=>simp at py
  | exn _ _ _=>simp at py
  | non =>
   have zu:=bW.mp rb;subst zu;have zb:b=Value.none:=vb;subst zb
   have e:eqD (.bl x) (.non)=eqD _ _:=rfl
   unfold eqD
   exact EqAt.bool_none x
  | bl y =>
   have zu:=bD.mp rb;subst zu;have zb:b=Value.bool y:=vb;subst zb
   have e:eqD (.bl x) (.bl y)=eqD _ _:=rfl
   unfold eqD
   exact EqAt.bool_bool x y
  | int y =>
   have zu:=aQ.mp rb;subst zu;obtain ⟨tb,zb⟩:∃ t,b=Value.int y t:=vb;subst zb
   have e:eqD (.bl x) (.int y)=eqD _ _:=rfl
   unfold eqD
   exact EqAt.bool_int x y tb
  | str y =>
   have zu:=bJ.mp rb;subst zu;obtain ⟨tb,zb⟩:∃ t,b=Value.str ⟨y.toArray⟩ t:=vb;subst zb
   have e:eqD (.bl x) (.str y)=eqD _ _:=rfl
   unfold eqD
   exact EqAt.bool_str x _ tb
  | tup y =>
   obtain ⟨lb,wsb,zu,hqb,hrb⟩:=bB rb;subst zu;have zb:b=Value.ref lb:=vb;subst zb;obtain ⟨itsb,rvb,plb,_⟩:=I.tuple hqb;have ilb:s.heap.IsTuple lb itsb.toArray:=plb
   have e:eqD (.bl x) (.tup y)=eqD _ _:=rfl
   unfold eqD
   exact EqAt.bool_tuple x ilb (Nat.lt_of_le_of_lt (Nat.le_add_right _ _) hu)
  | lst y =>
   obtain ⟨lb,wsb,zu,hqb,hrb⟩:=bQ.mp rb;subst zu;have zb:b=Value.ref lb:=vb;subst zb;obtain ⟨itsb,rvb,plb,_⟩:=I.list hqb;have ilb:=plb.isList
   have e:eqD (.bl x) (.lst y)=eqD _ _:=rfl
   unfold eqD
   exact EqAt.bool_list x ilb (Nat.lt_of_le_of_lt (Nat.le_add_right _ _) hu)
 | .int x,y,A,v,u,a,b,ra,rb,va,vb,hu,px,py=>by
  have zv:=aQ.mp ra;subst zv;obtain ⟨ta,za⟩:∃ t,a=Value.int x t:=va;subst za
  cases y with
  | dct _ _ _=>simp at py
  | ins _ _ _=>simp at py
  | exn _ _ _=>simp at py
  | non =>
   have zu:=bW.mp rb;subst zu;have zb:b=Value.none:=vb;subst zb
   have e:eqD (.int x) (.non)=eqD _ _:=rfl
   unfold eqD
   exact EqAt.int_none x ta
  | bl y =>
   have zu:=bD.mp rb;subst zu;have zb:b=Value.bool y:=vb;subst zb
   have e:eqD (.int x) (.bl y)=eqD _ _:=rfl
   unfold eqD
   exact EqAt.int_bool x ta y
  | int y =>
   have zu:=aQ.mp rb;subst zu;obtain ⟨tb,zb⟩:∃ t,b=Value.int y t:=vb;subst zb
   have e:eqD (.int x) (.int y)=eqD _ _:=rfl
   unfold eqD
   exact EqAt.int_int x ta y tb
  | str y =>
   have zu:=bJ.mp rb;subst zu;obtain ⟨tb,zb⟩:∃ t,b=Value.str ⟨y.toArray⟩ t:=vb;subst zb
   have e:eqD (.int x) (.str y)=eqD _ _:=rfl
   unfold eqD
   exact EqAt.int_str x ta _ tb
  | tup y =>
   obtain ⟨lb,wsb,zu,hqb,hrb⟩:=bB rb;subst zu;have zb:b=Value.ref lb:=vb;subst zb;obtain ⟨itsb,rvb,plb,_⟩:=I.tuple hqb;have ilb:s.heap.IsTuple lb itsb.toArray:=plb
   have e:eqD (.int x) (.tup y)=eqD _ _:=rfl
   unfold eqD
   exact EqAt.int_tuple x ta ilb (Nat.lt_of_le_of_lt (Nat.le_add_right _ _) hu)
  | lst y =>
   obtain ⟨lb,wsb,zu,hqb,hrb⟩:=bQ.mp rb;subst zu;have zb:b=Value.ref lb:=vb;subst zb;obtain ⟨itsb,rvb,plb,_⟩:=I.list hqb;have ilb:=plb.isList
   have e:eqD (.int x) (.lst y)=eqD _ _:=rfl
   unfold eqD
   exact EqAt.int_list x ta ilb (Nat.lt_of_le_of_lt (Nat.le_add_right _ _) hu)
 | .str x,y,A,v,u,a,b,ra,rb,va,vb,hu,px,py=>by
  have zv:=bJ.mp ra;subst zv;obtain ⟨ta,za⟩:∃ t,a=Value.str ⟨x.toArray⟩ t:=va;subst za
  cases y with
  | dct _ _ _=>simp at py
  | ins _ _ _=>simp at py
  | exn _ _ _=>simp at py
  | non =>
   have zu:=bW.mp rb;subst zu;have zb:b=Value.none:=vb;subst zb
   have e:eqD (.str x) (.non)=eqD _ _:=rfl
   unfold eqD
   exact EqAt.str_none _ ta
  | bl y =>
   have zu:=bD.mp rb;subst zu;have zb:b=Value.bool y:=vb;subst zb
   have e:eqD (.str x) (.bl y)=eqD _ _:=rfl
   unfold eqD
   exact EqAt.str_bool _ ta y
  | int y =>
   have zu:=aQ.mp rb;subst zu;obtain ⟨tb,zb⟩:∃ t,b=Value.int y t:=vb;subst zb
   have e:eqD (.str x) (.int y)=eqD _ _:=rfl
   unfold eqD
   exact EqAt.str_int _ ta y tb
  | str y =>
   have zu:=bJ.mp rb;subst zu;obtain ⟨tb,zb⟩:∃ t,b=Value.str ⟨y.toArray⟩ t:=vb;subst zb
   have e:eqD (.str x) (.str y)=((⟨x.toArray⟩:Str)==⟨y.toArray⟩):=by rw [<-str_beq];unfold eqD;simp
   rw [e]
   exact EqAt.str_str _ ta _ tb
  | tup y =>
   obtain ⟨lb,wsb,zu,hqb,hrb⟩:=bB rb;subst zu;have zb:b=Value.ref lb:=vb;subst zb;obtain ⟨itsb,rvb,plb,_⟩:=I.tuple hqb;have ilb:s.heap.IsTuple lb itsb.toArray:=plb
   have e:eqD (.str x) (.tup y)=eqD _ _:=rfl
   unfold eqD
   exact EqAt.str_tuple _ ta ilb (Nat.lt_of_le_of_lt (Nat.le_add_right _ _) hu)
  | lst y =>
   obtain ⟨lb,wsb,zu,hqb,hrb⟩:=bQ.mp rb;subst zu;have zb:b=Value.ref lb:=vb;subst zb;obtain ⟨itsb,rvb,plb,_⟩:=I.list hqb;have ilb:=plb.isList
   have e:eqD (.str x) (.lst y)=eqD _ _:=rfl
   unfold eqD
   exact EqAt.str_list _ ta ilb (Nat.lt_of_le_of_lt (Nat.le_add_right _ _) hu)
 | .tup x,y,A,v,u,a,b,ra,rb,va,vb,hu,px,py=>by
  obtain ⟨la,wsa,zv,hqa,hra⟩:=bB ra;subst zv;have za:a=Value.ref la:=va;subst za;obtain ⟨itsa,rva,pla,_⟩:=I.tuple hqa;have ila:s.heap.IsTuple la itsa.toArray:=pla
  cases y with
  | dct _ _ _=>simp at py
  | ins _ _ _=>simp at py
  | exn _ _ _=>simp at py
  | non =>
   have zu:=bW.mp rb;subst zu;have zb:b=Value.none:=vb;subst zb
   have e:eqD (.tup x) (.non)=eqD _ _:=rfl
   unfold eqD
   exact EqAt.tuple_none ila (Nat.lt_of_le_of_lt (Nat.le_add_right _ _) hu)
  | bl y =>
   have zu:=bD.mp rb;subst zu;have zb:b=Value.bool y:=vb;subst zb
   have e:eqD (.tup x) (.bl y)=eqD _ _:=rfl
   unfold eqD
   exact EqAt.tuple_bool y ila (Nat.lt_of_le_of_lt (Nat.le_add_right _ _) hu)
  | int y =>
   have zu:=aQ.mp rb;subst zu;obtain ⟨tb,zb⟩:∃ t,b=Value.int y t:=vb;subst zb
   have e:eqD (.tup x) (.int y)=eqD _ _:=rfl
   unfold eqD
   exact EqAt.tuple_int y tb ila (Nat.lt_of_le_of_lt (Nat.le_add_right _ _) hu)
  | str y =>
   have zu:=bJ.mp rb;subst zu;obtain ⟨tb,zb⟩:∃ t,b=Value.str ⟨y.toArray⟩ t:=vb;subst zb
   have e:eqD (.tup x) (.str y)=eqD _ _:=rfl
   unfold eqD
   exact EqAt.tuple_str _ tb ila (Nat.lt_of_le_of_lt (Nat.le_add_right _ _) hu)
  | tup y =>
   obtain ⟨lb,wsb,zu,hqb,hrb⟩:=bB rb;subst zu;have zb:b=Value.ref lb:=vb;subst zb;obtain ⟨itsb,rvb,plb,_⟩:=I.tuple hqb;have ilb:s.heap.IsTuple lb itsb.toArray:=plb
   have n1:itsa.length=x.length:=by rw [<-rva.length,hra.length]
   have n2:itsb.length=y.length:=by rw [<-rvb.length,hrb.length]
   have e:eqD (.tup x) (.tup y)=dU x y:=by conv=>lhs;unfold eqD
   have hd:dep (.tup x)=dM x+1:=by conv=>lhs;unfold dep
   rw [hd] at hu
   have hin:A.in1.units+dM x < cLine:=by show A.units+1+dM x < cLine;omega
   by_cases hll:la=lb
   ·subst hll
    have:=Rep.inj I px py ra rb
    rw [this,aBs _ py]
    exact EqAt.same _
   ·rw [e]
    have e3:dU x y=((List.range (min itsa.toArray.size itsb.toArray.size)).all (pairE x y)&&itsa.toArray.size==itsb.toArray.size):=by rw [<-lQ,List.size_toArray,List.size_toArray,n1,n2]
    rw [e3]
    refine EqAt.of_refs hll (RcAt.tuples ila ilb (by omega) fun j j1 j2=>?_)
    have:=jZ I x y A.in1 wsa wsb itsa itsb hra hrb rva rvb hin (by simpa using px) (by simpa using py) j (by simpa using j1) (by simpa using j2)
    simpa using this
  | lst y =>
   obtain ⟨lb,wsb,zu,hqb,hrb⟩:=bQ.mp rb;subst zu;have zb:b=Value.ref lb:=vb;subst zb;obtain ⟨itsb,rvb,plb,_⟩:=I.list hqb;have ilb:=plb.isList
   have e:eqD (.tup x) (.lst y)=eqD _ _:=rfl
   unfold eqD
   exact EqAt.tuple_list ila ilb (Nat.lt_of_le_of_lt (Nat.le_add_right _ _) hu)
 | .lst x,y,A,v,u,a,b,ra,rb,va,vb,hu,px,py=>by
  obtain ⟨la,wsa,zv,hqa,hra⟩:=bQ.mp ra;subst zv;have za:a=Value.ref la:=va;subst za;obtain ⟨itsa,rva,pla,_⟩:=I.list hqa;have ila:=pla.isList
  cases y with
  | dct _ _ _=>simp at py
  | ins _ _ _=>simp at py
  | exn _ _ _=>simp at py
  | non =>
   have zu:=bW.mp rb;subst zu;have zb:b=Value.none:=vb;subst zb
   have e:eqD (.lst x) (.non)=eqD _ _:=rfl
   unfold eqD
   exact EqAt.list_none ila (Nat.lt_of_le_of_lt (Nat.le_add_right _ _) hu)
  | bl y =>
   have zu:=bD.mp rb;subst zu;have zb:b=Value.bool y:=vb;subst zb
   have e:eqD (.lst x) (.bl y)=eqD _ _:=rfl
   unfold eqD
   exact EqAt.list_bool y ila (Nat.lt_of_le_of_lt (Nat.le_add_right _ _) hu)
  | int y =>
   have zu:=aQ.mp rb;subst zu;obtain ⟨tb,zb⟩:∃ t,b=Value.int y t:=vb;subst zb
   have e:eqD (.lst x) (.int y)=eqD _ _:=rfl
   unfold eqD
   exact EqAt.list_int y tb ila (Nat.lt_of_le_of_lt (Nat.le_add_right _ _) hu)
  | str y =>
   have zu:=bJ.mp rb;subst zu;obtain ⟨tb,zb⟩:∃ t,b=Value.str ⟨y.toArray⟩ t:=vb;subst zb
   have e:eqD (.lst x) (.str y)=eqD _ _:=rfl
   unfold eqD
   exact EqAt.list_str _ tb ila (Nat.lt_of_le_of_lt (Nat.le_add_right _ _) hu)
  | tup y =>
   obtain ⟨lb,wsb,zu,hqb,hrb⟩:=bB rb;subst zu;have zb:b=Value.ref lb:=vb;subst zb;obtain ⟨itsb,rvb,plb,_⟩:=I.tuple hqb;have ilb:s.heap.IsTuple lb itsb.toArray:=plb
   have e:eqD (.lst x) (.tup y)=eqD _ _:=rfl
   unfold eqD
   exact EqAt.list_tuple ila ilb (Nat.lt_of_le_of_lt (Nat.le_add_right _ _) hu)
  | lst y =>
   obtain ⟨lb,wsb,zu,hqb,hrb⟩:=bQ.mp rb;subst zu;have zb:b=Value.ref lb:=vb;subst zb;obtain ⟨itsb,rvb,plb,_⟩:=I.list hqb;have ilb:=plb.isList
   have n1:itsa.length=x.length:=by rw [<-rva.length,hra.length]
   have n2:itsb.length=y.length:=by rw [<-rvb.length,hrb.length]
   have e:eqD (.lst x) (.lst y)=dU x y:=by conv=>lhs;unfold eqD
   have hd:dep (.lst x)=dM x+1:=by conv=>lhs;unfold dep
   rw [hd] at hu
   have hin:A.in1.units+dM x < cLine:=by show A.units+1+dM x < cLine;omega
   by_cases hll:la=lb
   ·subst hll
    have:=Rep.inj I px py ra rb
    rw [this,aBs _ py]
    exact EqAt.same _
   ·rw [e]
    by_cases hsz:itsa.length=itsb.length
    ·have e3:dU x y=(List.range itsa.toArray.size).all (pairE x y):=by rw [<-lQ,List.size_toArray,n1];simp [show x.length=y.length by omega]
     rw [e3]
     refine EqAt.of_refs hll (RcAt.lists ila ilb (by simpa using hsz) (by omega) fun j j1 j2=>?_)
     have:=jZ I x y A.in1 wsa wsb itsa itsb hra hrb rva rvb hin (by simpa using px) (by simpa using py) j (by simpa using j1) (by simpa using j2)
     simpa using this
    ·rw [vN (by omega)]
     exact EqAt.of_refs hll (RcAt.lists_lengths ila ilb (by simpa using hsz) (by omega))
 | .dct _ _ _,y,A,v,u,a,b,ra,rb,va,vb,hu,px,py=>by simp at px
 | .ins _ _ _,y,A,v,u,a,b,ra,rb,va,vb,hu,px,py=>by simp at px
 | .exn _ _ _,y,A,v,u,a,b,ra,rb,va,vb,hu,px,py=>by simp at px
theorem jZ(I:Inv X pins σ H s):∀ (xs ys:List D) (A:Around) (vs us:List V) (as bs:List Value),bH X.K H xs vs->bH X.K H ys us->Vals vs as->Vals us bs->A.units+dM xs < cLine->cV xs=true->cV ys=true->∀ (j:Nat) (h1:j < as.length) (h2:j < bs.length),EqAt A s as[j] bs[j] (pairE xs ys j)
 | [],_,A,vs,us,as,bs,ra,rb,va,vb,hu,px,py,j,h1,h2=>by
  have e:=cP.mp ra;subst e;cases va;exact absurd h1 (Nat.not_lt_zero _)
 | x :: xs,[],A,vs,us,as,bs,ra,rb,va,vb,hu,px,py,j,h1,h2=>by
  have e:=cP.mp rb;subst e;cases vb;exact absurd h2 (Nat.not_lt_zero _)
 | x :: xs,y :: ys,A,vs,us,as,bs,ra,rb,va,vb,hu,px,py,j,h1,h2=>by
  obtain ⟨v,r,e,p1,p2⟩:=bV.mp ra;subst e
  obtain ⟨u,r',e,q1,q2⟩:=bV.mp rb;subst e
  have hd:dM (x :: xs)=max (dep x) (dM xs):=by conv=>lhs;unfold dM
  rw [hd] at hu
  simp only [lL,Bool.and_eq_true] at px py
  cases va with
  | cons va vas =>
   cases vb with
   | cons vb vbs =>
    cases j with
    | zero=>exact aFw I x y A v u _ _ p1 q1 va vb (by omega) px.1 py.1
    | succ j=>exact jZ I xs ys A r r' _ _ p2 q2 vas vbs (by omega) px.2 py.2 j (Nat.lt_of_succ_lt_succ h1) (Nat.lt_of_succ_lt_succ h2)
end
theorem aO4(I:Inv X pins σ H s):∀ (x y:D) (A:Around) (v u:V) (a b:Value),Rep X.K H x v->Rep X.K H y u->RelV v a->RelV u b->A.units+dep x < cLine->plain x=true->plain y=true->RcAt A s a b (eqD x y)
 | .non,y,A,v,u,a,b,ra,rb,va,vb,hu,px,py=>by
  have zv:=bW.mp ra;subst zv;have za:a=Value.none:=va;subst za
  cases y with
  | dct _ _ _=>simp at py
  | ins _ _ _=>simp at py
  | exn _ _ _=>simp at py
  | non =>
   have zu:=bW.mp rb;subst zu;have zb:b=Value.none:=vb;subst zb
   have e:eqD (.non) (.non)=eqD _ _:=rfl
   unfold eqD
   exact RcAt.none_none
  | bl y =>
   have zu:=bD.mp rb;subst zu;have zb:b=Value.bool y:=vb;subst zb
   have e:eqD (.non) (.bl y)=eqD _ _:=rfl
   unfold eqD
   exact RcAt.none_bool y
  | int y =>
   have zu:=aQ.mp rb;subst zu;obtain ⟨tb,zb⟩:∃ t,b=Value.int y t:=vb;subst zb
   have e:eqD (.non) (.int y)=eqD _ _:=rfl
   unfold eqD
   exact RcAt.none_int y tb
  | str y =>
   have zu:=bJ.mp rb;subst zu;obtain ⟨tb,zb⟩:∃ t,b=Value.str ⟨y.toArray⟩ t:=vb;subst zb
   have e:eqD (.non) (.str y)=eqD _ _:=rfl
   unfold eqD
   exact RcAt.none_str _ tb
  | tup y =>
   obtain ⟨lb,wsb,zu,hqb,hrb⟩:=bB rb;subst zu;have zb:b=Value.ref lb:=vb;subst zb;obtain ⟨itsb,rvb,plb,_⟩:=I.tuple hqb;have ilb:s.heap.IsTuple lb itsb.toArray:=plb
   have e:eqD (.non) (.tup y)=eqD _ _:=rfl
   unfold eqD
   exact RcAt.none_tuple ilb (Nat.lt_of_le_of_lt (Nat.le_add_right _ _) hu)
  | lst y =>
   obtain ⟨lb,wsb,zu,hqb,hrb⟩:=bQ.mp rb;subst zu;have zb:b=Value.ref lb:=vb;subst zb;obtain ⟨itsb,rvb,plb,_⟩:=I.list hqb;have ilb:=plb.isList
   have e:eqD (.non) (.lst y)=eqD _ _:=rfl
   unfold eqD
   exact RcAt.none_list ilb (Nat.lt_of_le_of_lt (Nat.le_add_right _ _) hu)
 | .bl x,y,A,v,u,a,b,ra,rb,va,vb,hu,px,py=>by
  have zv:=bD.mp ra;subst zv;have za:a=Value.bool x:=va;subst za
  cases y with
  | dct _ _ _=>simp at py
  | ins _ _ _=>simp at py
  | exn _ _ _=>simp at py
  | non =>
   have zu:=bW.mp rb;subst zu;have zb:b=Value.none:=vb;subst zb
   have e:eqD (.bl x) (.non)=eqD _ _:=rfl
   unfold eqD
   exact RcAt.bool_none x
  | bl y =>
   have zu:=bD.mp rb;subst zu;have zb:b=Value.bool y:=vb;subst zb
   have e:eqD (.bl x) (.bl y)=eqD _ _:=rfl
   unfold eqD
   exact RcAt.bool_bool x y
  | int y =>
   have zu:=aQ.mp rb;subst zu;obtain ⟨tb,zb⟩:∃ t,b=Value.int y t:=vb;subst zb
   have e:eqD (.bl x) (.int y)=eqD _ _:=rfl
   unfold eqD
   exact RcAt.bool_int x y tb
  | str y =>
   have zu:=bJ.mp rb;subst zu;obtain ⟨tb,zb⟩:∃ t,b=Value.str ⟨y.toArray⟩ t:=vb;subst zb
   have e:eqD (.bl x) (.str y)=eqD _ _:=rfl
   unfold eqD
   exact RcAt.bool_str x _ tb
  | tup y =>
   obtain ⟨lb,wsb,zu,hqb,hrb⟩:=bB rb;subst zu;have zb:b=Value.ref lb:=vb;subst zb;obtain ⟨itsb,rvb,plb,_⟩:=I.tuple hqb;have ilb:s.heap.IsTuple lb itsb.toArray:=plb
   have e:eqD (.bl x) (.tup y)=eqD _ _:=rfl
   unfold eqD
   exact RcAt.bool_tuple x ilb (Nat.lt_of_le_of_lt (Nat.le_add_right _ _) hu)
  | lst y =>
   obtain ⟨lb,wsb,zu,hqb,hrb⟩:=bQ.mp rb;subst zu;have zb:b=Value.ref lb:=vb;subst zb;obtain ⟨itsb,rvb,plb,_⟩:=I.list hqb;have ilb:=plb.isList
   have e:eqD (.bl x) (.lst y)=eqD _ _:=rfl
   unfold eqD
   exact RcAt.bool_list x ilb (Nat.lt_of_le_of_lt (Nat.le_add_right _ _) hu)
 | .int x,y,A,v,u,a,b,ra,rb,va,vb,hu,px,py=>by
  have zv:=aQ.mp ra;subst zv;obtain ⟨ta,za⟩:∃ t,a=Value.int x t:=va;subst za
  cases y with
  | dct _ _ _=>simp at py
  | ins _ _ _=>simp at py
  | exn _ _ _=>simp at py
  | non =>
   have zu:=bW.mp rb;subst zu;have zb:b=Value.none:=vb;subst zb
   have e:eqD (.int x) (.non)=eqD _ _:=rfl
   unfold eqD
   exact RcAt.int_none x ta
  | bl y =>
   have zu:=bD.mp rb;subst zu;have zb:b=Value.bool y:=vb;subst zb
   have e:eqD (.int x) (.bl y)=eqD _ _:=rfl
   unfold eqD
   exact RcAt.int_bool x ta y
  | int y =>
   have zu:=aQ.mp rb;subst zu;obtain ⟨tb,zb⟩:∃ t,b=Value.int y t:=vb;subst zb
   have e:eqD (.int x) (.int y)=eqD _ _:=rfl
   unfold eqD
   exact RcAt.int_int x ta y tb
  | str y =>
   have zu:=bJ.mp rb;subst zu;obtain ⟨tb,zb⟩:∃ t,b=Value.str ⟨y.toArray⟩ t:=vb;subst zb
   have e:eqD (.int x) (.str y)=eqD _ _:=rfl
   unfold eqD
   exact RcAt.int_str x ta _ tb
  | tup y =>
   obtain ⟨lb,wsb,zu,hqb,hrb⟩:=bB rb;subst zu;have zb:b=Value.ref lb:=vb;subst zb;obtain ⟨itsb,rvb,plb,_⟩:=I.tuple hqb;have ilb:s.heap.IsTuple lb itsb.toArray:=plb
   have e:eqD (.int x) (.tup y)=eqD _ _:=rfl
   unfold eqD
   exact RcAt.int_tuple x ta ilb (Nat.lt_of_le_of_lt (Nat.le_add_right _ _) hu)
  | lst y =>
   obtain ⟨lb,wsb,zu,hqb,hrb⟩:=bQ.mp rb;subst zu;have zb:b=Value.ref lb:=vb;subst zb;obtain ⟨itsb,rvb,plb,_⟩:=I.list hqb;have ilb:=plb.isList
   have e:eqD (.int x) (.lst y)=eqD _ _:=rfl
   unfold eqD
   exact RcAt.int_list x ta ilb (Nat.lt_of_le_of_lt (Nat.le_add_right _ _) hu)
 | .str x,y,A,v,u,a,b,ra,rb,va,vb,hu,px,py=>by
  have zv:=bJ.mp ra;subst zv;obtain ⟨ta,za⟩:∃ t,a=Value.str ⟨x.toArray⟩ t:=va;subst za
  cases y with
  | dct _ _ _=>simp at py
  | ins _ _ _=>simp at py
  | exn _ _ _=>simp at py
  | non =>
   have zu:=bW.mp rb;subst zu;have zb:b=Value.none:=vb;subst zb
   have e:eqD (.str x) (.non)=eqD _ _:=rfl
   unfold eqD
   exact RcAt.str_none _ ta
  | bl y =>
   have zu:=bD.mp rb;subst zu;have zb:b=Value.bool y:=vb;subst zb
   have e:eqD (.str x) (.bl y)=eqD _ _:=rfl
   unfold eqD
   exact RcAt.str_bool _ ta y
  | int y =>
   have zu:=aQ.mp rb;subst zu;obtain ⟨tb,zb⟩:∃ t,b=Value.int y t:=vb;subst zb
   have e:eqD (.str x) (.int y)=eqD _ _:=rfl
   unfold eqD
   exact RcAt.str_int _ ta y tb
  | str y =>
   have zu:=bJ.mp rb;subst zu;obtain ⟨tb,zb⟩:∃ t,b=Value.str ⟨y.toArray⟩ t:=vb;subst zb
   have e:eqD (.str x) (.str y)=((⟨x.toArray⟩:Str)==⟨y.toArray⟩):=by rw [<-str_beq];unfold eqD;simp
   rw [e]
   exact RcAt.str_str _ ta _ tb
  | tup y =>
   obtain ⟨lb,wsb,zu,hqb,hrb⟩:=bB rb;subst zu;have zb:b=Value.ref lb:=vb;subst zb;obtain ⟨itsb,rvb,plb,_⟩:=I.tuple hqb;have ilb:s.heap.IsTuple lb itsb.toArray:=plb
   have e:eqD (.str x) (.tup y)=eqD _ _:=rfl
   unfold eqD
   exact RcAt.str_tuple _ ta ilb (Nat.lt_of_le_of_lt (Nat.le_add_right _ _) hu)
  | lst y =>
   obtain ⟨lb,wsb,zu,hqb,hrb⟩:=bQ.mp rb;subst zu;have zb:b=Value.ref lb:=vb;subst zb;obtain ⟨itsb,rvb,plb,_⟩:=I.list hqb;have ilb:=plb.isList
   have e:eqD (.str x) (.lst y)=eqD _ _:=rfl
   unfold eqD
   exact RcAt.str_list _ ta ilb (Nat.lt_of_le_of_lt (Nat.le_add_right _ _) hu)
 | .tup x,y,A,v,u,a,b,ra,rb,va,vb,hu,px,py=>by
  obtain ⟨la,wsa,zv,hqa,hra⟩:=bB ra;subst zv;have za:a=Value.ref la:=va;subst za;obtain ⟨itsa,rva,pla,_⟩:=I.tuple hqa;have ila:s.heap.IsTuple la itsa.toArray:=pla
  cases y with
  | dct _ _ _=>simp at py
  | ins _ _ _=>simp at py
  | exn _ _ _=>simp at py
  | non =>
   have zu:=bW.mp rb;subst zu;have zb:b=Value.none:=vb;subst zb
   have e:eqD (.tup x) (.non)=eqD _ _:=rfl
   unfold eqD
   exact RcAt.tuple_none ila (Nat.lt_of_le_of_lt (Nat.le_add_right _ _) hu)
  | bl y =>
   have zu:=bD.mp rb;subst zu;have zb:b=Value.bool y:=vb;subst zb
   have e:eqD (.tup x) (.bl y)=eqD _ _:=rfl
   unfold eqD
   exact RcAt.tuple_bool y ila (Nat.lt_of_le_of_lt (Nat.le_add_right _ _) hu)
  | int y =>
   have zu:=aQ.mp rb;subst zu;obtain ⟨tb,zb⟩:∃ t,b=Value.int y t:=vb;subst zb
   have e:eqD (.tup x) (.int y)=eqD _ _:=rfl
   unfold eqD
   exact RcAt.tuple_int y tb ila (Nat.lt_of_le_of_lt (Nat.le_add_right _ _) hu)
  | str y =>
   have zu:=bJ.mp rb;subst zu;obtain ⟨tb,zb⟩:∃ t,b=Value.str ⟨y.toArray⟩ t:=vb;subst zb
   have e:eqD (.tup x) (.str y)=eqD _ _:=rfl
   unfold eqD
   exact RcAt.tuple_str _ tb ila (Nat.lt_of_le_of_lt (Nat.le_add_right _ _) hu)
  | tup y =>
   obtain ⟨lb,wsb,zu,hqb,hrb⟩:=bB rb;subst zu;have zb:b=Value.ref lb:=vb;subst zb;obtain ⟨itsb,rvb,plb,_⟩:=I.tuple hqb;have ilb:s.heap.IsTuple lb itsb.toArray:=plb
   have n1:itsa.length=x.length:=by rw [<-rva.length,hra.length]
   have n2:itsb.length=y.length:=by rw [<-rvb.length,hrb.length]
   have e:eqD (.tup x) (.tup y)=dU x y:=by conv=>lhs;unfold eqD
   have hd:dep (.tup x)=dM x+1:=by conv=>lhs;unfold dep
   rw [hd] at hu
   have hin:A.in1.units+dM x < cLine:=by show A.units+1+dM x < cLine;omega
   rw [e]
   have e3:dU x y=((List.range (min itsa.toArray.size itsb.toArray.size)).all (pairE x y)&&itsa.toArray.size==itsb.toArray.size):=by rw [<-lQ,List.size_toArray,List.size_toArray,n1,n2]
   rw [e3]
   refine  (RcAt.tuples ila ilb (by omega) fun j j1 j2=>?_)
   have:=jZ I x y A.in1 wsa wsb itsa itsb hra hrb rva rvb hin (by simpa using px) (by simpa using py) j (by simpa using j1) (by simpa using j2)
   simpa using this
  | lst y =>
   obtain ⟨lb,wsb,zu,hqb,hrb⟩:=bQ.mp rb;subst zu;have zb:b=Value.ref lb:=vb;subst zb;obtain ⟨itsb,rvb,plb,_⟩:=I.list hqb;have ilb:=plb.isList
   have e:eqD (.tup x) (.lst y)=eqD _ _:=rfl
   unfold eqD
   exact RcAt.tuple_list ila ilb (Nat.lt_of_le_of_lt (Nat.le_add_right _ _) hu)
 | .lst x,y,A,v,u,a,b,ra,rb,va,vb,hu,px,py=>by
  obtain ⟨la,wsa,zv,hqa,hra⟩:=bQ.mp ra;subst zv;have za:a=Value.ref la:=va;subst za;obtain ⟨itsa,rva,pla,_⟩:=I.list hqa;have ila:=pla.isList
  cases y with
  | dct _ _ _=>simp at py
  | ins _ _ _=>simp at py
  | exn _ _ _=>simp at py
  | non =>
   have zu:=bW.mp rb;subst zu;have zb:b=Value.none:=vb;subst zb
   have e:eqD (.lst x) (.non)=eqD _ _:=rfl
   unfold eqD
   exact RcAt.list_none ila (Nat.lt_of_le_of_lt (Nat.le_add_right _ _) hu)
  | bl y =>
   have zu:=bD.mp rb;subst zu;have zb:b=Value.bool y:=vb;subst zb
   have e:eqD (.lst x) (.bl y)=eqD _ _:=rfl
   unfold eqD
   exact RcAt.list_bool y ila (Nat.lt_of_le_of_lt (Nat.le_add_right _ _) hu)
  | int y =>
   have zu:=aQ.mp rb;subst zu;obtain ⟨tb,zb⟩:∃ t,b=Value.int y t:=vb;subst zb
   have e:eqD (.lst x) (.int y)=eqD _ _:=rfl
   unfold eqD
   exact RcAt.list_int y tb ila (Nat.lt_of_le_of_lt (Nat.le_add_right _ _) hu)
  | str y =>
   have zu:=bJ.mp rb;subst zu;obtain ⟨tb,zb⟩:∃ t,b=Value.str ⟨y.toArray⟩ t:=vb;subst zb
   have e:eqD (.lst x) (.str y)=eqD _ _:=rfl
   unfold eqD
   exact RcAt.list_str _ tb ila (Nat.lt_of_le_of_lt (Nat.le_add_right _ _) hu)
  | tup y =>
   obtain ⟨lb,wsb,zu,hqb,hrb⟩:=bB rb;subst zu;have zb:b=Value.ref lb:=vb;subst zb;obtain ⟨itsb,rvb,plb,_⟩:=I.tuple hqb;have ilb:s.heap.IsTuple lb itsb.toArray:=plb
   have e:eqD (.lst x) (.tup y)=eqD _ _:=rfl
   unfold eqD
   exact RcAt.list_tuple ila ilb (Nat.lt_of_le_of_lt (Nat.le_add_right _ _) hu)
  | lst y =>
   obtain ⟨lb,wsb,zu,hqb,hrb⟩:=bQ.mp rb;subst zu;have zb:b=Value.ref lb:=vb;subst zb;obtain ⟨itsb,rvb,plb,_⟩:=I.list hqb;have ilb:=plb.isList
   have n1:itsa.length=x.length:=by rw [<-rva.length,hra.length]
   have n2:itsb.length=y.length:=by rw [<-rvb.length,hrb.length]
   have e:eqD (.lst x) (.lst y)=dU x y:=by conv=>lhs;unfold eqD
   have hd:dep (.lst x)=dM x+1:=by conv=>lhs;unfold dep
   rw [hd] at hu
   have hin:A.in1.units+dM x < cLine:=by show A.units+1+dM x < cLine;omega
   rw [e]
   by_cases hsz:itsa.length=itsb.length
   ·have e3:dU x y=(List.range itsa.toArray.size).all (pairE x y):=by rw [<-lQ,List.size_toArray,n1];simp [show x.length=y.length by omega]
    rw [e3]
    refine  (RcAt.lists ila ilb (by simpa using hsz) (by omega) fun j j1 j2=>?_)
    have:=jZ I x y A.in1 wsa wsb itsa itsb hra hrb rva rvb hin (by simpa using px) (by simpa using py) j (by simpa using j1) (by simpa using j2)
    simpa using this
   ·rw [vN (by omega)]
    exact  (RcAt.lists_lengths ila ilb (by simpa using hsz) (by omega))
 | .dct _ _ _,y,A,v,u,a,b,ra,rb,va,vb,hu,px,py=>by simp at px
 | .ins _ _ _,y,A,v,u,a,b,ra,rb,va,vb,hu,px,py=>by simp at px
 | .exn _ _ _,y,A,v,u,a,b,ra,rb,va,vb,hu,px,py=>by simp at px
theorem aO5(I:Inv X pins σ H s):∀ (x y:D) (A:Around) (v u:V) (a b:Value),Rep X.K H x v->Rep X.K H y u->RelV v a->RelV u b->A.units+dep x < cLine->plain x=true->plain y=true->RcNeAt A s a b (!eqD x y)
 | .non,y,A,v,u,a,b,ra,rb,va,vb,hu,px,py=>by
  have zv:=bW.mp ra;subst zv;have za:a=Value.none:=va;subst za
  cases y with
  | dct _ _ _=>simp at py
  | ins _ _ _=>simp at py
  | exn _ _ _=>simp at py
  | non =>
   have zu:=bW.mp rb;subst zu;have zb:b=Value.none:=vb;subst zb
   have e:eqD (.non) (.non)=eqD _ _:=rfl
   unfold eqD
   exact RcNeAt.none_none
  | bl y =>
   have zu:=bD.mp rb;subst zu;have zb:b=Value.bool y:=vb;subst zb
   have e:eqD (.non) (.bl y)=eqD _ _:=rfl
   unfold eqD
   exact RcNeAt.none_bool y
  | int y =>
   have zu:=aQ.mp rb;subst zu;obtain ⟨tb,zb⟩:∃ t,b=Value.int y t:=vb;subst zb
   have e:eqD (.non) (.int y)=eqD _ _:=rfl
   unfold eqD
   exact RcNeAt.none_int y tb
  | str y =>
   have zu:=bJ.mp rb;subst zu;obtain ⟨tb,zb⟩:∃ t,b=Value.str ⟨y.toArray⟩ t:=vb;subst zb
   have e:eqD (.non) (.str y)=eqD _ _:=rfl
   unfold eqD
   exact RcNeAt.none_str _ tb
  | tup y =>
   obtain ⟨lb,wsb,zu,hqb,hrb⟩:=bB rb;subst zu;have zb:b=Value.ref lb:=vb;subst zb;obtain ⟨itsb,rvb,plb,_⟩:=I.tuple hqb;have ilb:s.heap.IsTuple lb itsb.toArray:=plb
   have e:eqD (.non) (.tup y)=eqD _ _:=rfl
   unfold eqD
   exact RcNeAt.none_tuple ilb (Nat.lt_of_le_of_lt (Nat.le_add_right _ _) hu)
  | lst y =>
   obtain ⟨lb,wsb,zu,hqb,hrb⟩:=bQ.mp rb;subst zu;have zb:b=Value.ref lb:=vb;subst zb;obtain ⟨itsb,rvb,plb,_⟩:=I.list hqb;have ilb:=plb.isList
   have e:eqD (.non) (.lst y)=eqD _ _:=rfl
   unfold eqD
   exact RcNeAt.none_list ilb (Nat.lt_of_le_of_lt (Nat.le_add_right _ _) hu)
 | .bl x,y,A,v,u,a,b,ra,rb,va,vb,hu,px,py=>by
  have zv:=bD.mp ra;subst zv;have za:a=Value.bool x:=va;subst za
  cases y with
  | dct _ _ _=>simp at py
  | ins _ _ _=>simp at py
  | exn _ _ _=>simp at py
  | non =>
   have zu:=bW.mp rb;subst zu;have zb:b=Value.none:=vb;subst zb
   have e:eqD (.bl x) (.non)=eqD _ _:=rfl
   unfold eqD
   exact RcNeAt.bool_none x
  | bl y =>
   have zu:=bD.mp rb;subst zu;have zb:b=Value.bool y:=vb;subst zb
   have e:eqD (.bl x) (.bl y)=eqD _ _:=rfl
   unfold eqD
   exact RcNeAt.bool_bool x y
  | int y =>
   have zu:=aQ.mp rb;subst zu;obtain ⟨tb,zb⟩:∃ t,b=Value.int y t:=vb;subst zb
   have e:eqD (.bl x) (.int y)=eqD _ _:=rfl
   unfold eqD
   exact RcNeAt.bool_int x y tb
  | str y =>
   have zu:=bJ.mp rb;subst zu;obtain ⟨tb,zb⟩:∃ t,b=Value.str ⟨y.toArray⟩ t:=vb;subst zb
   have e:eqD (.bl x) (.str y)=eqD _ _:=rfl
   unfold eqD
   exact RcNeAt.bool_str x _ tb
  | tup y =>
   obtain ⟨lb,wsb,zu,hqb,hrb⟩:=bB rb;subst zu;have zb:b=Value.ref lb:=vb;subst zb;obtain ⟨itsb,rvb,plb,_⟩:=I.tuple hqb;have ilb:s.heap.IsTuple lb itsb.toArray:=plb
   have e:eqD (.bl x) (.tup y)=eqD _ _:=rfl
   unfold eqD
   exact RcNeAt.bool_tuple x ilb (Nat.lt_of_le_of_lt (Nat.le_add_right _ _) hu)
  | lst y =>
   obtain ⟨lb,wsb,zu,hqb,hrb⟩:=bQ.mp rb;subst zu;have zb:b=Value.ref lb:=vb;subst zb;obtain ⟨itsb,rvb,plb,_⟩:=I.list hqb;have ilb:=plb.isList
   have e:eqD (.bl x) (.lst y)=eqD _ _:=rfl
   unfold eqD
   exact RcNeAt.bool_list x ilb (Nat.lt_of_le_of_lt (Nat.le_add_right _ _) hu)
 | .int x,y,A,v,u,a,b,ra,rb,va,vb,hu,px,py=>by
  have zv:=aQ.mp ra;subst zv;obtain ⟨ta,za⟩:∃ t,a=Value.int x t:=va;subst za
  cases y with
  | dct _ _ _=>simp at py
  | ins _ _ _=>simp at py
  | exn _ _ _=>simp at py
  | non =>
   have zu:=bW.mp rb;subst zu;have zb:b=Value.none:=vb;subst zb
   have e:eqD (.int x) (.non)=eqD _ _:=rfl
   unfold eqD
   exact RcNeAt.int_none x ta
  | bl y =>
   have zu:=bD.mp rb;subst zu;have zb:b=Value.bool y:=vb;subst zb
   have e:eqD (.int x) (.bl y)=eqD _ _:=rfl
   unfold eqD
   exact RcNeAt.int_bool x ta y
  | int y =>
   have zu:=aQ.mp rb;subst zu;obtain ⟨tb,zb⟩:∃ t,b=Value.int y t:=vb;subst zb
   have e:eqD (.int x) (.int y)=eqD _ _:=rfl
   unfold eqD
   exact RcNeAt.int_int x ta y tb
  | str y =>
   have zu:=bJ.mp rb;subst zu;obtain ⟨tb,zb⟩:∃ t,b=Value.str ⟨y.toArray⟩ t:=vb;subst zb
   have e:eqD (.int x) (.str y)=eqD _ _:=rfl
   unfold eqD
   exact RcNeAt.int_str x ta _ tb
  | tup y =>
   obtain ⟨lb,wsb,zu,hqb,hrb⟩:=bB rb;subst zu;have zb:b=Value.ref lb:=vb;subst zb;obtain ⟨itsb,rvb,plb,_⟩:=I.tuple hqb;have ilb:s.heap.IsTuple lb itsb.toArray:=plb
   have e:eqD (.int x) (.tup y)=eqD _ _:=rfl
   unfold eqD
   exact RcNeAt.int_tuple x ta ilb (Nat.lt_of_le_of_lt (Nat.le_add_right _ _) hu)
  | lst y =>
   obtain ⟨lb,wsb,zu,hqb,hrb⟩:=bQ.mp rb;subst zu;have zb:b=Value.ref lb:=vb;subst zb;obtain ⟨itsb,rvb,plb,_⟩:=I.list hqb;have ilb:=plb.isList
   have e:eqD (.int x) (.lst y)=eqD _ _:=rfl
   unfold eqD
   exact RcNeAt.int_list x ta ilb (Nat.lt_of_le_of_lt (Nat.le_add_right _ _) hu)
 | .str x,y,A,v,u,a,b,ra,rb,va,vb,hu,px,py=>by
  have zv:=bJ.mp ra;subst zv;obtain ⟨ta,za⟩:∃ t,a=Value.str ⟨x.toArray⟩ t:=va;subst za
  cases y with
  | dct _ _ _=>simp at py
  | ins _ _ _=>simp at py
  | exn _ _ _=>simp at py
  | non =>
   have zu:=bW.mp rb;subst zu;have zb:b=Value.none:=vb;subst zb
   have e:eqD (.str x) (.non)=eqD _ _:=rfl
   unfold eqD
   exact RcNeAt.str_none _ ta
  | bl y =>
   have zu:=bD.mp rb;subst zu;have zb:b=Value.bool y:=vb;subst zb
   have e:eqD (.str x) (.bl y)=eqD _ _:=rfl
   unfold eqD
   exact RcNeAt.str_bool _ ta y
  | int y =>
   have zu:=aQ.mp rb;subst zu;obtain ⟨tb,zb⟩:∃ t,b=Value.int y t:=vb;subst zb
   have e:eqD (.str x) (.int y)=eqD _ _:=rfl
   unfold eqD
   exact RcNeAt.str_int _ ta y tb
  | str y =>
   have zu:=bJ.mp rb;subst zu;obtain ⟨tb,zb⟩:∃ t,b=Value.str ⟨y.toArray⟩ t:=vb;subst zb
   have e:eqD (.str x) (.str y)=((⟨x.toArray⟩:Str)==⟨y.toArray⟩):=by rw [<-str_beq];unfold eqD;simp
   rw [e]
   exact RcNeAt.str_str _ ta _ tb
  | tup y =>
   obtain ⟨lb,wsb,zu,hqb,hrb⟩:=bB rb;subst zu;have zb:b=Value.ref lb:=vb;subst zb;obtain ⟨itsb,rvb,plb,_⟩:=I.tuple hqb;have ilb:s.heap.IsTuple lb itsb.toArray:=plb
   have e:eqD (.str x) (.tup y)=eqD _ _:=rfl
   unfold eqD
   exact RcNeAt.str_tuple _ ta ilb (Nat.lt_of_le_of_lt (Nat.le_add_right _ _) hu)
  | lst y =>
   obtain ⟨lb,wsb,zu,hqb,hrb⟩:=bQ.mp rb;subst zu;have zb:b=Value.ref lb:=vb;subst zb;obtain ⟨itsb,rvb,plb,_⟩:=I.list hqb;have ilb:=plb.isList
   have e:eqD (.str x) (.lst y)=eqD _ _:=rfl
   unfold eqD
   exact RcNeAt.str_list _ ta ilb (Nat.lt_of_le_of_lt (Nat.le_add_right _ _) hu)
 | .tup x,y,A,v,u,a,b,ra,rb,va,vb,hu,px,py=>by
  obtain ⟨la,wsa,zv,hqa,hra⟩:=bB ra;subst zv;have za:a=Value.ref la:=va;subst za;obtain ⟨itsa,rva,pla,_⟩:=I.tuple hqa;have ila:s.heap.IsTuple la itsa.toArray:=pla
  cases y with
  | dct _ _ _=>simp at py
  | ins _ _ _=>simp at py
  | exn _ _ _=>simp at py
  | non =>
   have zu:=bW.mp rb;subst zu;have zb:b=Value.none:=vb;subst zb
   have e:eqD (.tup x) (.non)=eqD _ _:=rfl
   unfold eqD
   exact RcNeAt.tuple_none ila (Nat.lt_of_le_of_lt (Nat.le_add_right _ _) hu)
  | bl y =>
   have zu:=bD.mp rb;subst zu;have zb:b=Value.bool y:=vb;subst zb
   have e:eqD (.tup x) (.bl y)=eqD _ _:=rfl
   unfold eqD
   exact RcNeAt.tuple_bool y ila (Nat.lt_of_le_of_lt (Nat.le_add_right _ _) hu)
  | int y =>
   have zu:=aQ.mp rb;subst zu;obtain ⟨tb,zb⟩:∃ t,b=Value.int y t:=vb;subst zb
   have e:eqD (.tup x) (.int y)=eqD _ _:=rfl
   unfold eqD
   exact RcNeAt.tuple_int y tb ila (Nat.lt_of_le_of_lt (Nat.le_add_right _ _) hu)
  | str y =>
   have zu:=bJ.mp rb;subst zu;obtain ⟨tb,zb⟩:∃ t,b=Value.str ⟨y.toArray⟩ t:=vb;subst zb
   have e:eqD (.tup x) (.str y)=eqD _ _:=rfl
   unfold eqD
   exact RcNeAt.tuple_str _ tb ila (Nat.lt_of_le_of_lt (Nat.le_add_right _ _) hu)
  | tup y =>
   obtain ⟨lb,wsb,zu,hqb,hrb⟩:=bB rb;subst zu;have zb:b=Value.ref lb:=vb;subst zb;obtain ⟨itsb,rvb,plb,_⟩:=I.tuple hqb;have ilb:s.heap.IsTuple lb itsb.toArray:=plb
   have n1:itsa.length=x.length:=by rw [<-rva.length,hra.length]
   have n2:itsb.length=y.length:=by rw [<-rvb.length,hrb.length]
   have e:eqD (.tup x) (.tup y)=dU x y:=by conv=>lhs;unfold eqD
   have hd:dep (.tup x)=dM x+1:=by conv=>lhs;unfold dep
   rw [hd] at hu
   have hin:A.in1.units+dM x < cLine:=by show A.units+1+dM x < cLine;omega
   rw [e]
   have e3:dU x y=((List.range (min itsa.toArray.size itsb.toArray.size)).all (pairE x y)&&itsa.toArray.size==itsb.toArray.size):=by rw [<-lQ,List.size_toArray,List.size_toArray,n1,n2]
   rw [e3]
   refine  (RcNeAt.tuples ila ilb (by omega) fun j j1 j2=>?_)
   have:=jZ I x y A.in1 wsa wsb itsa itsb hra hrb rva rvb hin (by simpa using px) (by simpa using py) j (by simpa using j1) (by simpa using j2)
   simpa using this
  | lst y =>
   obtain ⟨lb,wsb,zu,hqb,hrb⟩:=bQ.mp rb;subst zu;have zb:b=Value.ref lb:=vb;subst zb;obtain ⟨itsb,rvb,plb,_⟩:=I.list hqb;have ilb:=plb.isList
   have e:eqD (.tup x) (.lst y)=eqD _ _:=rfl
   unfold eqD
   exact RcNeAt.tuple_list ila ilb (Nat.lt_of_le_of_lt (Nat.le_add_right _ _) hu)
 | .lst x,y,A,v,u,a,b,ra,rb,va,vb,hu,px,py=>by
  obtain ⟨la,wsa,zv,hqa,hra⟩:=bQ.mp ra;subst zv;have za:a=Value.ref la:=va;subst za;obtain ⟨itsa,rva,pla,_⟩:=I.list hqa;have ila:=pla.isList
  cases y with
  | dct _ _ _=>simp at py
  | ins _ _ _=>simp at py
  | exn _ _ _=>simp at py
  | non =>
   have zu:=bW.mp rb;subst zu;have zb:b=Value.none:=vb;subst zb
   have e:eqD (.lst x) (.non)=eqD _ _:=rfl
   unfold eqD
   exact RcNeAt.list_none ila (Nat.lt_of_le_of_lt (Nat.le_add_right _ _) hu)
  | bl y =>
   have zu:=bD.mp rb;subst zu;have zb:b=Value.bool y:=vb;subst zb
   have e:eqD (.lst x) (.bl y)=eqD _ _:=rfl
   unfold eqD
   exact RcNeAt.list_bool y ila (Nat.lt_of_le_of_lt (Nat.le_add_right _ _) hu)
  | int y =>
   have zu:=aQ.mp rb;subst zu;obtain ⟨tb,zb⟩:∃ t,b=Value.int y t:=vb;subst zb
   have e:eqD (.lst x) (.int y)=eqD _ _:=rfl
   unfold eqD
   exact RcNeAt.list_int y tb ila (Nat.lt_of_le_of_lt (Nat.le_add_right _ _) hu)
  | str y =>
   have zu:=bJ.mp rb;subst zu;obtain ⟨tb,zb⟩:∃ t,b=Value.str ⟨y.toArray⟩ t:=vb;subst zb
   have e:eqD (.lst x) (.str y)=eqD _ _:=rfl
   unfold eqD
   exact RcNeAt.list_str _ tb ila (Nat.lt_of_le_of_lt (Nat.le_add_right _ _) hu)
  | tup y =>
   obtain ⟨lb,wsb,zu,hqb,hrb⟩:=bB rb;subst zu;have zb:b=Value.ref lb:=vb;subst zb;obtain ⟨itsb,rvb,plb,_⟩:=I.tuple hqb;have ilb:s.heap.IsTuple lb itsb.toArray:=plb
   have e:eqD (.lst x) (.tup y)=eqD _ _:=rfl
   unfold eqD
   exact RcNeAt.list_tuple ila ilb (Nat.lt_of_le_of_lt (Nat.le_add_right _ _) hu)
  | lst y =>
   obtain ⟨lb,wsb,zu,hqb,hrb⟩:=bQ.mp rb;subst zu;have zb:b=Value.ref lb:=vb;subst zb;obtain ⟨itsb,rvb,plb,_⟩:=I.list hqb;have ilb:=plb.isList
   have n1:itsa.length=x.length:=by rw [<-rva.length,hra.length]
   have n2:itsb.length=y.length:=by rw [<-rvb.length,hrb.length]
   have e:eqD (.lst x) (.lst y)=dU x y:=by conv=>lhs;unfold eqD
   have hd:dep (.lst x)=dM x+1:=by conv=>lhs;unfold dep
   rw [hd] at hu
   have hin:A.in1.units+dM x < cLine:=by show A.units+1+dM x < cLine;omega
   rw [e]
   by_cases hsz:itsa.length=itsb.length
   ·have e3:dU x y=(List.range itsa.toArray.size).all (pairE x y):=by rw [<-lQ,List.size_toArray,n1];simp [show x.length=y.length by omega]
    rw [e3]
    refine  (RcNeAt.lists ila ilb (by simpa using hsz) (by omega) fun j j1 j2=>?_)
    have:=jZ I x y A.in1 wsa wsb itsa itsb hra hrb rva rvb hin (by simpa using px) (by simpa using py) j (by simpa using j1) (by simpa using j2)
    simpa using this
   ·rw [vN (by omega)]
    exact  (RcNeAt.lists_lengths ila ilb (by simpa using hsz) (by omega))
 | .dct _ _ _,y,A,v,u,a,b,ra,rb,va,vb,hu,px,py=>by simp at px
 | .ins _ _ _,y,A,v,u,a,b,ra,rb,va,vb,hu,px,py=>by simp at px
 | .exn _ _ _,y,A,v,u,a,b,ra,rb,va,vb,hu,px,py=>by simp at px
end
end Pu
namespace Pu
open PySem PySem.Spec PyProof.Rows L2
section
variable{X:Cx}{B:List Addr}{a b e:Expr}{f g:Ex}{pos:Pos}
theorem iJ.rep{K:PySem.W.Frag}{A:List Addr}{H:Hp}{d:D}{v:V}(h:iJ K A H d v):Rep K H d v:=by
 rcases h with h | ⟨a,k,o,ds,vs,e1,e2,e3,ko,q⟩
 ·exact h.mono (bM _ _)
 ·subst e1 e2
  exact ko.rep e3 (q.mono (bM _ _))
def aQx(K:PySem.W.Frag)(neg:Bool):R2:=fun v u H Q=>∃ x y,Rep K H x v/\Rep K H y u/\(dep x<=64/\plain x=true/\plain y=true)/\Q (.bl (if neg then !eqD x y else eqD x y)) H
theorem eO(hu:X.A.units+64 < cLine):OpR X (compareOp .Eq) (aQx X.K false):=by
 intro pins s σ H v u a b Q I ra rb h
 obtain ⟨x,y,rx,ry,hd,q⟩:=h
 exact aO4 I x y X.A v u a b rx ry ra rb (by omega) hd.2.1 hd.2.2 X.prog X.w X.xe _ ⟨.bl _,H,I,rfl,q⟩
theorem yV(hu:X.A.units+64 < cLine):OpR X (compareOp .NotEq) (aQx X.K true):=by
 intro pins s σ H v u a b Q I ra rb h
 obtain ⟨x,y,rx,ry,hd,q⟩:=h
 exact aO5 I x y X.A v u a b rx ry ra rb (by omega) hd.2.1 hd.2.2 X.prog X.w X.xe _ ⟨.bl _,H,I,rfl,q⟩
theorem eQ{K:PySem.W.Frag}:uB K (aQx K false) dEq:=by
 intro A H x y d v u Q w rx ry e q
 obtain ⟨c,e⟩:=aJ e
 cases e
 exact ⟨x,y,rx.rep,ry.rep,c,q _ H (aZ.refl _) (bD.mpr rfl)⟩
theorem yW{K:PySem.W.Frag}:uB K (aQx K true) dNe:=by
 intro A H x y d v u Q w rx ry e q
 obtain ⟨c,e⟩:=aJ e
 cases e
 exact ⟨x,y,rx.rep,ry.rep,c,q _ H (aZ.refl _) (bD.mpr rfl)⟩
def tyD:D->String
 | .non => "NoneType"
 | .bl _ => "bool"
 | .int _ => "int"
 | .str _ => "str"
 | .tup _ => "tuple"
 | .lst _ => "list"
 | .dct _ _ _ => "dict"
 | .ins _ _ _ => ""
 | .exn _ _ _ => ""
structure IsT(T:String)(p:D->Bool):Prop where
 boot:bootBuiltins T=some (.type T)
 ans:∀ (K:PySem.W.Frag) (d:D),aAo d=true->PySem.W.kitOne K (.type (tyD d)) (.type T)=some (p d)
theorem aO6{T:String}{p:D->Bool}(h:IsT T p):nR X (.builtin "isinstance") (fun xs H Q=>∃ v d,xs=[v,.ty T]/\aAo d=true/\Rep X.K H d v/\Q (.bl (p d)) H):=by
 intro pins s σ H xs us Q I r q
 obtain ⟨v,d,rfl,hbl,rd,q⟩:=q
 obtain ⟨u,u2,rfl,ru,ru2⟩:=r.two
 have e2:u2=Value.type T:=ru2
 subst e2
 have fin:∀ tk,EP X pins σ Q (.bool (p d)) { s with toks:=tk }:=fun tk=>⟨.bl (p d),H,I.tok tk,rfl,q⟩
 have e:=h.ans X.K d hbl
 cases d with
 | non=>have z:=bW.mp rd;subst z;have z:u=Value.none:=ru;subst z;exact PySem.W.kia_one PySem.W.kitx_none I.kIn True.intro e (fun z=>nomatch z) fin
 | bl x=>have z:=bD.mp rd;subst z;have z:u=Value.bool x:=ru;subst z;exact PySem.W.kia_one PySem.W.kitx_bool I.kIn True.intro e (fun z=>nomatch z) fin
 | int x=>have z:=aQ.mp rd;subst z;obtain ⟨t,z⟩:∃ t,u=Value.int x t:=ru;subst z;exact PySem.W.kia_one PySem.W.kitx_int I.kIn True.intro e (fun z=>nomatch z) fin
 | str x=>have z:=bJ.mp rd;subst z;obtain ⟨t,z⟩:∃ t,u=Value.str ⟨x.toArray⟩ t:=ru;subst z;exact PySem.W.kia_one PySem.W.kitx_str I.kIn True.intro e (fun z=>nomatch z) fin
 | tup x =>
  obtain ⟨l,vs,z,hq,_⟩:=bB rd;subst z
  have z:u=Value.ref l:=ru;subst z
  obtain ⟨its,_,⟨o,h1,h2,_⟩,_⟩:=I.tuple hq
  exact PySem.W.kia_one PySem.W.kitx_tuple I.kIn ⟨o,h1,h2⟩ e (fun z=>nomatch z) fin
 | lst x =>
  obtain ⟨l,vs,z,hq,_⟩:=bQ.mp rd;subst z
  have z:u=Value.ref l:=ru;subst z
  obtain ⟨its,_,⟨o,n,h1,h2,_⟩,_⟩:=I.list hq
  exact PySem.W.kia_one PySem.W.kitx_list I.kIn ⟨o,h1,h2⟩ e (fun z=>nomatch z) fin
 | dct t ks x =>
  obtain ⟨l,vs,z,hq,_⟩:=tV.mp rd;subst z
  have z:u=Value.ref l:=ru;subst z
  have hd:∃ o,s.heap.get? l=some o/\o.ExactDict:=by
   rcases hq with ⟨_,kvs,hq,_⟩ | ⟨_,kvs,hq,_⟩
   ·obtain ⟨_,_,vs',_,m⟩:kvs.length<=sizeLine/\(l==sysModules)=false/\∃ vs,KV kvs vs/\s.heap.DictOf (dD X.prog X.w) l vs:=I.hok l _ hq
    obtain ⟨o,es,n,h1,h2,_⟩:=m
    exact ⟨o,h1,h2⟩
   ·obtain ⟨_,_,xs,_,o,es,ep,h1,h2,_⟩:=I.hok l _ hq
    exact ⟨o,h1,h2⟩
  obtain ⟨o,h1,h2⟩:=hd
  exact PySem.W.kia_one PySem.W.kitx_dict I.kIn ⟨o,h1,h2.1⟩ e (fun z=>nomatch z) fin
 | ins _ _ _=>exact nomatch hbl
 | exn _ _ _=>exact nomatch hbl
theorem pO{T:Str}{S:String}{p:D->Bool}{p0 p1:Pos}(hT:IsT S p)(hm:X.mg "isinstance" = none)(hmT:X.mg T=none)(ha:PE X a (tP X.K B f))(hST:bootBuiltins T=some (.type S):=by first | rfl | exact hT.boot)(hg:Gl X "isinstance" := by rfl)(hgT:Gl X T:=by rfl)(hnT:T ≠ "__name__" := by decide)(hdT:(T==("__debug__" : Str))=false:=by decide)
  (hs:starEach [a,.Name T p1] X.env=(false,eval a X.env) :: starEach [.Name T p1] X.env:=by rfl) (hs2:starEach [.Name T p1] X.env=(false,eval (.Name T p1) X.env) :: starEach [] X.env:=by rfl) :
  PE X (.Call (.Name "isinstance" p0) [a,.Name T p1] [] pos) (tI X.K B (eB p f)):=by
 have hTy:PE X (.Name T p1) (tC (.ty S)):=aP4 hgT hmT hST rfl hnT hdT
 refine cT (vR (aO6 hT) hg hm boot_isinstance (fW ha (fW hTy mR hs2) hs) (he:=hs)) ?_
 rintro σ H Q ⟨A,st,d,rs,hd,q⟩
 obtain ⟨x,hx,h2⟩:=R.ok_of hd
 obtain ⟨hbl,h2⟩:=aJ h2
 cases h2
 exact ⟨A,st,x,rs,hx,fun v H1 s1 r1=>⟨v,x,rfl,hbl,r1.rep,q _ H1 s1 (bD.mpr rfl)⟩⟩
theorem ty_str:IsT "str" aPu:=⟨rfl,fun K d hb=>by cases d<;>first | (cases hb;done) | kernel_rfl⟩
theorem ty_bool:IsT "bool" aU9:=⟨rfl,fun K d hb=>by cases d<;>first | (cases hb;done) | kernel_rfl⟩
theorem ty_int:IsT "int" isIn:=⟨rfl,fun K d hb=>by cases d<;>first | (cases hb;done) | kernel_rfl⟩
theorem ty_list:IsT "list" aKe:=⟨rfl,fun K d hb=>by cases d<;>first | (cases hb;done) | kernel_rfl⟩
end
end Pu
namespace Pu
open PySem PySem.Spec PyProof.Rows L2 PySem.SeqAt PySem.StrLaws
theorem aHv(x y:List Nat)(i:Nat):Builtin.Str.subAt ⟨x.toArray⟩ ⟨y.toArray⟩ i=((x.drop i).take y.length==y):=by
 rw [subAt_eq]
 simp [Str.length]
theorem aFx(s sub:Str)(hi:Nat):∀ (l:List Nat) (st:Array Nat × Nat),1<=st.1.size->(forIn l st (occBody s sub hi 1)).run.fst=st.1
 | [],st,h=>rfl
 | a :: l,st,h=>by
  rw [List.forIn_cons]
  unfold occBody
  rw [if_neg (fun z=>by have:=z.1.1.1;omega)]
  exact aFx s sub hi l (st.1,st.2) h
theorem aFy(s sub:Str)(hi:Nat):∀ (l:List Nat) (free:Nat),(∀ i∈l,free<=i) ->
  (forIn l ((#[]:Array Nat),free) (occBody s sub hi 1)).run.fst.toList=(l.find? fun i=>decide (i+sub.length<=hi)&&Builtin.Str.subAt s sub i).toList
 | [],free,_=>rfl
 | a :: l,free,hf=>by
  rw [List.forIn_cons]
  have ha:free<=a:=hf a List.mem_cons_self
  by_cases hc:a+sub.length<=hi/\Builtin.Str.subAt s sub a=true
  ·have e:(decide (a+sub.length<=hi)&&Builtin.Str.subAt s sub a)=true:=by rw [hc.2,decide_eq_true hc.1];rfl
   rw [List.find?_cons_of_pos (p:=fun i=>decide (i+sub.length<=hi)&&Builtin.Str.subAt s sub i) e]
   have e2:occBody s sub hi 1 a ((#[]:Array Nat),free)=pure (ForInStep.yield ((#[]:Array Nat).push a,a+sub.length)):=by
    unfold occBody
    exact if_pos ⟨⟨⟨by simp,ha⟩,hc.1⟩,hc.2⟩
   rw [e2]
   show (forIn l (((#[]:Array Nat).push a),a+sub.length) (occBody s sub hi 1)).run.fst.toList=_
   rw [aFx s sub hi l _ (by simp)]
   rfl
  ·have e:¬ (decide (a+sub.length<=hi)&&Builtin.Str.subAt s sub a)=true:=fun z=>hc (by simpa using z)
   rw [List.find?_cons_of_neg (p:=fun i=>decide (i+sub.length<=hi)&&Builtin.Str.subAt s sub i) e]
   have e2:occBody s sub hi 1 a ((#[]:Array Nat),free)=pure (ForInStep.yield ((#[]:Array Nat),free)):=by
    unfold occBody
    exact if_neg fun h=>hc ⟨h.1.2,h.2⟩
   rw [e2]
   exact aFy s sub hi l free fun i hi'=>hf i (List.mem_cons_of_mem _ hi')
theorem tZ(x y:List Nat)(lo:Nat):Builtin.Str.occurrences ⟨x.toArray⟩ ⟨y.toArray⟩ lo (⟨x.toArray⟩:Str).length 1=(eY x y lo).toList:=by
 rw [occ_eq,aFy _ _ _ _ _ (fun i hi=>by simp [List.mem_range'] at hi;omega)]
 unfold eY
 simp only [aHv,str_len]
theorem aQy(x y:List Nat):Txt.find ⟨x.toArray⟩ ⟨y.toArray⟩=oH (eY x y 0):=by
 unfold Txt.find
 rw [tZ]
 cases eY x y 0<;>rfl
theorem aO7(x y:List Nat)(i:Int)(h:0<=i):Txt.find3 ⟨x.toArray⟩ ⟨y.toArray⟩ i=oH (eY x y i.toNat):=by
 have e:fromIndex (⟨x.toArray⟩:Str).length i=i.toNat:=by unfold fromIndex;rw [if_neg (by omega)];omega
 unfold Txt.find3
 rw [e,tZ]
 cases eY x y i.toNat<;>rfl
section
variable{X:Cx}{B:List Addr}{a b e o:Expr}{f g:Ex}{pos:Pos}
theorem aYs{name:Str}{id:String}{m:Mop}{r:Exs}{es:List Expr}{apos cpos:Pos}{q:V->List V->Hp->VK->Prop}(slot:Slot "str" name id)(hty:typeOf (.builtin id)=pure (.type "method_descriptor"))(hm:MtR X id q)
  (hk:∀ x xs d,m x xs = .ok d->∃ s,x = .str s) (sem:∀ (A:List Addr) (H:Hp) (x d:D) (xs:List D) (v:V) (vs:List V) (Q:VK),Own A H->iJ X.K A H x v->bH X.K (hide A H) xs vs->m x xs = .ok d->(∀ w H',aZ H H'->Rep X.K (hide A H') d w->Q w H')->q v vs H Q)
  (ho:PE X o (tP X.K B f)) (ha:PA X (e :: es) (tA X.K B r))
  (hbase:attributeBase o name X.env (eval o X.env)=eval o X.env:=by rfl)
  (hfew:((backTo cpos (starEach (e :: es) X.env)).all (fun x => !x.1)&&(backToKw cpos (keywordEach [] X.env)).all (fun x=>x.1.isSome)
   && decide ((e :: es).length+([]:List Keyword).length+(if ([]:List Keyword).isEmpty then 0 else 1) < 30))=true:=by rfl)
  (hline:(apos.endLine==cpos.line)=true:=by rfl) (hs:starEach (e :: es) X.env=(false,eval e X.env) :: starEach es X.env:=by rfl) (hplain:(backTo cpos (starEach es X.env)).any (·.1)=false:=by rfl) :
  PE X (.Call (.Attribute o name apos) (e :: es) [] cpos) (tI X.K B (eMt m f r)):=by
 refine cT (aM6 PySem.F.plainAttrs_str slot hty hm ho ha hbase hfew hline hs hplain) ?_
 rintro σ H Q ⟨A,st,d,rs,hd,k⟩
 obtain ⟨x,hx,h2⟩:=R.ok_of hd
 obtain ⟨xs,hxs,h3⟩:=R.ok_of h2
 obtain ⟨s,rfl⟩:=hk x xs d h3
 refine ⟨A,st,_,rs,hx,fun v H1 s1 r1=>⟨?_,A,st,xs,rs.mono s1,hxs,fun vs H2 s2 r2=>?_⟩⟩
 ·rw [r1.str];rfl
 ·exact sem (A++B) H2 _ d xs v vs Q (rs.own.mono (s1.trans s2)) (r1.mono s2) r2 h3 fun w H' s' r'=>k w H' (s1.trans (s2.trans s')) r'
theorem aJf{K:PySem.W.Frag}{H:Hp}{d:D}{vs:List V}(h:bH K H [d] vs):∃ v,vs=[v]/\Rep K H d v:=by
 obtain ⟨v,r,rfl,h1,h2⟩:=bV.mp h
 rw [cP.mp h2]
 exact ⟨v,rfl,h1⟩
theorem aYt{K:PySem.W.Frag}{H:Hp}{d e:D}{vs:List V}(h:bH K H [d,e] vs):∃ v u,vs=[v,u]/\Rep K H d v/\Rep K H e u:=by
 obtain ⟨v,r,rfl,h1,h2⟩:=bV.mp h
 obtain ⟨u,rfl,h3⟩:=aJf h2
 exact ⟨v,u,rfl,h1,h3⟩
theorem aQz:MtR X "str.find" (fun x vs H Q=>∃ (s:List Nat),x = .str ⟨s.toArray⟩/\((∃ y:List Nat,vs=[.str ⟨y.toArray⟩]/\Q (.int (oH (eY s y 0))) H)\/∃ (y:List Nat) (i:Int),vs=[.str ⟨y.toArray⟩,.int i]/\0<=i/\Q (.int (oH (eY s y i.toNat))) H)):=by
 intro pins s σ H x vs v us Q I rx rv h
 obtain ⟨z,rfl,h⟩:=h
 obtain ⟨t,rfl⟩:=rx
 rcases h with ⟨y,rfl,q⟩ | ⟨y,i,rfl,hi,q⟩
 ·obtain ⟨u,rfl,t2,rfl⟩:=rv.one
  exact SC.find ⟨.int _,H,I.tok _,⟨_,rfl⟩,by rw [aQy];exact q⟩
 ·obtain ⟨u,u2,rfl,⟨t2,rfl⟩,⟨t3,rfl⟩⟩:=rv.two
  exact SC.find3 ⟨.int _,H,I.tok _,⟨_,rfl⟩,by rw [aO7 _ _ _ hi];exact q⟩
theorem aO8:MtR X "str.index" (fun x vs H Q=>∃ (s y:List Nat) (i:Nat),x = .str ⟨s.toArray⟩/\vs=[.str ⟨y.toArray⟩]/\eY s y 0=some i/\Q (.int i) H):=by
 intro pins s σ H x vs v us Q I rx rv h
 obtain ⟨z,y,i,rfl,rfl,hi,q⟩:=h
 obtain ⟨t,rfl⟩:=rx
 obtain ⟨u,rfl,t2,rfl⟩:=rv.one
 exact SC.index (i:=i) (rest:=[]) (by rw [tZ,hi];rfl) ⟨.int _,H,I.tok _,⟨_,rfl⟩,q⟩
end
end Pu
namespace Pu
open PySem PySem.Spec PyProof.Rows L2 PySem.SeqAt
section
variable{X:Cx}{B:List Addr}{a b e o:Expr}{f g:Ex}{pos:Pos}{r:Exs}{es:List Expr}{apos cpos:Pos}
theorem aVj(ho:PE X o (tP X.K B f))(ha:PA X (e :: es) (tA X.K B r))(hbase:attributeBase o "find" X.env (eval o X.env)=eval o X.env:=by rfl)
  (hfew:((backTo cpos (starEach (e :: es) X.env)).all (fun x => !x.1)&&(backToKw cpos (keywordEach [] X.env)).all (fun x=>x.1.isSome)
   && decide ((e :: es).length+([]:List Keyword).length+(if ([]:List Keyword).isEmpty then 0 else 1) < 30))=true:=by rfl)
  (hline:(apos.endLine==cpos.line)=true:=by rfl) (hs:starEach (e :: es) X.env=(false,eval e X.env) :: starEach es X.env:=by rfl) (hplain:(backTo cpos (starEach es X.env)).any (·.1)=false:=by rfl) :
  PE X (.Call (.Attribute o "find" apos) (e :: es) [] cpos) (tI X.K B (eMt aCq f r)):=by
 refine aYs (m:=aCq) PySem.F.slot_str_find PySem.F.type_str_find aQz (fun x xs d h=>?_) (fun A H x d xs v vs Q w rx rxs h k=>?_) ho ha hbase hfew hline hs hplain
 ·cases x<;>first | exact ⟨_,rfl⟩ | exact nomatch h
 ·unfold aCq at h
  split at h
  ·cases h
   obtain ⟨u,rfl,ru⟩:=aJf rxs
   exact ⟨_,rx.str,.inl ⟨_,by rw [bJ.mp ru],k _ H (aZ.refl _) (aQ.mpr rfl)⟩⟩
  ·obtain ⟨c,h⟩:=aJ h
   cases h
   obtain ⟨u,u2,rfl,ru,ru2⟩:=aYt rxs
   exact ⟨_,rx.str,.inr ⟨_,_,by rw [bJ.mp ru,aQ.mp ru2],c,k _ H (aZ.refl _) (aQ.mpr rfl)⟩⟩
  ·cases h
theorem aR0(ho:PE X o (tP X.K B f))(ha:PA X (e :: es) (tA X.K B r))(hbase:attributeBase o "index" X.env (eval o X.env)=eval o X.env:=by rfl)
  (hfew:((backTo cpos (starEach (e :: es) X.env)).all (fun x => !x.1)&&(backToKw cpos (keywordEach [] X.env)).all (fun x=>x.1.isSome)
   && decide ((e :: es).length+([]:List Keyword).length+(if ([]:List Keyword).isEmpty then 0 else 1) < 30))=true:=by rfl)
  (hline:(apos.endLine==cpos.line)=true:=by rfl) (hs:starEach (e :: es) X.env=(false,eval e X.env) :: starEach es X.env:=by rfl) (hplain:(backTo cpos (starEach es X.env)).any (·.1)=false:=by rfl) :
  PE X (.Call (.Attribute o "index" apos) (e :: es) [] cpos) (tI X.K B (eMt xY f r)):=by
 refine aYs (m:=xY) PySem.F.slot_str_index PySem.F.type_str_index aO8 (fun x xs d h=>?_) (fun A H x d xs v vs Q w rx rxs h k=>?_) ho ha hbase hfew hline hs hplain
 ·cases x<;>first | exact ⟨_,rfl⟩ | exact nomatch h
 ·unfold xY at h
  split at h
  ·obtain ⟨i,hi,h⟩:=R.ok_of h
   cases h
   obtain ⟨u,rfl,ru⟩:=aJf rxs
   exact ⟨_,_,i,rx.str,by rw [bJ.mp ru],qM hi,k _ H (aZ.refl _) (aQ.mpr rfl)⟩
  ·cases h
theorem aYu(ha:PE X a (tP X.K B f)):PE X (.UnaryOp .USub a pos) (tI X.K B (e1 aU8 f)):=by
 refine cT (aWw aTu ha) ?_
 rintro σ H Q ⟨A,st,d,rs,hd,q⟩
 obtain ⟨x,hx,h2⟩:=R.ok_of hd
 refine ⟨A,st,x,rs,hx,fun v H1 s1 r1=>?_⟩
 cases x<;>first | (cases h2;done) | skip
 cases h2
 exact ⟨_,r1.int,q _ H1 s1 (aQ.mpr rfl)⟩
def aYv(neg:Bool):R2:=fun x y H Q=>(y = .non/\Q (.bl (if neg then !decide (x = .non) else decide (x = .non))) H)\/∃ c d,x = .bl c/\y = .bl d/\Q (.bl (if neg then !(c==d) else (c==d))) H
theorem aKx:OpR X (compareOp .IsNot) (aYv true):=by
 intro pins s σ H x y v u Q I rx ry h
 rcases h with h | ⟨c,d,rfl,rfl,q⟩
 ·exact aPc pins s σ H x y v u Q I rx ry h
 ·cases rx
  cases ry
  exact isnot_bool ⟨.bl (!(c==d)),H,I,rfl,q⟩
theorem aKy{K:PySem.W.Frag}:uB K (aYv true) aH0:=by
 intro A H x y d v u Q w rx ry e q
 cases y<;>first | (cases x<;>(cases e;done)) | skip
 ·cases e
  exact .inl ⟨ry.non,q _ H (aZ.refl _) (bD.mpr (by rw [<-aQn rx];rfl))⟩
 ·cases x<;>first | (cases e;done) | skip
  cases e
  exact .inr ⟨_,_,rx.bl,ry.bl,q _ H (aZ.refl _) (bD.mpr rfl)⟩
open Classical in
noncomputable def uC(K:PySem.W.Frag)(H:Hp)(x:D)(u:Value):Bool:=if ∃ d z,Rep K H d z/\RelV z u/\plain d=true/\eqD d x=true then true else false
theorem aJg{pins:List (Addr × Obj)}{σ:LSt}{H:Hp}{s:Shared}(I:Inv X pins σ H s){x d:D}{z:V}{u:Value}(r:Rep X.K H d z)(rz:RelV z u)(pd:plain d=true):uC X.K H x u=eqD d x:=by
 unfold uC
 split
 ·rename_i h
  obtain ⟨d',z',r',rz',pd',e⟩:=h
  have:=RelV.inj rz rz'
  subst this
  rw [Rep.inj I pd pd' r r',e]
 ·rename_i h
  cases hb:eqD d x with
  | false=>rfl
  | true=>exact (h ⟨d,z,r,rz,pd,hb⟩).elim
theorem aBt{pins:List (Addr × Obj)}{σ:LSt}{H:Hp}{s:Shared}(I:Inv X pins σ H s){x:D}:∀ {ds:List D} {zs:List V} {us:List Value},bH X.K H ds zs->Vals zs us->cV ds=true->us.any (uC X.K H x)=inD x ds
 | [],zs,us,r,v,_=>by
  have e:=cP.mp r;subst e;cases v;rfl
 | d :: ds,zs,us,r,v,p=>by
  obtain ⟨z,r',e,h1,h2⟩:=bV.mp r;subst e
  simp only [lL,Bool.and_eq_true] at p
  cases v with
  | cons v vs =>
   rw [List.any_cons,aJg I h1 v p.1,aBt I h2 vs p.2]
   unfold inD
   rw [List.any_cons]
theorem aBu{pins:List (Addr × Obj)}{σ:LSt}{H:Hp}{s:Shared}(I:Inv X pins σ H s){A:Around}{x:D}{zx:V}{ux:Value}(rx:Rep X.K H x zx)(vx:RelV zx ux)(px:plain x=true):∀ {ds:List D} {zs:List V} {us:List Value},bH X.K H ds zs->Vals zs us->cV ds=true->A.units+dM ds < cLine->∀ u∈us,EqAt A s u ux (uC X.K H x u)
 | [],zs,us,r,v,_,_=>by
  have e:=cP.mp r;subst e;cases v;exact fun u hu=>nomatch hu
 | d :: ds,zs,us,r,v,p,hd=>by
  obtain ⟨z,r',e,h1,h2⟩:=bV.mp r;subst e
  simp only [lL,Bool.and_eq_true] at p
  rw [aKf] at hd
  cases v with
  | cons v vs =>
   intro u hu
   rcases List.mem_cons.mp hu with rfl | hu
   ·rw [aJg I h1 v p.1]
    exact aFw I d x A z zx _ ux h1 rx v vx (by omega) p.1 px
   ·exact aBu I rx vx px h2 vs p.2 (by omega) u hu
def aR1(K:PySem.W.Frag)(neg:Bool):R2:=fun v u H Q=>(∃ a o,u = .ref a/\rG H a v o/\Q (.bl (if neg then !o.isSome else o.isSome)) H)\/(∃ x ds zs p,u = .ref p/\(SqL K H p zs\/SqT K H p zs)/\Rep K H x v/\bH K H ds zs/\dM ds<=60/\plain x=true/\cV ds=true/\Q (.bl (if neg then !inD x ds else inD x ds)) H) \/
 ∃ i j:List Nat,v = .str ⟨i.toArray⟩/\u = .str ⟨j.toArray⟩/\Q (.bl (if neg then !(eY j i 0).isSome else (eY j i 0).isSome)) H
theorem some_of(x y:List Nat):(!(Builtin.Str.occurrences ⟨x.toArray⟩ ⟨y.toArray⟩ 0 (⟨x.toArray⟩:Str).length 1).isEmpty)=(eY x y 0).isSome:=by
 rw [tZ]
 cases eY x y 0<;>rfl
theorem aEh(hu:X.A.units+64 < cLine):OpR X (compareOp .In) (aR1 X.K false):=by
 intro pins s σ H v u a b Q I ra rb h
 rcases h with ⟨p,o,rfl,g,q⟩ | ⟨x,ds,zs,p,rfl,hq,rx,rds,hd,px,pd,q⟩ | ⟨i,j,rfl,rfl,q⟩
 ·cases rb
  exact bAp (by omega) I g ra fun s' I'=>⟨.bl _,H,I',rfl,q⟩
 ·cases rb
  have hin:X.A.in1.units+dM ds < cLine:=by show X.A.units+1+dM ds < cLine;omega
  rcases hq with hq | hq
  ·obtain ⟨its,r,pl,hz⟩:=I.list hq
   refine SeqAt.in_listAt (uC X.K H x) pl.isList (fun w hw=>aBu I rx ra px rds r pd hin w (by simpa using hw)) ⟨.bl _,H,I,rfl,?_⟩
   rw [show its.toArray.any (uC X.K H x)=its.any (uC X.K H x) by simp,aBt I rds r pd]
   exact q
  ·obtain ⟨its,r,pl,hz⟩:=I.tuple hq
   refine SeqAt.in_tupleAt (uC X.K H x) pl (fun w hw=>aBu I rx ra px rds r pd hin w (by simpa using hw)) ⟨.bl _,H,I,rfl,?_⟩
   rw [show its.toArray.any (uC X.K H x)=its.any (uC X.K H x) by simp,aBt I rds r pd]
   exact q
 ·refine aK3 pins s σ H _ _ a b Q I ra rb ⟨_,_,rfl,rfl,?_⟩
  rw [some_of]
  exact q
theorem kE(hu:X.A.units+64 < cLine):OpR X (compareOp .NotIn) (aR1 X.K true):=by
 intro pins s σ H v u a b Q I ra rb h
 rcases h with ⟨p,o,rfl,g,q⟩ | ⟨x,ds,zs,p,rfl,hq,rx,rds,hd,px,pd,q⟩ | ⟨i,j,rfl,rfl,q⟩
 ·cases rb
  exact aPr (by omega) I g ra fun s' I'=>⟨.bl _,H,I',rfl,q⟩
 ·cases rb
  have hin:X.A.in1.units+dM ds < cLine:=by show X.A.units+1+dM ds < cLine;omega
  rcases hq with hq | hq
  ·obtain ⟨its,r,pl,hz⟩:=I.list hq
   refine SeqAt.notIn_listAt (uC X.K H x) pl.isList (fun w hw=>aBu I rx ra px rds r pd hin w (by simpa using hw)) ⟨.bl _,H,I,rfl,?_⟩
   rw [show its.toArray.any (uC X.K H x)=its.any (uC X.K H x) by simp,aBt I rds r pd]
   exact q
  ·obtain ⟨its,r,pl,hz⟩:=I.tuple hq
   refine SeqAt.notIn_tupleAt (uC X.K H x) pl (fun w hw=>aBu I rx ra px rds r pd hin w (by simpa using hw)) ⟨.bl _,H,I,rfl,?_⟩
   rw [show its.toArray.any (uC X.K H x)=its.any (uC X.K H x) by simp,aBt I rds r pd]
   exact q
 ·refine aDl pins s σ H _ _ a b Q I ra rb ⟨_,_,rfl,rfl,?_⟩
  rw [some_of]
  exact q
theorem aEi{K:PySem.W.Frag}:uB K (aR1 K false) dIn:=by
 intro A H x y d v u Q w rx ry e q
 unfold dIn at e
 split at e
 ·obtain ⟨c,e⟩:=aJ e
  cases e
  rename_i t ks ds
  have rxr:Rep K H x v:=rx.rep
  obtain ⟨a,o,e1,g,g1,_⟩:=aAe ry rxr c
  exact .inl ⟨a,o,e1,g,by rw [g1];exact q _ H (aZ.refl _) (bD.mpr rfl)⟩
 ·obtain ⟨c,e⟩:=aJ e
  cases e
  obtain ⟨p,zs,h1,h2,h3⟩:=ry.lst
  exact .inr (.inl ⟨_,_,zs,p,h1,.inl h2,rx.rep,h3.mono (bM _ _),c.1,c.2.1,c.2.2,q _ H (aZ.refl _) (bD.mpr rfl)⟩)
 ·obtain ⟨c,e⟩:=aJ e
  cases e
  obtain ⟨p,zs,h1,h2,h3⟩:=ry.tup
  exact .inr (.inl ⟨_,_,zs,p,h1,.inr h2,rx.rep,h3.mono (bM _ _),c.1,c.2.1,c.2.2,q _ H (aZ.refl _) (bD.mpr rfl)⟩)
 ·cases e
  exact .inr (.inr ⟨_,_,rx.str,ry.str,q _ H (aZ.refl _) (bD.mpr rfl)⟩)
 ·cases e
theorem kI{K:PySem.W.Frag}:uB K (aR1 K true) eZ:=by
 intro A H x y d v u Q w rx ry e q
 unfold eZ at e
 split at e
 ·obtain ⟨c,e⟩:=aJ e
  cases e
  rename_i t ks ds
  have rxr:Rep K H x v:=rx.rep
  obtain ⟨a,o,e1,g,g1,_⟩:=aAe ry rxr c
  exact .inl ⟨a,o,e1,g,by rw [g1];exact q _ H (aZ.refl _) (bD.mpr rfl)⟩
 ·obtain ⟨c,e⟩:=aJ e
  cases e
  obtain ⟨p,zs,h1,h2,h3⟩:=ry.lst
  exact .inr (.inl ⟨_,_,zs,p,h1,.inl h2,rx.rep,h3.mono (bM _ _),c.1,c.2.1,c.2.2,q _ H (aZ.refl _) (bD.mpr rfl)⟩)
 ·obtain ⟨c,e⟩:=aJ e
  cases e
  obtain ⟨p,zs,h1,h2,h3⟩:=ry.tup
  exact .inr (.inl ⟨_,_,zs,p,h1,.inr h2,rx.rep,h3.mono (bM _ _),c.1,c.2.1,c.2.2,q _ H (aZ.refl _) (bD.mpr rfl)⟩)
 ·cases e
  exact .inr (.inr ⟨_,_,rx.str,ry.str,q _ H (aZ.refl _) (bD.mpr rfl)⟩)
 ·cases e
end
end Pu
namespace Pu
open PySem PySem.Spec PyProof.Rows L2
section
variable{X:Cx}{B:List Addr}{a b e:Expr}{f g:Ex}{pos:Pos}
theorem aBv(i:Nat){x:Str}{p1 apos cpos:Pos}(he:PE X e (tI X.K B f))(hN:X.N[i]?=some x:=by rfl)(hv:Vis X.env.scope x:=by first | exact Or.inl rfl | exact Or.inr (Or.inl rfl) | exact Or.inr (Or.inr rfl))(hd:(x==("__debug__" : Str))=false:=by decide)
  (hcd:(x==("__classdict__" : Str))=false:=by decide) (hbase:attributeBase (.Name x p1) "append" X.env (eval (.Name x p1) X.env)=eval (.Name x p1) X.env:=by rfl)
  (hfew:((backTo cpos (starEach [e] X.env)).all (fun x => !x.1)&&(backToKw cpos (keywordEach [] X.env)).all (fun x=>x.1.isSome)
   && decide (([e]:List Expr).length+([]:List Keyword).length+(if ([]:List Keyword).isEmpty then 0 else 1) < 30))=true:=by rfl)
  (hline:(apos.endLine==cpos.line)=true:=by rfl) (hs:starEach [e] X.env=(false,eval e X.env) :: starEach [] X.env:=by rfl)
  (hsw:swapsWith (.Call (.Attribute (.Name x p1) "append" apos) [e] [] cpos) none pos.line X.env=pure false:=by rfl) :
  PS X (.Expr (.Call (.Attribute (.Name x p1) "append" apos) [e] [] cpos) pos) (tS X.K B (vW i f)):=by
 refine fD (aP6 (aM6 PySem.F.plainAttrs_list PySem.F.slot_list_append PySem.F.type_list_append aK8 (rO hN hv hd hcd) (fW he mR hs) hbase hfew hline hs rfl) hsw) ?_
 rintro Dn σ H ⟨A,st,r,rs,hr,p⟩
 obtain ⟨d,hd,h3⟩:=R.ok_of hr
 split at h3
 ·rename_i xs e1
  obtain ⟨c,h4⟩:=aJ h3
  cases h4
  obtain ⟨l,o,vs,e2,m,h1,ko,q,u⟩:=rs.lst i _ xs e1
  have eo:o = .lst vs:=ko
  subst eo
  refine ⟨.ref l,e2,.inl ⟨rfl,vs,SqL.of h1⟩,A,st,d,rs,hd,fun v H' s rv=>?_⟩
  have ql:=q.length
  refine ⟨l,vs,v,rfl,rfl,s _ _ h1,by rw [ql];rw [mU] at c;exact Nat.lt_of_lt_of_le c (by decide),?_⟩
  obtain ⟨w1,w2⟩:=(rs.mono s).write e1 e2 (k1 := .l) (ds:=xs++[d]) (vs':=vs++[v]) rfl ((q.mono (aZ.hide s)).append (.cons rv .nil))
  exact p A _ _ ((Le.of s).trans w2) w1
 ·cases h3
theorem aYw(i:Nat){x:Str}{j:Expr}{p1 p2:Pos}(hj:PE X j (tP X.K B g))(he:PE X e (tI X.K B f))(hN:X.N[i]?=some x:=by rfl)(hv:Vis X.env.scope x:=by first | exact Or.inl rfl | exact Or.inr (Or.inl rfl) | exact Or.inr (Or.inr rfl))(hd:(x==("__debug__" : Str))=false:=by decide)
  (hcd:(x==("__classdict__" : Str))=false:=by decide)
  (ha:∀ v,assign (.Subscript (.Name x p1) j p2) X.env v=(do
   let ov <- holding [v] (eval (.Name x p1) X.env)
   let iv <- holding [v,ov] (eval j X.env)
   standAt p2
   holding [v,ov,iv] (setItem ov iv v)
   release [v,ov,iv] []):=by intro _;rfl)
  (hs:swapsWithSole [.Subscript (.Name x p1) j p2] e pos.line X.env=pure false:=by rfl) (hw:swappedStores [.Subscript (.Name x p1) j p2] e X.env=pure none:=by rfl)
  (h1:(assignEach [.Subscript (.Name x p1) j p2] X.env).map (·.2)=[assign (.Subscript (.Name x p1) j p2) X.env]:=by rfl) :
  PS X (.Assign [.Subscript (.Name x p1) j p2] e pos) (tS X.K B (aMg i g f)):=by
 refine fD (aGl he (aLu (rO hN hv hd hcd) hj set_list ha) hs hw h1) ?_
 rintro Dn σ H ⟨A,st,r,rs,hr,p⟩
 obtain ⟨d,hd,h3⟩:=R.ok_of hr
 obtain ⟨y,hy,h4⟩:=R.ok_of h3
 obtain ⟨k,rfl,h5⟩:=aAp h4
 split at h5
 ·rename_i xs e1
  obtain ⟨n,hn,h6⟩:=R.ok_of h5
  cases h6
  obtain ⟨l,o,vs,e2,m,h1,ko,q,u⟩:=rs.lst i _ xs e1
  have eo:o = .lst vs:=ko
  subst eo
  refine ⟨A,st,d,rs,hd,fun v H' s rv=>⟨.ref l,e2,A,st,_,rs.mono s,hy,fun w H2 s2 rw2=>?_⟩⟩
  have ql:=q.length
  have hk:L2.ixN vs.length k=some n:=by rw [ql,aFo];exact qM hn
  refine ⟨l,vs,k,n,rfl,rw2.int,(s.trans s2) _ _ h1,hk,?_⟩
  obtain ⟨w1,w2⟩:=(rs.mono (s.trans s2)).write e1 e2 (k1 := .l) (ds:=xs.set n d) (vs':=vs.set n v) rfl (bH.set (rv.mono (aZ.hide s2)) n (q.mono (aZ.hide (s.trans s2))))
  exact p A _ _ ((Le.of (s.trans s2)).trans w2) w1
 ·cases h5
theorem aR2(i:Nat){x:Str}{pos' dp:Pos}(hN:X.N.Nodup)(hi:X.N[i]?=some x:=by rfl)(hx:Loc X.env.scope x:=by first | exact Or.inl rfl | exact Or.inr rfl)(hs:swapsWith (.Dict [] [] dp) (some (.Name x pos')) pos.line X.env=pure false:=by rfl)
  (hf:X.fn x=true\/X.env.scope.names.lookup x=some .local:=by first | exact .inl rfl | exact .inr rfl | assumption):PS X (.Assign [.Name x pos'] (.Dict [] [] dp) pos) (tS X.K B (aMh i false)):=fD (aAm hN hi hx aMa hs hf) (by
 rintro Dn σ H ⟨A,st,r,rs,hr,p⟩
 cases hr
 exact fun a ha=>p (a :: A) _ _ (aEb ha) (rs.setO (kk := .d false []) i ha (.inl ⟨rfl,[],rfl,rfl,rfl⟩) .nil))
def aYx:V->V->V->Hp->(Hp->Prop)->Prop:=fun o i v H Q=>∃ p H',o = .ref p/\aDr H p i v H'/\Q H'
theorem set_dict(hu:X.A.units+64 < cLine):aTh X aYx:=by
 intro pins s σ H o i v ov iv u Q I ro ri rv h
 obtain ⟨p,H',rfl,g,q⟩:=h
 cases ro
 exact aKc (by omega) I g ri rv fun s' I'=>⟨H',I',q⟩
theorem aEj(hu:X.A.units+64 < cLine)(i:Nat){x:Str}{j:Expr}{p1 p2:Pos}(hj:PE X j (tI X.K B g))(he:PE X e (tI X.K B f))(hN:X.N[i]?=some x:=by rfl)(hv:Vis X.env.scope x:=by first | exact Or.inl rfl | exact Or.inr (Or.inl rfl) | exact Or.inr (Or.inr rfl))(hd:(x==("__debug__" : Str))=false:=by decide)
  (hcd:(x==("__classdict__" : Str))=false:=by decide)
  (ha:∀ v,assign (.Subscript (.Name x p1) j p2) X.env v=(do
   let ov <- holding [v] (eval (.Name x p1) X.env)
   let iv <- holding [v,ov] (eval j X.env)
   standAt p2
   holding [v,ov,iv] (setItem ov iv v)
   release [v,ov,iv] []):=by intro _;rfl)
  (hs:swapsWithSole [.Subscript (.Name x p1) j p2] e pos.line X.env=pure false:=by rfl) (hw:swappedStores [.Subscript (.Name x p1) j p2] e X.env=pure none:=by rfl)
  (h1:(assignEach [.Subscript (.Name x p1) j p2] X.env).map (·.2)=[assign (.Subscript (.Name x p1) j p2) X.env]:=by rfl) :
  PS X (.Assign [.Subscript (.Name x p1) j p2] e pos) (tS X.K B (sDPut i g f)):=by
 refine fD (aGl he (aLu (rO hN hv hd hcd) hj (set_dict hu) ha) hs hw h1) ?_
 rintro Dn σ H ⟨A,st,r,rs,hr,p⟩
 obtain ⟨d,hd,h3⟩:=R.ok_of hr
 obtain ⟨k,hk,h5⟩:=R.ok_of h3
 split at h5
 ·rename_i t ks ds e1
  obtain ⟨c,h6⟩:=aJ h5
  cases h6
  obtain ⟨l,o,vs,e2,m,h1,ko,q,u⟩:=rs.lst i _ _ e1
  refine ⟨A,st,d,rs,hd,fun v H' s rv=>⟨.ref l,e2,A,st,k,rs.mono s,hk,fun w H2 s2 rk=>?_⟩⟩
  have hl:H2 l=some o:=(s.trans s2) _ _ h1
  have q2:=q.mono (aZ.hide (s.trans s2))
  have rv2:=rv.mono (aZ.hide s2)
  have rk2:Rep X.K H2 k w:=rk.mono (bM _ _)
  have hlen:ds.length < sizeLine:=by have:=c.2;rw [mU] at this;exact Nat.lt_of_lt_of_le this (by decide)
  have ql:=q.length
  rcases ko with ⟨rfl,kvs,rfl,rfl,rfl⟩ | ⟨rfl,kvs,rfl,rfl,rfl⟩
  ·obtain ⟨k',e3,e4⟩:=vK rk2 c.1
   subst e3 e4
   obtain ⟨z1,z2⟩:=aJa aE9 k' v d rv2 kvs ds q2
   refine ⟨l,_,rfl,aDr.k hl (by rw [List.length_map] at ql;omega),?_⟩
   obtain ⟨w1,w2⟩:=(rs.mono (s.trans s2)).write e1 e2 (k1 := .d false (oX (kvs.map fun p=>jU p.1) (jU k'))) (.inl ⟨rfl,putK kvs k' v,rfl,z1,rfl⟩) z2
   exact p A _ _ ((Le.of (s.trans s2)).trans w2) w1
  ·obtain ⟨k',b,e3,e4,e5⟩:=zV rk2 c.1
   subst e3 e4
   obtain ⟨z1,z2⟩:=aJa (E:=fun l=>D.tup (l.map jU)) aFq k' v d rv2 kvs ds q2
   refine ⟨l,_,rfl,aDr.t hl e5 (by rw [List.length_map] at ql;omega),?_⟩
   obtain ⟨w1,w2⟩:=(rs.mono (s.trans s2)).write e1 e2 (k1 := .d true (oX (kvs.map fun p=>D.tup (p.1.map jU)) (.tup (k'.map jU)))) (.inr ⟨rfl,putK kvs k' v,rfl,z1,rfl⟩) z2
   exact p A _ _ ((Le.of (s.trans s2)).trans w2) w1
 ·cases h5
end
end Pu
namespace Pu
open PySem PySem.Spec PyProof.Rows L2
section
open PySem.SeqAt
open PySem.AutoSeq1 (wpAny_loadPart')
open PySem.MeetsSeq PySem.MeetsSeq2 PySem.MeetsSeq3
inductive LexV (A:Around) (s:Shared):List Value->List Value->Bool->Prop where
 | nn:LexV A s [] [] false
 | nc {w:Value} {ws:List Value}:LexV A s [] (w :: ws) true
 | cn {v:Value} {vs:List Value}:LexV A s (v :: vs) [] false
 | eq {v w:Value} {vs ws:List Value} {b:Bool}:EqAt A s v w true->LexV A s vs ws b->LexV A s (v :: vs) (w :: ws) b
 | lt {v w:Value} {vs ws:List Value} {b:Bool}:EqAt A s v w false->(∀ (prog:Program) (wd:World) (E Q:Value->Shared->Prop),Q (.bool b) s->wpAny (model prog wd) A (richCompare .Lt v w) Q E s)->LexV A s (v :: vs) (w :: ws) b
end
section
variable{X:Cx}
end
end Pu
namespace Pu
open PySem PySem.Spec PyProof.Rows L2
structure ClsAt(K:PySem.W.Frag)(c:String)(C:Addr):Prop where
 ns:PySem.W.nsIn K mainGlobals (Str.ofString c)=some (some (.ref C))
 cl:Cls K C
theorem qP{a b:String}(h:Str.ofString a=Str.ofString b):a=b:=by
 have h1:(Str.ofString a).cps=(Str.ofString b).cps:=by rw [h]
 rw [Str.ofString_eq_toList,Str.ofString_eq_toList] at h1
 have h2:a.toList.map Char.toNat=b.toList.map Char.toNat:=by
  have:=congrArg Array.toList h1
  simpa using this
 have inj:∀ (x y:List Char),x.map Char.toNat=y.map Char.toNat->x=y:=by
  intro x
  induction x with
  | nil=>intro y h;cases y with | nil=>rfl | cons _ _=>simp at h
  | cons a x ih =>
   intro y h
   cases y with
   | nil=>simp at h
   | cons b y =>
    rw [List.map_cons,List.map_cons] at h
    injection h with h3 h4
    rw [ih y h4]
    congr 1
    exact Char.ext (UInt32.toNat_inj.mp h3)
 exact String.toList_inj.mp (inj _ _ h2)
section
variable{K:PySem.W.Frag}{H:Hp}
theorem aBw{f:String}:∀ {ns:List String} {ds:List D} {fs:List (Str × V)} {d:D},fs.map (·.1)=ns.map Str.ofString->bH K H ds (fs.map (·.2))->(ns.zip ds).lookup f=some d->∃ v,fs.lookup (Str.ofString f)=some v/\Rep K H d v
 | [],ds,fs,d,_,_,h=>by simp at h
 | n :: ns,[],fs,d,_,_,h=>by simp at h
 | n :: ns,d0 :: ds,[],d,e,_,h=>by simp at e
 | n :: ns,d0 :: ds,(g,w) :: fs,d,e,r,h=>by
  rw [List.map_cons,List.map_cons] at e
  injection e with e1 e2
  obtain ⟨v,r',e3,h1,h2⟩:=bV.mp r
  rw [List.map_cons] at e3
  injection e3 with e4 e5
  subst e4 e5
  have e1':g=Str.ofString n:=e1
  subst e1'
  rw [List.zip_cons_cons,List.lookup_cons] at h
  rw [List.lookup_cons]
  by_cases hf:f=n
  ·subst hf
   simp only [beq_self_eq_true] at h ⊢
   cases h
   exact ⟨_,rfl,h1⟩
  ·have hb:(f==n)=false:=beq_eq_false_iff_ne.mpr hf
   have hb2:(Str.ofString f==Str.ofString n)=false:=beq_eq_false_iff_ne.mpr fun z=>hf (qP z)
   rw [hb] at h
   rw [hb2]
   exact aBw e2 h2 h
theorem lookup_none{f:String}:∀ {ns:List String} {fs:List (Str × V)},fs.map (·.1)=ns.map Str.ofString->f ∉ ns->fs.lookup (Str.ofString f)=none
 | [],fs,e,_=>by cases fs with | nil=>rfl | cons _ _=>simp at e
 | n :: ns,[],e,_=>rfl
 | n :: ns,(g,w) :: fs,e,h=>by
  rw [List.map_cons,List.map_cons] at e
  injection e with e1 e2
  have e1':g=Str.ofString n:=e1
  subst e1'
  rw [List.lookup_cons]
  have hb2:(Str.ofString f==Str.ofString n)=false:=beq_eq_false_iff_ne.mpr fun z=>h (by rw [qP z];exact List.mem_cons_self)
  rw [hb2]
  exact lookup_none e2 fun z=>h (List.mem_cons_of_mem _ z)
theorem aFz{f:String}{v:V}:∀ {ns:List String} {fs:List (Str × V)},fs.map (·.1)=ns.map Str.ofString->f ∉ ns->rF (Str.ofString f) v fs=fs++[(Str.ofString f,v)]
 | [],fs,e,_=>by cases fs with | nil=>rfl | cons _ _=>simp at e
 | n :: ns,[],e,_=>by simp at e
 | n :: ns,(g,w) :: fs,e,h=>by
  rw [List.map_cons,List.map_cons] at e
  injection e with e1 e2
  have e1':g=Str.ofString n:=e1
  subst e1'
  unfold rF
  rw [if_neg (fun z=>h (by rw [qP z];exact List.mem_cons_self)),aFz e2 fun z=>h (List.mem_cons_of_mem _ z)]
  rfl
end
section
variable{X:Cx}{B:List Addr}{a b e o:Expr}{f g:Ex}{pos:Pos}
theorem iJ.ins{K:PySem.W.Frag}{A:List Addr}{H:Hp}{c:String}{ns:List String}{ds:List D}{v:V}(h:iJ K A H (.ins c ns ds) v):∃ p C dx fs,v = .ref p/\H p=some (.ins C dx fs)/\PySem.W.nsIn K mainGlobals (Str.ofString c)=some (some (.ref C))/\fs.map (·.1)=ns.map Str.ofString/\bH K (hide A H) ds (fs.map (·.2)):=by
 rcases h with h | ⟨p,kk,o,ds',vs,e,e2,h,ko,r⟩
 ·obtain ⟨p,C,dx,fs,vs,e,q1,q2,q3,q4,r⟩:=aE6.mp h
  subst q4
  exact ⟨p,C,dx,fs,e,bM _ _ _ _ q1,q2,q3,r⟩
 ·cases kk<;>cases e
  obtain ⟨_,C,dx,fs,rfl,q2,q3,rfl⟩:=ko
  exact ⟨p,C,dx,fs,e2,h,q2,q3,r⟩
theorem aJh{c f':String}{C:Addr}(hc:ClsAt X.K c C)(hn:eX X.K C (Str.ofString f'))(ho:PE X o (tP X.K B f))(hb:attributeBase o (Str.ofString f') X.env (eval o X.env)=eval o X.env:=by rfl) :
  PE X (.Attribute o (Str.ofString f') pos) (tI X.K B (e1 (xZ c f') f)):=by
 refine cT (aTv ho hb) ?_
 rintro σ H Q ⟨A,st,d,rs,hd,q⟩
 obtain ⟨x,hx,h2⟩:=R.ok_of hd
 refine ⟨A,st,x,rs,hx,fun v H1 s1 r1=>?_⟩
 cases x<;>first | (cases h2;done) | skip
 obtain ⟨e1,h3⟩:=aJ h2
 subst e1
 obtain ⟨p,C',dx,fs,e2,h4,h5,h6,h7⟩:=r1.ins
 have:C'=C:=by have z:=h5.symm.trans hc.ns;injection z with z;injection z with z;injection z
 subst this
 obtain ⟨w,h8,h9⟩:=aBw h6 h7 (qM h3)
 exact ⟨p,C',dx,fs,w,e2,h4,hc.cl,hn,h8,q w H1 s1 h9⟩
structure MethOk(P:Program)(w:World)(K:PySem.W.Frag)(mg:Str->Option Value)(base:Heap)(c m:String)(k np:Nat)(dv:List D)(p:List D->R D):Prop where
 ex:∃ (C fa:Addr) (fd:FuncData) (ps:List Str) (dvs:List V) (ds:List Value),ClsAt K c C/\Meth K C (Str.ofString m) fa/\FnOk P w K mg base CX0 k fa fd ps (spI K np p)/\Binds K fd ps ds/\Vals dvs ds/\∀ H,bH K H dv dvs
 len:∀ ds d,p ds = .ok d->ds.length=np
theorem aVk{c m:String}{k j np:Nat}{dv:List D}{p:List D->R D}{es:List Expr}{r:Exs}{apos:Pos}{pl:Sem Bool}(h:MethOk X.prog X.w X.K X.mg X.base c m k np dv p)(hr:Room j X.A)(hk:k<=j)(ho:PE X o (tI X.K B f))(ha:PA X (e :: es) (tA X.K B r))
  (hst:starEach (e :: es) X.env=(false,eval e X.env) :: starEach es X.env:=by rfl) (hpl:(backTo pos (starEach es X.env)).any (·.1)=false:=by rfl)
  (ht:eval (.Call (.Attribute o (Str.ofString m) apos) (e :: es) [] pos) X.env=(do
   let ov <- eval o X.env
   standAt apos.atName
   let (f,first) <- holding [ov] (getMethod ov (Str.ofString m) pl)
   callWith pos f first (backTo pos (starEach (e :: es) X.env)) (backToKw pos (keywordEach [] X.env))):=by rfl) :
  PE X (.Call (.Attribute o (Str.ofString m) apos) (e :: es) [] pos) (tI X.K B (aF6 c m p dv f r)):=by
 obtain ⟨C,fa,fd,ps,dvs,ds,hc,hm,F,bd,vd,rd⟩:=h.ex
 refine cT (aPj (pl:=pl) ho hc.cl hm F (hr.mono hk) bd vd aM8 ha hst hpl ht) ?_
 rintro σ H Q ⟨A,st,d,rs,hd,q⟩
 obtain ⟨x,hx,h2⟩:=R.ok_of hd
 obtain ⟨xs,hxs,h3⟩:=R.ok_of h2
 refine ⟨A,st,x,rs,hx,fun v H1 s1 r1=>?_⟩
 cases x<;>first | (cases h3;done) | skip
 obtain ⟨⟨e1,hn⟩,h4⟩:=aJ h3
 subst e1
 obtain ⟨p',C',dx,fs,e2,h5,h6,h7,h8⟩:=iJ.ins (.inl r1)
 have:C'=C:=by have z:=h6.symm.trans hc.ns;injection z with z;injection z with z;injection z
 subst this
 refine ⟨p',dx,fs,e2,h5,lookup_none h7 hn,A,st,xs,rs.mono s1,hxs,fun vs H2 s2 r2=>?_⟩
 exact ⟨A++B,_,d,rs.own.mono (s1.trans s2),.cons (r1.mono (aZ.hide s2)) (r2.append (rd _)),h.len _ _ h4,h4,fun w H' s' r'=>q w H' (s1.trans (s2.trans s')) r'⟩
def spM(K:PySem.W.Frag)(c:String)(np:Nat)(p:List D->R D):Sp:=fun vs H Q _=>∃ x ws A C dx ds d,vs = .ref x :: ws/\H x=some (.ins C dx [])/\PySem.W.nsIn K mainGlobals (Str.ofString c)=some (some (.ref C))/\Own A H/\x ∉ A/\bH K (hide (x :: A) H) ds ws/\ds.length=np/\p ds = .ok d /\
 ∀ H',aZ (hide [x] H) H'->Rep K (hide A H') d (.ref x)->Q .non H'
structure MakeOk(P:Program)(w:World)(K:PySem.W.Frag)(mg:Str->Option Value)(base:Heap)(c:String)(k np:Nat)(p:List D->R D):Prop where
 ex:∃ (C fa:Addr) (fd:FuncData) (ps:List Str),ClsAt K c C/\Mk K C fa/\FnOk P w K mg base CX0 k fa fd ps (spM K c np p)/\Binds K fd ps []/\mg (Str.ofString c)=some (.ref C)
 len:∀ ds d,p ds = .ok d->ds.length=np
theorem aVl{c:String}{k j np:Nat}{p:List D->R D}{es:List Expr}{r:Exs}{p0:Pos}(h:MakeOk X.prog X.w X.K X.mg X.base c k np p)(hr:Room j X.A)(hk:k+1<=j)(ha:PA X (e :: es) (tA X.K B r))(hg:Gl X (Str.ofString c):=by rfl)(hdb:(Str.ofString c==("__debug__" : Str))=false:=by decide)
  (he:starEach (e :: es) X.env=(false,eval e X.env) :: starEach es X.env:=by rfl) (hpl:(backTo pos (starEach es X.env)).any (·.1)=false:=by rfl):PE X (.Call (.Name (Str.ofString c) p0) (e :: es) [] pos) (tI X.K B (aY p r)):=by
 obtain ⟨C,fa,fd,ps,hc,M,F,bd,hm⟩:=h.ex
 refine cT (aPk M F (hr.mono hk) hg hm bd .nil aM8 ha hdb he hpl) ?_
 rintro σ H Q ⟨A,st,d,rs,hd,q⟩
 obtain ⟨xs,hx,h2⟩:=R.ok_of hd
 refine ⟨A,st,xs,rs,hx,fun vs H1 s1 r1 x dx hx0 hdx hne=>?_⟩
 have w1:=rs.own.mono s1
 have hxA:x ∉ A++B:=w1.free hx0
 have e0:∀ b u,H1 b=some u->upd (upd H1 dx (.own x)) x (.ins C dx []) b=some u:=fun b u z=>by
  rw [bT (bK z hx0),bT (bK z hdx)];exact z
 refine ⟨x,vs++[],A++B,C,dx,xs,d,rfl,cL,hc.ns,fun b hb=>?_,hxA,?_,h.len _ _ h2,h2,fun H' sm rd=>⟨rfl,q _ H' (fun b u z=>?_) rd⟩⟩
 ·obtain ⟨u,z⟩:=Option.isSome_iff_exists.mp (w1 b hb)
  rw [e0 b u z];rfl
 ·rw [List.append_nil]
  refine r1.mono fun b u z=>?_
  have z1:=bM _ _ _ _ z
  have hb:b ∉ A++B:=fun y=>by rw [gC y] at z;cases z
  rw [cF (fun y=>(List.mem_cons.mp y).elim (bK z1 hx0) hb)]
  exact e0 b u z1
 ·have z1:=s1 _ _ z
  exact sm b u (by rw [cF (by simpa using bK z1 hx0)];exact e0 b u z1)
theorem aKz{K:PySem.W.Frag}{A:List Addr}{H:Hp}{N:List Str}{ds:List D}{ws:List V}{x C dx:Addr}{c:String}(w:Own A H)(hxA:x ∉ A)(hx:H x=some (.ins C dx []))(hns:PySem.W.nsIn K mainGlobals (Str.ofString c)=some (some (.ref C)))(r:bH K (hide (x :: A) H) ds ws) :
  RS K A [x] H (some (Sl.o (.i x c []) []) :: (ds.map (fun d=>some (Sl.v d))++List.replicate (N.length - ds.length - 1) none)) (L2.start N (.ref x :: ws)):=by
 have hl:=r.length
 have sh:L2.start N (.ref x :: ws)=some (.ref x) :: (ws.map some++List.replicate (N.length - ds.length - 1) none):=by
  unfold L2.start
  rw [List.map_cons,List.cons_append,List.length_cons,hl]
  congr 2
 rw [sh]
 have nov:∀ (i:Nat) (s:Sl),(ds.map (fun d=>some (Sl.v d))++List.replicate (N.length - ds.length - 1) none)[i]?=some (some s)->∃ d,ds[i]?=some d/\s = .v d:=fun i s e=>by
  by_cases hi:i < ds.length
  ·rw [List.getElem?_append_left (by simpa using hi),List.getElem?_map,List.getElem?_eq_getElem hi] at e
   simp at e
   exact ⟨ds[i],List.getElem?_eq_getElem hi,e.symm⟩
  ·rw [List.getElem?_append_right (by simpa using hi),List.getElem?_replicate] at e
   split at e<;>simp at e
 refine ⟨by simp [hl],fun b hb=>?_,fun b hb=>by rw [List.mem_singleton.mp hb];exact hxA,fun i d e=>?_,fun i k xs e=>?_⟩
 ·rcases List.mem_append.mp hb with hb | hb
  ·rw [List.mem_singleton.mp hb,hx];rfl
  ·exact w b hb
 ·cases i with
  | zero=>simp at e
  | succ i =>
   rw [List.getElem?_cons_succ] at e
   obtain ⟨d',e1,e2⟩:=nov i _ e
   cases e2
   obtain ⟨v,hv,rv⟩:=r.get e1
   refine ⟨v,?_,rv⟩
   have hi:i < ws.length:=(List.getElem?_eq_some_iff.mp hv).1
   rw [List.getElem?_cons_succ,List.getElem?_append_left (by simpa using hi),List.getElem?_map,hv]
   rfl
 ·cases i with
  | zero =>
   simp at e
   obtain ⟨rfl,rfl⟩:=e
   refine ⟨x,_,[],rfl,List.mem_singleton.mpr rfl,hx,⟨rfl,C,dx,[],rfl,hns,rfl,rfl⟩,.nil,fun j k' ys ej _=>?_⟩
   cases j with
   | zero=>rfl
   | succ j =>
    rw [List.getElem?_cons_succ] at ej
    obtain ⟨_,_,e2⟩:=nov j _ ej
    cases e2
  | succ i =>
   rw [List.getElem?_cons_succ] at e
   obtain ⟨_,_,e2⟩:=nov i _ e
   cases e2
theorem aR3{P:Program}{w:World}{K:PySem.W.Frag}{mg:Str->Option Value}{base:Heap}{x qual:Str}{st:Stmt}{f:Addr}{fd:FuncData}{N ps:List Str}{k:Nat}(F:Fun K x qual st f fd)(S:FnScope N ps (aF st))(c:String)(np n:Nat)(bd:Bd)(hnp:ps.length=np+1)(hn:N.length=n)
  (hb:∀ (cdv:Value) (A:Around) (outer:List Env) (s:Shared) (H:Hp) (E:XK) (B:List Addr),Room k (A.deeper (envOfC qual (aF st) s.heap.objs.size f cdv)) ->
   PSs (xW CX0 P w K mg base N qual (aF st) f cdv A outer s H E).nox (bI st) (tS K B bd)):FnOk P w K mg base CX0 (k+1) f fd ps (spM K c np (aDt c np n bd)):=by
 refine F.ok S (fun vs H Q E h=>?_) (fun cdv A outer s H vs Q E hr h=>?_)
 ·obtain ⟨y,ws,A,C,dx,ds,d,rfl,_,_,_,_,r,hl,_⟩:=h
  rw [List.length_cons,r.length,hl,hnp]
 ·obtain ⟨y,ws,A',C,dx,ds,d,rfl,hy,hns,own,hyA,r,hl,hp,q⟩:=h
  refine ⟨tS K A' bd,hb cdv A outer s H E A' hr,?_⟩
  obtain ⟨_,h2⟩:=aJ (aIh hp y)
  obtain ⟨fl,hfl,h3⟩:=R.ok_of h2
  have rs:=aKz (N:=N) (c:=c) own hyA hy hns r
  rw [hl,hn] at rs
  refine ⟨[y],_,fl,rs,hfl,?_⟩
  cases fl with
  | nx s1 =>
   intro A1 σ1 H1 l rs1
   have h3':(match (s1[0]?:Option (Option Sl)) with | some (some (.o (.i y' c' ns) xs))=>aH (y'=y) (R.ok (D.ins c' ns xs)) | _ => .bad) = .ok d:=h3
   split at h3'
   ·rename_i y' c' ns xs e1
    obtain ⟨rfl,h4⟩:=aJ h3'
    cases h4
    obtain ⟨a,o,vs,e2,m,h5,ko,r5,_⟩:=rs1.lst 0 _ _ e1
    have ea:a=y':=ko.1
    subst ea
    refine q H1 (aZ.trans (show aZ (hide [a] H) (hide A1 H1) from l) (bM _ _)) ?_
    have:=ko.rep (H:=hide A' H1) (ds:=xs) (by rw [cF (rs1.dis a m)];exact h5) (r5.mono (gU fun b hb=>List.mem_append_right _ hb))
    exact this
   ·cases h3'
  | rt d'=>cases h3
  | bk s1=>cases h3
  | ct s1=>cases h3
theorem aO9{c:String}{np n:Nat}{bd:Bd}(ds:List D)(d:D)(h:aDt c np n bd ds = .ok d):ds.length=np:=(aJ (aIh h 0)).1
theorem aEk(i:Nat){x:Str}{c f':String}{C:Addr}{p1 p2:Pos}{value:Expr}(hc:ClsAt X.K c C)(hn:eX X.K C (Str.ofString f'))(he:PE X value (tI X.K B f))(hN:X.N[i]?=some x:=by rfl)(hv:Vis X.env.scope x:=by first | exact Or.inl rfl | exact Or.inr (Or.inl rfl) | exact Or.inr (Or.inr rfl))(hd:(x==("__debug__" : Str))=false:=by decide)
  (hcd:(x==("__classdict__" : Str))=false:=by decide) (hs:swapsWith value (some (.Attribute (.Name x p1) (Str.ofString f') p2)) pos.line X.env=pure false:=by rfl) :
  PS X (.Assign [.Attribute (.Name x p1) (Str.ofString f') p2] value pos) (tS X.K B (aCs i c f' f)):=by
 refine fD (aTw (rO hN hv hd hcd) he hs) ?_
 rintro Dn σ H ⟨A,st,r,rs,hr,p⟩
 obtain ⟨d,hd,h3⟩:=R.ok_of hr
 split at h3
 ·rename_i n c' ns xs e1
  obtain ⟨⟨ec,hf,hlen⟩,h4⟩:=aJ h3
  subst ec
  cases h4
  obtain ⟨l,o,vs,e2,m,h1,ko,q,u⟩:=rs.lst i _ _ e1
  obtain ⟨el,C',dx,fs,rfl,k1,k2,rfl⟩:=ko
  have:C'=C:=by have z:=k1.symm.trans hc.ns;injection z with z;injection z with z;injection z
  subst this
  refine ⟨A,st,d,rs,hd,fun y H1 s1 r1=>⟨.ref l,e2,l,C',dx,fs,rfl,s1 _ _ h1,hc.cl,hn,?_,?_⟩⟩
  ·have:=congrArg List.length k2
   rw [List.length_map,List.length_map] at this
   omega
  ·rw [aFz k2 hf]
   obtain ⟨w1,w2⟩:=(rs.mono s1).write e1 e2 (k1 := .i n c' (ns++[f'])) (o' := .ins C' dx (fs++[(Str.ofString f',y)])) (ds:=xs++[d]) (vs':=fs.map (·.2)++[y]) ⟨el,C',dx,_,rfl,k1,by rw [List.map_append,List.map_append,k2];rfl,by rw [List.map_append];rfl⟩ ((q.mono (aZ.hide s1)).append (.cons r1 .nil))
   exact p A _ _ ((Le.of s1).trans w2) w1
 ·cases h3
theorem aJi{sm:Stmt}:PS X sm (tS X.K B aH1):=fun _ _ _ _ _ _ ⟨_,_,_,_,h,_⟩=>nomatch h
end
end Pu
namespace Pu
open PySem PySem.Spec PyProof.Rows L2
section
variable{X:Cx}{B:List Addr}{scope:Scope}{elt tg iter c:Expr}{pos:Pos}{t:Tg}{it:ItE}{f u:Ex}
theorem aD9{pins:List (Addr × Obj)}{σ τ:LSt}{H3 H5:Hp}{s3 s5:Shared}{fp:List Addr}{C p:Addr}{m5:Str->Option Value}{i:Nat}{x:Str}{px:Pos}{Qf:Value->Shared->Prop}(hN:X.N.Nodup)(hi:X.N[i]?=some x)(hx:Loc X.env.scope x)
  (hf:X.fn x=true\/X.env.scope.names.lookup x=some .local) (hC:s3.heap.objs.size<=C) (I3:Inv X pins σ H3 s3) (hfp:∀ b∈fp,vQ X pins H3 b) (I5:Inv (cG X scope C s3 H3 fp) [] τ H5 s5) (hn5:s5.heap.Ns C m5)
  (hQ:∀ s',Inv X pins (σ.set i (some (.ref p))) H5 s'->Qf .none s'):compPost (model X.prog X.w) X.A X.xe (some (assign (.Name x px) X.env)) Qf (.ref p) C (.ok .next) s5:=by
 have I5':Inv X pins σ H5 { s5 with heap:=s5.heap }:=aEf I3 hfp hC I5 (.refl ..)
 have lt:∀ b o,s3.heap.get? b=some o->C≠b:=fun b o e z=>Nat.lt_irrefl _ (Nat.lt_of_lt_of_le (Heap.lt_size (z ▸ e)) hC)
 have hL:C≠X.env.locals:=fun z=>Nat.lt_irrefl _ (Nat.lt_of_lt_of_le (z ▸ I3.lt) hC)
 have hc:∀ y c,X.env.cells.lookup y=some c->c≠C:=fun y c e=>by
  obtain ⟨v,o,ho,_⟩:=I3.cell y c e
  exact (lt c o ho).symm
 have hp:∀ q∈X.pn++pins,q.1≠C:=fun q hq=>(lt q.1 q.2 (I3.pin q hq).1).symm
 show wpAny _ X.A (assign (.Name x px) X.env (.ref p)) _ _ _
 refine wpAny_assign_Name (aCj (v := .ref p) I5' hN hi hx rfl (fun s6 I6 ⟨a,hs,ha⟩=>?_) hf)
 have hCa:C≠a:=by
  rcases ha with z | z
  ·rw [z];exact hL
  ·exact (hc x a z).symm
 refine ⟨m5,hn5.sameBut hs hCa,fun h' hs'=>hQ _ ?_⟩
 exact I6.turned (t':=s6.toks) (fun b o hb e=>(hs'.2 b hb).trans e) (show H5 C=none from I5.free) hL (.inr (Nat.le_trans I3.sz hC)) hc hp
theorem aBx(i:Nat){x:Str}{px spos:Pos}(is:List Nat)(hsub:aD8 is t)(S:CScope X scope is)(hi:L2.PI X tg iter (tIt X.K B it))(hg:∀ (B:List Addr) (C:Addr) (s₀:Shared) (H₀:Hp) (fp:List Addr),PG (cG X scope C s₀ H₀ fp) tg (tG X.K B t))
  (ht:∀ (B:List Addr) (C:Addr) (s₀:Shared) (H₀:Hp) (fp:List Addr),PT (cG X scope C s₀ H₀ fp) c (tT X.K B u))
  (he:∀ (B:List Addr) (C:Addr) (s₀:Shared) (H₀:Hp) (fp:List Addr),PE (cG X scope C s₀ H₀ fp) elt (tI X.K B f)) (hc:X.calm=true) (hN:X.N.Nodup) (hi':X.N[i]?=some x:=by rfl) (hx:Loc X.env.scope x:=by first | exact Or.inl rfl | exact Or.inr rfl)
  (hsw:swapsWith (.ListComp elt [⟨tg,iter,[c],0⟩] scope pos) (some (.Name x px)) spos.line X.env=pure true:=by rfl)
  (hf:X.fn x=true\/X.env.scope.names.lookup x=some .local:=by first | exact .inl rfl | exact .inr rfl | assumption) (hs:∀ x,foldedSetIterable iter X.env x=pure x:=by intro _;rfl) :
  PS X (.Assign [.Name x px] (.ListComp elt [⟨tg,iter,[c],0⟩] scope pos) spos) (tS X.K B (cX i (fK is t it u f))):=by
 intro pins s σ H Dn I h
 obtain ⟨A,st,r,rs,hr,q⟩:=h
 obtain ⟨d,hd,h3⟩:=R.ok_of hr
 cases h3
 obtain ⟨xs,hx',h2⟩:=R.ok_of hd
 obtain ⟨hl,h3⟩:=aJ h2
 obtain ⟨ys,hy,h4⟩:=R.ok_of h3
 cases h4
 rw [exec_Assign_Name_used _ _ _ _ hsw]
 refine wpAny_bind (wpAny_standAt (wpAny_bind ?_))
 show wpAny _ X.A (do let _ <- comprehension (.ListComp elt [⟨tg,iter,[c],0⟩] scope pos) scope X.env _ (newList []) false (eval iter X.env) (some (assign (.Name x px) X.env))) _ _ s
 refine wpAny_bind (wpAny_mono (Q:=fun _ s'=>SP X pins Dn .next s') ?_ (fun _ s' hq=>wpAny_pure (wpAny_pure hq)) fun _ _ e=>e)
 exact tY (use:=some (assign (.Name x px) X.env)) (Qf:=fun _ s'=>SP X pins Dn .next s') (Q:=fun v H'=>Dn.nx (σ.set i (some v)) H') (tt:=tTx X.K u) (te:=tIx X.K f) (rest:=fun env it p=>isTrue c env (eval c env) >>= fun ok=>if ok=true then (eval elt env >>= fun x=>call (.builtin "list.append") [p,x] >>= fun _=>again (.compLoop (.ListComp elt [⟨tg,iter,[c],0⟩] scope pos) 0 it p env)) else again (.compLoop (.ListComp elt [⟨tg,iter,[c],0⟩] scope pos) 0 it p env)) S hc hi (fun C s₀ H₀ fp=>aQw fun B=>hg B C s₀ H₀ fp) (fun _ _ _=>qO)
  (fun C s₀ H₀ fp it p s Q h=>aYp (Y:=cG X scope C s₀ H₀ fp) h) (fun C s₀ H₀ fp it p τ H s pins vs N Q I h q=>aT5 (Y:=cG X scope C s₀ H₀ fp) rfl (aQv fun B=>he B C s₀ H₀ fp) (aYr fun B=>ht B C s₀ H₀ fp) τ H s pins vs N Q I h (fun _ Q Q' m h=>wY Q Q' m h) q) hs I
  (aJd hsub (fun τ H Q h=>h) rs hx' hl hy fun p vs H1 H' s1 hp s2 hv r=>aHu (Q:=fun v H'=>Dn.nx (σ.set i (some v)) H') rs (fun v H' sm rv=>q A _ H' (Le.of sm) ((rs.mono sm).set i rv)) s1 hp s2 hv r) fun C p H5 s5 m5 s3 H3 fp τ hC I3 hfp I5 hn5 q5=>aD9 hN hi' hx hf hC I3 hfp I5 hn5 fun s' I'=>⟨_,_,I',q5⟩
end
end Pu
namespace Pu
open PySem PySem.Spec PyProof.Rows L2
structure FunD(K:PySem.W.Frag)(x qual:Str)(st:Stmt)(dV:Value)(f:Addr)(fd:FuncData):Prop where
 ex:∃ (oc:Value) (od:Option Addr) (kV doc pm:Value) (an:Option Addr) (cdv ct:Value) (osl:Array (Option Value)),
  fd=PySem.W.fnOf x qual (bO st) (bI st) (aF st) dV kV doc pm an cdv ct/\K.lookup f=some ⟨oc,od,.func fd,osl⟩/\PySem.W.codeIn K cdv qual=true
 kp:PySem.W.keepIn K (.ref f)=true
section
variable{P:Program}{w:World}{K:PySem.W.Frag}{mg:Str->Option Value}{base:Heap}{x qual:Str}{st:Stmt}{dV:Value}{f:Addr}{fd:FuncData}{N ps:List Str}{k:Nat}
theorem cB{oc:Value}{od an:Option Addr}{osl:Array (Option Value)}{kV doc pm cdv ct:Value}(l:K.lookup f=some ⟨oc,od,.func (PySem.W.fnOf x qual (bO st) (bI st) (aF st) dV kV doc pm an cdv ct),osl⟩)
  (c:PySem.W.codeIn K cdv qual=true) (k:PySem.W.keepIn K (.ref f)=true):FunD K x qual st dV f (PySem.W.fnOf x qual (bO st) (bI st) (aF st) dV kV doc pm an cdv ct):=⟨⟨oc,od,kV,doc,pm,an,cdv,ct,osl,rfl,l,c⟩,k⟩
theorem FunD.binds0(F:FunD K x qual st .none f fd)
  (h:∀ (kV doc pm:Value) (an:Option Addr) (cdv ct:Value) (us:List Value),us.length=ps.length->bindArgs (PySem.W.fnOf x qual (bO st) (bI st) (aF st) .none kV doc pm an cdv ct) ⟨us,[]⟩=pure (ps.zip us)):Binds K fd ps []:=by
 obtain ⟨oc,od,kV,doc,pm,an,cdv,ct,osl,rfl,lk,hcd⟩:=F.ex
 exact .all (h kV doc pm an cdv ct)
theorem FunD.okX{sp:Sp}(F:FunD K x qual st dV f fd)(S:FnScope N ps (aF st))(len:∀ vs H Q E,sp vs H Q E->vs.length=ps.length)
  (hbody:∀ (cdv:Value) (A:Around) (outer:List Env) (s:Shared) (H:Hp) (vs:List V) (Q:VK) (E:XK),Room k (A.deeper (envOfC qual (aF st) s.heap.objs.size f cdv))->sp vs H Q E ->
   ∃ t,PSs (xW CX0 P w K mg base N qual (aF st) f cdv A outer s H E).nox (bI st) t/\t { nx:=fun _ H'=>Q .non H',rt:=Q } (L2.start N vs) H):FnOk P w K mg base CX0 (k+1) f fd ps sp:=by
 obtain ⟨oc,od,kV,doc,pm,an,cdv,ct,osl,rfl,lk,hcd⟩:=F.ex
 refine aM3 lk hcd S len fun A outer s H vs Q E hr hsp=>?_
 obtain ⟨t,h,q⟩:=hbody cdv A outer s H vs Q E hr hsp
 exact ⟨t,h.nox,q⟩
theorem eU(F:FunD K x qual st dV f fd)(S:FnScope N ps (aF st))(np n:Nat)(bd:Bd)(hnp:ps.length=np)(hn:N.length=n)
  (hb:∀ (cdv:Value) (A:Around) (outer:List Env) (s:Shared) (H:Hp) (E:XK) (B:List Addr),Room k (A.deeper (envOfC qual (aF st) s.heap.objs.size f cdv)) ->
   PSs (xW CX0 P w K mg base N qual (aF st) f cdv A outer s H E).nox (bI st) (tS K B bd)):FnOk P w K mg base CX0 (k+1) f fd ps (spI K np (eN np n bd)):=by
 refine F.okX S (fun vs H Q E h=>?_) (fun cdv A outer s H vs Q E hr h=>?_)
 ·obtain ⟨A,ds,d,own,r,hl,_⟩:=h
  rw [r.length,hl,hnp]
 ·obtain ⟨B,ds,d,own,r,hl,hp,q⟩:=h
  refine ⟨tS K B bd,hb cdv A outer s H E B hr,?_⟩
  obtain ⟨_,h2⟩:=aJ hp
  obtain ⟨fl,hfl,h3⟩:=R.ok_of h2
  have rs:=aBo (N:=N) own r
  rw [hl,hn] at rs
  refine ⟨[],_,fl,rs,hfl,?_⟩
  have fin:∀ {A':List Addr} {H':Hp},Le [] H A' H'->aZ H H':=fun {A' H'} l=>by
   unfold Le at l
   rw [sW] at l
   exact l.trans (bM _ _)
  cases fl with
  | nx s1 =>
   cases h3
   exact fun A' σ' H' l rs'=>q _ H' (fin l) (bW.mpr rfl)
  | rt d' =>
   cases h3
   exact fun A' v H' l rv=>q v H' (fin l) (rv.mono (gU fun a ha=>List.mem_append_right _ ha))
  | bk s1=>exact nomatch h3
  | ct s1=>exact nomatch h3
end
end Pu
namespace Pu
open PySem PySem.Spec PyProof.Rows L2 PySem.SeqAt
section
variable{X:Cx}{B:List Addr}{a b e o:Expr}{f g:Ex}{pos:Pos}{r:Exs}{es:List Expr}{apos cpos:Pos}
theorem aHw:nR X (.type "list") (fun vs H Q=>∃ l xs,vs=[.ref l]/\(SqL X.K H l xs\/SqT X.K H l xs)/\∀ n,H n=none->Q (.ref n) (upd H n (.lst xs))):=by
 intro pins s σ H vs us Q I r h
 obtain ⟨l,xs,rfl,hl,q⟩:=h
 obtain ⟨u,rfl,ru⟩:=r.one
 obtain rfl:u=Value.ref l:=ru
 rcases hl with hl | hl
 ·obtain ⟨its,rv,⟨ob,n,e,hc,_,hd⟩,hz⟩:=I.list hl
  refine call_list_seq l (T := "list") (.inl rfl) e hc hd (fun h' c' k hn=>?_) (by rw [rv.length] at hz;simpa using hz)
  exact ⟨.ref s.heap.objs.size,_,I.laid (o := .lst xs) (t':=s.toks) k (Nat.le_refl _) ⟨hz,its,c',rv,hn⟩,rfl,q _ (I.hok.fresh (Nat.le_refl _))⟩
 ·obtain ⟨its,rv,⟨ob,e,hc,n,hd⟩,hz⟩:=I.tuple hl
  refine call_list_seq l (T := "tuple") (.inr rfl) e hc hd (fun h' c' k hn=>?_) (by rw [rv.length] at hz;simpa using hz)
  exact ⟨.ref s.heap.objs.size,_,I.laid (o := .lst xs) (t':=s.toks) k (Nat.le_refl _) ⟨hz,its,c',rv,hn⟩,rfl,q _ (I.hok.fresh (Nat.le_refl _))⟩
theorem aEm{p0:Pos}(hm:X.mg "list" = none)(ha:PE X a (tP X.K B f))(hg:Gl X "list" := by rfl)(hs:starEach [a] X.env=(false,eval a X.env) :: starEach [] X.env:=by rfl):PE X (.Call (.Name "list" p0) [a] [] pos) (tI X.K B (e1 aAs f)):=by
 refine cT (aCo aHw hg hm (by rfl) (fW ha mR hs) (he:=hs)) ?_
 rintro σ H Q ⟨A,st,d,rs,hd,q⟩
 obtain ⟨x,hx,h2⟩:=R.ok_of hd
 refine ⟨A,st,x,rs,hx,fun v H1 s1 r1=>?_⟩
 cases x<;>first | (cases h2;done) | skip
 ·cases h2
  obtain ⟨l,vs,e,h3,r3⟩:=r1.tup
  exact ⟨l,vs,by rw [e],.inr h3,fun n hn=>q _ _ (s1.trans (dJ hn)) (jF (rs.own.mono s1) hn r3)⟩
 ·cases h2
  obtain ⟨l,vs,e,h3,r3⟩:=r1.lst
  exact ⟨l,vs,by rw [e],.inl h3,fun n hn=>q _ _ (s1.trans (dJ hn)) (jF (rs.own.mono s1) hn r3)⟩
theorem aJj:∀ {l:List Bool} {us:List Value},Vals (l.map V.bl) us->us=l.map Value.bool
 | [],_,.nil=>rfl
 | b :: l,_,.cons r t=>by
  rw [aJj t]
  cases r
  rfl
theorem aL0(hc:X.calm=true):nR X (.builtin "all") (fun vs H Q=>∃ (l:Addr) (bs:List Bool),vs=[.ref l]/\SqL X.K H l (bs.map V.bl)/\Q (.bl (bs.all id)) H):=by
 intro pins s σ H vs us Q I r h
 obtain ⟨l,bs,rfl,hl,q⟩:=h
 obtain ⟨u,rfl,ru⟩:=r.one
 obtain rfl:u=Value.ref l:=ru
 obtain ⟨its,rv,⟨ob,n,e,hcl,_,hd⟩,hz⟩:=I.list hl
 have ei:=aJj rv
 have isl:s.heap.IsList l its.toArray:=⟨ob,e,hcl,n,hd⟩
 have hlt:l < s.heap.objs.size:=Heap.lt_size e
 refine call_all_walk (wpAny_pyIter_list isl ⟨s.heap.objs.size,_,_,_,_,_,fun i=>bs[i]?.getD false,rfl,Walks.list (A:=X.A.in1) (I.ok.hd hc) _ l (Nat.ne_of_lt hlt) its.toArray,⟨⟨_,Heap.get?_push_size _ rfl,rfl,rfl⟩,isl.push _⟩,?_,fun h' tk k=>?_⟩)
 ·intro i v s' Q' E' hv hq
  rw [ei] at hv
  simp only [List.getElem?_toArray,List.getElem?_map,Option.map_eq_some_iff] at hv
  obtain ⟨b,hb,rfl⟩:=hv
  have hq':Q' (bs[i]?.getD false) s':=hq
  rw [hb] at hq'
  exact wpAny_pure hq'
 ·refine ⟨.bl (bs.all id),H,I.kept (fun b u z=>k b u (fun hb=>?_) (Heap.get?_push_of_some _ z)),?_,q⟩
  ·have:=List.mem_singleton.mp hb
   exact Nat.lt_irrefl _ (this ▸ Heap.lt_size z)
  ·show Value.bool _=Value.bool _
   congr 1
   rw [Bool.eq_iff_iff,List.all_eq_true,List.all_eq_true]
   have hsz:its.toArray.size=bs.length:=by rw [ei];simp
   rw [hsz]
   constructor
   ·intro h x hx
    obtain ⟨i,hi,rfl⟩:=List.mem_iff_getElem.mp hx
    have:=h i (List.mem_range.mpr hi)
    rw [List.getElem?_eq_getElem hi] at this
    exact this
   ·intro h i hi
    have hi':=List.mem_range.mp hi
    rw [List.getElem?_eq_getElem hi']
    exact h _ (List.getElem_mem hi')
theorem aJk{K:PySem.W.Frag}{H:Hp}:∀ {l:List Bool} {vs:List V},bH K H (l.map D.bl) vs->vs=l.map V.bl
 | [],vs,h=>cP.mp h
 | b :: l,vs,h=>by
  obtain ⟨v,r,rfl,h1,h2⟩:=bV.mp h
  rw [aJk h2,bD.mp h1];rfl
theorem aJl{p0:Pos}(hm:X.mg "all" = none)(hc:X.calm=true)(ha:PE X a (tP X.K B f))(hg:Gl X "all" := by rfl)(hs:starEach [a] X.env=(false,eval a X.env) :: starEach [] X.env:=by rfl):PE X (.Call (.Name "all" p0) [a] [] pos) (tI X.K B (e1 aA5 f)):=by
 refine cT (vR (aL0 hc) hg hm (by rfl) (fW ha mR hs) (he:=hs)) ?_
 rintro σ H Q ⟨A,st,d,rs,hd,q⟩
 obtain ⟨x,hx,h2⟩:=R.ok_of hd
 refine ⟨A,st,x,rs,hx,fun v H1 s1 r1=>?_⟩
 cases x<;>first | (cases h2;done) | skip
 obtain ⟨bs,h3,h4⟩:=R.ok_of h2
 cases h4
 obtain ⟨l,vs,e,h5,r5⟩:=r1.lst
 rw [aMs h3] at r5
 rw [aJk r5] at h5
 exact ⟨l,bs,by rw [e],h5,q _ H1 s1 (bD.mpr rfl)⟩
end
end Pu
namespace Pu
open PySem PySem.Spec PyProof.Rows L2
def qQ:List Addr->Heap->Heap
 | [],h=>h
 | a :: l,h=>(qQ l h).update a fun _=>{ cls := .none,data := .freed }
theorem aL1(h:Heap)(a:Addr):(h.update a fun _=>{ cls := .none,data := .freed }).get? a=none:=by
 cases h with
 | mk objs =>
  simp only [Heap.update,Heap.get?,Array.getElem?_modify,if_true]
  cases objs[a]? <;> rfl
theorem kJ{b:Addr}{h:Heap}:∀ {l:List Addr},b∈l->(qQ l h).get? b=none
 | a :: l,hb=>by
  by_cases e:b=a
  ·rw [e];exact aL1 _ _
  ·unfold qQ
   rw [Heap.get?_update_ne _ _ _ _ e]
   exact kJ ((List.mem_cons.mp hb).resolve_left e)
theorem aAh{b:Addr}{h:Heap}:∀ {l:List Addr},b ∉ l->(qQ l h).get? b=h.get? b
 | [],_=>rfl
 | a :: l,hb=>by
  unfold qQ
  rw [Heap.get?_update_ne _ _ _ _ fun e=>hb (by rw [e];exact List.mem_cons_self)]
  exact aAh fun z=>hb (List.mem_cons_of_mem _ z)
theorem xF(l:List Addr)(h:Heap):(qQ l h).StaysIn h:=fun b o e=>by
 by_cases hb:b∈l
 ·rw [kJ hb] at e;cases e
 ·rwa [aAh hb] at e
theorem sZ{h b0 base:Heap}:∀ {l:List Env},h.FunFrames b0 l->(∀ L∈frs l,base.get? L=none)->h.FunFrames base l
 | [],_,_=>trivial
 | env :: l,⟨k,⟨L,o,e1,_,e3,e4⟩,r⟩,hb=>by
  have hL:L∈frs (env :: l):=by unfold frs;rw [List.filterMap_cons_some e1];exact List.mem_cons_self
  exact ⟨k,⟨L,o,e1,hb L hL,e3,e4⟩,sZ r fun M hM=>hb M (by unfold frs;rw [List.filterMap_cons_some e1];exact List.mem_cons_of_mem _ hM)⟩
structure Fly(C:Addr)(h0:Heap)(H:Hp)(e:Addr)(h:Heap):Prop where
 n0:h0.get? e=none
 nH:H e=none
 ex:∃ oe vs a0,h.get? e=some oe/\oe.cls = .ref C/\oe.data = .fields vs/\vs[0]?=some a0 /\
  (vs[1]?=some .none\/∃ T oT ts,vs[1]?=some (.ref T)/\T≠e/\h.get? T=some oT/\oT.data = .fields ts/\ts[3]?=some .none/\h0.get? T=none/\H T=none)
structure FlyT(C:Addr)(h0:Heap)(H:Hp)(e:Addr)(h:Heap):Prop where
 n0:h0.get? e=none
 nH:H e=none
 ex:∃ oe vs a0 T oT ts,h.get? e=some oe/\oe.cls = .ref C/\oe.data = .fields vs/\vs[0]?=some a0/\vs[1]?=some (.ref T)/\T≠e/\h.get? T=some oT/\oT.data = .fields ts/\ts[3]?=some .none/\h0.get? T=none/\H T=none
theorem FlyT.fly{C e:Addr}{h0 h:Heap}{H:Hp}(F:FlyT C h0 H e h):Fly C h0 H e h:=by
 obtain ⟨n0,nH,oe,vs,a0,T,oT,ts,he,hc,hd,hz,r⟩:=F
 exact ⟨n0,nH,oe,vs,a0,he,hc,hd,hz,.inr ⟨T,oT,ts,r⟩⟩
def aDa(h0:Heap)(H:Hp)(fs:List Addr)(h h':Heap):Prop :=
 ∀ b o,h.get? b=some o->((∃ o0,h0.get? b=some o0)\/∃ u,H b=some u)->(b ∉ fs->h'.get? b=some o)/\∃ sl,h'.get? b=some { o with slots:=sl }
section
variable{M:Model}{A:Around}{E:Value->Shared->Prop}{s:Shared}{C e L:Addr}{h0 b0:Heap}{H:Hp}{env:Env}{outer:List Env}{Q:Unit->Shared->Prop}
theorem qR{h h':Heap}{l:List Addr}{fl:List Env}{a0:Value}(hth:∀ b o,h0.get? b=some o->∃ o',h.get? b=some o')(hH:∀ b u,H b=some u->∃ o,h.get? b=some o)(n0:h0.get? e=none)(nH:H e=none)
  (hl:∀ b∈l,b=e\/(h0.get? b=none/\H b=none)\/b∈frs fl) (f:h'.FunFrames (qQ l h) fl) (t:h'.TracedW (qQ l h) e (.ref C) a0):FlyT C h0 H e h':=by
 obtain ⟨oe,vs,T,oT,ts,he,⟨hc,hz⟩,hd,h1,hT0,hTe,hT,hdT,h3⟩:=t
 have:h0.get? T=none/\H T=none:=by
  by_cases hb:T∈l
  ·rcases hl T hb with z | z | z
   ·exact (hTe z).elim
   ·exact z
   ·obtain ⟨_,o,ho,hnf⟩:=f.mem z
    rw [hT] at ho
    cases ho
    exact (hnf ts hdT).elim
  ·rw [aAh hb] at hT0
   refine ⟨?_,?_⟩
   ·cases q:h0.get? T with
    | none=>rfl
    | some o=>obtain ⟨o',z⟩:=hth T o q;rw [hT0] at z;cases z
   ·cases q:H T with
    | none=>rfl
    | some u=>obtain ⟨o',z⟩:=hH T u q;rw [hT0] at z;cases z
 exact ⟨n0,nH,oe,vs,a0,T,oT,ts,he,hc,hd,hz,h1,hTe,hT,hdT,h3,this⟩
theorem xG{h h':Heap}{l:List Addr}{fl:List Env}{bb:Heap}(hl:∀ b∈l,(h0.get? b=none/\H b=none)\/b∈frs fl)(f:h.FunFrames bb fl)(k1:(qQ l h).StaysIn h')
  (k4:∀ b o,h.get? b=some o->(∀ vs,o.data ≠ .fields vs)->∃ sl,h'.get? b=some { o with slots:=sl }):aDa h0 H (frs fl) h h':=fun b o e hb=>by
 have hk:b ∉ frs fl->h'.get? b=some o:=fun hn=>k1 b o (by
  rw [aAh fun z=>?_];exact e
  rcases hl b z with ⟨q1,q2⟩ | q
  ·rcases hb with ⟨o0,z⟩ | ⟨u,z⟩
   ·rw [q1] at z;cases z
   ·rw [q2] at z;cases z
  ·exact hn q)
 refine ⟨hk,?_⟩
 by_cases hn:b∈frs fl
 ·obtain ⟨_,o',ho,hnf⟩:=f.mem hn
  rw [e] at ho
  cases ho
  exact k4 b o e hnf
 ·exact ⟨o.slots,hk hn⟩
theorem aL2(hfr:A.frames=some (env :: outer))(hl:s.heap.FunFrames b0 (env :: outer))(hf:env.frame=some L)(hth:∀ b o,h0.get? b=some o->∃ o',s.heap.get? b=some o')(hH:∀ b u,H b=some u->∃ o,s.heap.get? b=some o)
  (F:Fly C h0 H e s.heap) (hQ:∀ h',Fly C h0 H e h'->aDa h0 H (frs (env :: outer)) s.heap h'->Q () { s with heap:=h' }):wpAny M A (leaving env (.ref e)) Q E s:=by
 obtain ⟨n0,nH,oe,vs,a0,he,hc,hd,hz,ht⟩:=F
 rcases ht with ht | ⟨T,oT,ts,h1,hTe,hT,hdT,h3,nT,nHT⟩
 ·have hcut:∀ L∈frs (env :: outer),(qQ (e :: frs (env :: outer)) s.heap).get? L=none:=fun L hL=>kJ (List.mem_cons_of_mem _ hL)
  refine wpAny_leaving_firstW (base:=qQ (e :: frs (env :: outer)) s.heap) hfr (sZ hl hcut) hf he (xF _ _) (kJ List.mem_cons_self) hd ht hz fun h' ⟨k1,k2,k3,k4⟩=>?_
  rw [hc] at k3
  refine hQ h' (qR (h:=s.heap) hth hH n0 nH (fun b hb=>?_) k2 k3).fly (xG (fun b hb=>?_) hl k1 k4)
  ·exact (List.mem_cons.mp hb).elim .inl fun z => .inr (.inr z)
  ·exact (List.mem_cons.mp hb).elim (fun z => .inl (by rw [z];exact ⟨n0,nH⟩)) .inr
 ·have hcut:∀ L∈frs (env :: outer),(qQ (e :: T :: frs (env :: outer)) s.heap).get? L=none:=fun L hL=>kJ (List.mem_cons_of_mem _ (List.mem_cons_of_mem _ hL))
  refine wpAny_leaving_nextW (base:=qQ (e :: T :: frs (env :: outer)) s.heap) (cls := .ref C) (a0:=a0) hfr (sZ hl hcut) hf ⟨oe,vs,T,oT,ts,he,⟨hc,hz⟩,hd,h1,kJ (List.mem_cons_of_mem _ List.mem_cons_self),hTe,hT,hdT,h3⟩ (xF _ _) (kJ List.mem_cons_self) fun h' ⟨k1,k2,k3,k4⟩=>?_
  refine hQ h' (qR (h:=s.heap) hth hH n0 nH (fun b hb=>?_) k2 k3).fly (xG (fun b hb=>?_) hl k1 k4)
  ·rcases List.mem_cons.mp hb with z | hb
   ·exact .inl z
   ·exact (List.mem_cons.mp hb).elim (fun z => .inr (.inl (by rw [z];exact ⟨nT,nHT⟩))) fun z => .inr (.inr z)
  ·rcases List.mem_cons.mp hb with z | hb
   ·exact .inl (by rw [z];exact ⟨n0,nH⟩)
   ·exact (List.mem_cons.mp hb).elim (fun z => .inl (by rw [z];exact ⟨nT,nHT⟩)) .inr
theorem aOa(hfr:A.frames=some (env :: outer))(hl:s.heap.FunFrames b0 (env :: outer))(hf:env.frame=some L)(hth:∀ b o,h0.get? b=some o->∃ o',s.heap.get? b=some o')(hH:∀ b u,H b=some u->∃ o,s.heap.get? b=some o)
  (F:Fly C h0 H e s.heap) (hQ:∀ h',FlyT C h0 H e h'->aDa h0 H (frs (env :: outer)) s.heap h'->Q () { s with heap:=h' }):wpAny M A (noteFrame (.ref e) env) (fun _ s2=>wpAny M A (setFlight (.ref e) none) Q E s2) E s:=by
 obtain ⟨n0,nH,oe,vs,a0,he,hc,hd,hz,ht⟩:=F
 have fin:∀ (l:List Addr),(∀ b∈l,b=e\/(h0.get? b=none/\H b=none)\/b∈frs (env :: outer))->∀ h',Heap.NotedW (qQ l s.heap) (env :: outer) e (.ref C) a0 (rawInt L) s.heap h'->wpAny M A (setFlight (.ref e) none) Q E { s with heap:=h' }:=by
  intro l hll h' ⟨k1,k2,k3,k4⟩
  refine wpAny_setFlight_noneW (s:={ s with heap:=h' }) k1 k2 k3 fun h2 m1 m2 m3 m4=>hQ h2 (qR (h:=s.heap) hth hH n0 nH hll m2 m3) (xG (fun b hb=>?_) hl m1 fun b o hb hnf=>?_)
  ·rcases hll b hb with z | z | z
   ·exact .inl (by rw [z];exact ⟨n0,nH⟩)
   ·exact .inl z
   ·exact .inr z
  ·obtain ⟨sl,z⟩:=k4 b o hb hnf
   exact ⟨sl,m4 b _ z hnf⟩
 rcases ht with ht | ⟨T,oT,ts,h1,hTe,hT,hdT,h3,nT,nHT⟩
 ·have hcut:∀ L∈frs (env :: outer),(qQ (e :: frs (env :: outer)) s.heap).get? L=none:=fun L hL=>kJ (List.mem_cons_of_mem _ hL)
  unfold noteFrame
  simp only [hf]
  refine wpAny_bind (wpAny_field he hd ht ?_)
  rw [if_neg (by decide)]
  refine wpAny_entryW (base:=qQ (e :: frs (env :: outer)) s.heap) hfr (sZ hl hcut) hf he (xF _ _) (kJ List.mem_cons_self) hd (Array.getElem?_eq_some_iff.mp ht).1 hz fun h' N=>?_
  rw [hc] at N
  exact fin _ (fun b hb=>(List.mem_cons.mp hb).elim .inl fun z => .inr (.inr z)) h' N
 ·have hcut:∀ L∈frs (env :: outer),(qQ (e :: T :: frs (env :: outer)) s.heap).get? L=none:=fun L hL=>kJ (List.mem_cons_of_mem _ (List.mem_cons_of_mem _ hL))
  refine wpAny_noteFrame_onW (base:=qQ (e :: T :: frs (env :: outer)) s.heap) (cls := .ref C) (a0:=a0) hfr (sZ hl hcut) hf ⟨oe,vs,T,oT,ts,he,⟨hc,hz⟩,hd,h1,kJ (List.mem_cons_of_mem _ List.mem_cons_self),hTe,hT,hdT,h3⟩ (xF _ _) (kJ List.mem_cons_self) fun h' N=>?_
  refine fin _ (fun b hb=>?_) h' N
  rcases List.mem_cons.mp hb with z | hb
  ·exact .inl z
  ·exact (List.mem_cons.mp hb).elim (fun z => .inr (.inl (by rw [z];exact ⟨nT,nHT⟩))) fun z => .inr (.inr z)
theorem aR4(hth:∀ b o,h0.get? b=some o->∃ o',s.heap.get? b=some o')(hH:∀ b u,H b=some u->∃ o,s.heap.get? b=some o)(F:FlyT C h0 H e s.heap)
  (hQ:∀ h',FlyT C h0 H e h'->aDa h0 H [] s.heap h'->Q () { s with heap:=h' }):wpAny M A (setFlight (.ref e) none) Q E s:=by
 obtain ⟨n0,nH,oe,vs,a0,T,oT,ts,he,hc,hd,hz,h1,hTe,hT,hdT,h3,nT,nHT⟩:=F
 refine wpAny_setFlight_noneW (base:=qQ [e,T] s.heap) (l:=[]) (cls := .ref C) (a0:=a0) (fl := .none) (xF _ _) trivial ⟨oe,vs,T,oT,ts,he,⟨hc,hz⟩,hd,h1,kJ (by simp),hTe,hT,hdT,h3⟩ fun h2 m1 m2 m3 m4=>hQ h2 (qR (h:=s.heap) (fl:=[]) hth hH n0 nH (fun b hb=>?_) m2 m3) (xG (fl:=[]) (bb:=s.heap) (fun b hb=>?_) trivial m1 fun b o hb hnf=>⟨o.slots,m4 b o hb hnf⟩)
 ·rcases List.mem_cons.mp hb with z | z
  ·exact .inl z
  ·exact .inr (.inl (by rw [List.mem_singleton.mp z];exact ⟨nT,nHT⟩))
 ·rcases List.mem_cons.mp hb with z | z
  ·exact .inl (by rw [z];exact ⟨n0,nH⟩)
  ·exact .inl (by rw [List.mem_singleton.mp z];exact ⟨nT,nHT⟩)
end
end Pu
namespace Pu
open PySem PySem.Spec PyProof.Rows L2
theorem aG0{P:Program}{w:World}{H:Hp}{h:Heap}{a:Addr}{o:HO}(x:iD P w H h a o):∃ ob,h.get? a=some ob:=by
 cases o with
 | lst xs=>obtain ⟨_,_,_,_,e⟩:=x;exact ⟨_,e⟩
 | tup xs=>obtain ⟨_,_,_,ob,e,_⟩:=x;exact ⟨_,e⟩
 | dK kvs=>obtain ⟨_,_,_,_,o,_,_,e,_⟩:=x;exact ⟨_,e⟩
 | dT kvs=>obtain ⟨_,_,_,_,o,_,_,e,_⟩:=x;exact ⟨_,e⟩
 | set S n=>obtain ⟨o,_,_,_,e,_⟩:=x;exact ⟨_,e⟩
 | ins C dx fs=>obtain ⟨_,_,_,e,_⟩:=x;exact ⟨_,e⟩
 | own y=>obtain ⟨_,e⟩:=x;exact ⟨_,e⟩
 | xd fs=>obtain ⟨_,⟨_,_,_,e,_⟩,_⟩:=x;exact ⟨_,e⟩
 | rng lo hi=>obtain ⟨_,_,_,e⟩:=x;exact ⟨_,e⟩
 | frz ob u=>obtain ⟨e,_⟩:=x;exact ⟨_,e⟩
 | tbl ps=>exact ⟨_,(show h.get? a=some _ from x)⟩
 | met f y=>exact ⟨_,(show h.get? a=some _ from x)⟩
 | ext φ=>obtain ⟨_,⟨_,e⟩,_⟩:=x;exact ⟨_,e⟩
theorem uA{P:Program}{w:World}{H:Hp}{h:Heap}(x:HOk P w H h):∀ b u,H b=some u->∃ o,h.get? b=some o:=fun b u e=>aG0 (x b u e)
theorem yX{P:Program}{w:World}{H:Hp}{h0 h h':Heap}{fs:List Addr}(x:HOk P w H h)(m:aDa h0 H fs h h')(hf:∀ b∈fs,H b=none):HOk P w H h':=fun b u e=>by
 refine (x b u e).stay (fun c v hc q=>?_) (fun _ q=>q) fun _ _ q=>q
 have ht:∃ u,H c=some u:=by
  rcases hc with z | z
  ·exact ⟨u,by rw [z];exact e⟩
  ·exact ⟨_,z⟩
 obtain ⟨u',hu⟩:=ht
 exact (m c v q (.inr ⟨u',hu⟩)).1 fun hb=>by rw [hf c hb] at hu;cases hu
theorem Fly.back{C e:Addr}{h0 h1 h:Heap}{H:Hp}(F:Fly C h1 H e h)(k:∀ b o,h0.get? b=some o->∃ o',h1.get? b=some o'):Fly C h0 H e h:=by
 have z:∀ b,h1.get? b=none->h0.get? b=none:=fun b hb=>by
  cases q:h0.get? b with
  | none=>rfl
  | some o=>obtain ⟨o',q'⟩:=k b o q;rw [hb] at q';cases q'
 obtain ⟨n0,nH,oe,vs,a0,he,hc,hd,hz,ht⟩:=F
 refine ⟨z _ n0,nH,oe,vs,a0,he,hc,hd,hz,?_⟩
 rcases ht with ht | ⟨T,oT,ts,h1',hTe,hT,hdT,h3,nT,nHT⟩
 ·exact .inl ht
 ·exact .inr ⟨T,oT,ts,h1',hTe,hT,hdT,h3,z _ nT,nHT⟩
def CX1(P:Program)(w:World):CXT:=fun outer H s E e s'=>∃ ea C H',e = .ref ea/\s'.os=s.os/\AllBare s'.gens/\Un (frs outer) [] H H' s.heap s'.heap/\HOk P w H' s'.heap/\Fly C s.heap H' ea s'.heap/\E (.ref C) none H'
def aOb(X:Cx)(W:Addr->L2.St->Hp->Prop):Prop:=∀ (pins:List (Addr × Obj)) (σ:L2.St) (H:Hp) (s:Shared) (ea C:Addr) (H':Hp) (s':Shared),Inv X pins σ H s->s'.os=s.os->AllBare s'.gens->Un (frs X.stack) [] H H' s.heap s'.heap ->
 HOk X.prog X.w H' s'.heap->Fly C s.heap H' ea s'.heap->W C σ H'->X.xe (.ref ea) s'
theorem aOc{P:Program}{w:World}{K:PySem.W.Frag}{mg:Str->Option Value}{base:Heap}{N:List Str}{qual:Str}{scope:Scope}{f:Addr}{cd:Value}{A:Around}{outer:List Env}{s0:Shared}{H0:Hp}{E:XK} :
  aOb (xW (CX1 P w) P w K mg base N qual scope f cd A outer s0 H0 E) (fun C _ H'=>E (.ref C) none H'):=by
 intro pins σ H s ea C H' s' I hos hb un hok F hE
 have J:Inv _ pins σ H' s':=I.call' (ch:=[]) hos un hok hb fun _ z=>nomatch z
 have th0:∀ b o,s0.heap.get? b=some o->∃ o',s.heap.get? b=some o':=fun b o e=>I.base.there b o e (by intro z;cases z)
 have th1:∀ b o,s0.heap.get? b=some o->∃ o',s'.heap.get? b=some o':=fun b o e=>J.base.there b o e (by intro z;cases z)
 refine aL2 (h0:=s0.heap) (L:=s0.heap.objs.size) J.ok.frames J.stack rfl th1 (uA hok) (F.back th0) fun h' F' m=>?_
 refine ⟨ea,C,H',rfl,J.os,hb,?_,yX hok m J.stkFree,F',hE⟩
 have nl:∀ b o,s0.heap.get? b=some o->b≠s0.heap.objs.size:=fun b o e=>Nat.ne_of_lt (Heap.lt_size e)
 have nf:∀ b o,s0.heap.get? b=some o->b ∉ frs outer->b ∉ frs (envOfC qual scope s0.heap.objs.size f cd :: outer):=fun b o e hn z=>by
  rcases List.mem_cons.mp (show b∈s0.heap.objs.size :: frs outer from z) with z | z
  ·exact nl b o e z
  ·exact hn z
 refine ⟨fun b o e n hb hx=>?_,fun b o e n hb hx=>?_,fun b o e n hx=>J.base.free b o e n (by intro z;cases z),fun b o e hx=>?_,J.base.tups,J.base.frzs,J.base.tbls⟩
 ·exact (m b o (J.base.keep b o e n hb (by intro z;cases z)) (.inl ⟨o,e⟩)).1 (nf b o e hb)
 ·obtain ⟨sl,e1⟩:=J.base.slot b o e n hb (by intro z;cases z)
  obtain ⟨sl2,e2⟩:=(m b _ e1 (.inl ⟨o,e⟩)).2
  exact ⟨sl2,e2⟩
 ·obtain ⟨o',e1⟩:=th1 b o e
  obtain ⟨sl2,e2⟩:=(m b _ e1 (.inl ⟨o,e⟩)).2
  exact ⟨_,e2⟩
theorem aOd{h h':Heap}{H:Hp}{e C:Addr}{vs:List Value}{P:Program}{w:World}(x:Heap.MadeExcOf h h' e (.ref C) vs)(hok:HOk P w H h):Fly C h H e h':=by
 obtain ⟨t,he,ht,_⟩:=x.there
 refine ⟨x.new,?_,_,_,_,he,rfl,rfl,rfl,.inl rfl⟩
 cases q:H e with
 | none=>rfl
 | some u=>obtain ⟨o,z⟩:=uA hok e u q;rw [x.new] at z;cases z
section
variable{X:Cx}{e:Expr}{es:List Expr}{t:TA}{W:Addr->L2.St->Hp->Prop}
theorem aOe{c:String}{C:Addr}{tl:List Value}{np cpos pos:Pos}(hL:aOb X W)(hc:ExcAt X.K c C tl)(hm:X.mg (Str.ofString c)=some (.ref C))(hcalm:X.calm=true)(ha:PA X (e :: es) t)(hg:Gl X (Str.ofString c):=by rfl)(hdb:(Str.ofString c==("__debug__" : Str))=false:=by decide)
  (he:starEach (e :: es) X.env=(false,eval e X.env) :: starEach es X.env:=by rfl) (hpl:(backTo cpos (starEach es X.env)).any (·.1)=false:=by rfl) (hlen:(e :: es).length<=100:=by decide) :
  PS X (.Raise (some (.Call (.Name (Str.ofString c) np) (e :: es) [] cpos)) none pos) (fun _ σ H=>t σ H fun vs H'=>vs.length<=100/\W C σ H'):=by
 intro pins s σ H Dn I h
 obtain ⟨B,newId,initId,bmB,FB,hob⟩:=hc.ob
 obtain ⟨N,nm,q,bs,hdct,sn,sub,ab,col,dd,k0,k1,k2,k3,k5,mN,hC,hN,hni,T⟩:=hob X.base I.ok.mod.kin
 refine wpAny_Raise_call_subT (C:=C) (nm:=nm) (q:=q) (N:=N) (bs:=bs) (bm:=tl) (hdct:=hdct) (sn:=sn) (sub:=sub) (ab:=ab) (col:=col) (dd:=dd) (k0:=k0) (k1:=k1) (k2:=k2) (k3:=k3) (k5:=k5)
  FB (mN:=mN) (T.hasType FB.hasBase) (I.ok.hd hcalm) (by rw [he];show (false||(backTo cpos (starEach es X.env)).any (·.1))=false;rw [hpl];rfl) hni (tH I hg hm ⟨rfl,?_⟩ hdb)
 have hh:=ha cpos pins s σ H _ I h
 rw [he] at hh ⊢
 refine Calls.evalArgs_plain (thn hh fun us s2 ⟨vs,H2,I2,r2,hv,hw⟩=>⟨rfl,?_,I2.bk _ _ hC,hN.keeps I2.bk,T.keeps I2.bk,fun h' ea hx=>?_⟩)
 ·show us.length<=sizeLine
  rw [<-r2.length]
  exact Nat.le_trans hv (by decide)
 ·exact hL pins σ H2 s2 ea C H2 { s2 with heap:=h' } I2 rfl I2.bare (Un.kept hx.keeps) (I2.hok.kept hx.keeps) (aOd hx I2.hok) hw
end
end Pu
namespace Pu
open PySem PySem.Spec PyProof.Rows L2
theorem aG1{fs gs:List Addr}{H0 H:Hp}{h0 h h':Heap}(u:Un fs [] H0 H h0 h)(m:aDa h0 H gs h h')(hg:∀ b∈gs,b∈fs):Un fs [] H0 H h0 h':=by
 have nx:∀ b:Addr,b ∉ ([]:List Addr):=fun b z=>by cases z
 refine ⟨fun b o e n hb hx=>?_,fun b o e n hb hx=>?_,fun b o e n hx=>u.free b o e n hx,fun b o e hx=>?_,u.tups,u.frzs,u.tbls⟩
 ·exact (m b o (u.keep b o e n hb hx) (.inl ⟨o,e⟩)).1 fun z=>hb (hg b z)
 ·obtain ⟨sl,e1⟩:=u.slot b o e n hb hx
  obtain ⟨sl2,e2⟩:=(m b _ e1 (.inl ⟨o,e⟩)).2
  exact ⟨sl2,e2⟩
 ·obtain ⟨o',e1⟩:=u.there b o e hx
  obtain ⟨sl2,e2⟩:=(m b _ e1 (.inl ⟨o,e⟩)).2
  exact ⟨_,e2⟩
structure FS(X:Cx)(pins:List (Addr × Obj))(σ:L2.St)(H:Hp)(ea C:Addr)(s:Shared):Prop where
 ex:∃ Hc sc,Inv X pins σ Hc sc/\s.os=sc.os/\AllBare s.gens/\Un (frs X.stack) [] Hc H sc.heap s.heap/\HOk X.prog X.w H s.heap/\FlyT C sc.heap H ea s.heap
section
variable{X:Cx}{pins:List (Addr × Obj)}{σ:L2.St}{H:Hp}{ea C:Addr}{s:Shared}
theorem FS.inv(F:FS X pins σ H ea C s):Inv X pins σ H s:=by
 obtain ⟨Hc,sc,I,os,bare,un,hok,f⟩:=F.ex
 exact I.call' (ch:=[]) os un hok bare fun _ z=>nomatch z
theorem FS.there(F:FS X pins σ H ea C s):∃ oe,s.heap.get? ea=some oe/\oe.cls = .ref C:=by
 obtain ⟨Hc,sc,I,os,bare,un,hok,f⟩:=F.ex
 obtain ⟨_,_,oe,_,_,_,_,_,he,hc,_⟩:=f
 exact ⟨oe,he,hc⟩
abbrev held(X:Cx)(ea:Addr):Cx:={ X with A:=X.A.mark (some (.ref ea)),calm:=false,xe:=fun _ _=>False }
theorem aR5(ok:X.Ok)(ea:Addr):(held X ea).Ok :=
 ⟨ok.mod,ok.kind,ok.glob,ok.blt,ok.above,ok.inj,ok.has,ok.cab,(fun z=>nomatch z),ok.frames,ok.stk,ok.exf,ok.bs,ok.bsz,ok.noex,ok.exfs,ok.funs,ok.frf⟩
theorem aG2(I:Inv X pins σ H s)(ea:Addr):Inv (held X ea) pins σ H s:=⟨aR5 I.ok ea,I.os,I.bare,I.base,I.loc,I.cell,I.free,I.freeC,I.pin,I.hok,I.len⟩
theorem qT(ok:X.Ok)(I:Inv (held X ea) pins σ H s):Inv X pins σ H s:=⟨ok,I.os,I.bare,I.base,I.loc,I.cell,I.free,I.freeC,I.pin,I.hok,I.len⟩
theorem aL3{D:Ends}{f:Flow}{s':Shared}(ok:X.Ok)(h:SP (held X ea) pins D f s'):SP X pins D f s':=by
 cases f with
 | next=>obtain ⟨σ',H',I,q⟩:=h;exact ⟨σ',H',qT ok I,q⟩
 | brk=>obtain ⟨σ',H',I,q⟩:=h;exact ⟨σ',H',qT ok I,q⟩
 | cont=>obtain ⟨σ',H',I,q⟩:=h;exact ⟨σ',H',qT ok I,q⟩
 | ret u=>obtain ⟨v,σ',H',I,r,q⟩:=h;exact ⟨v,σ',H',qT ok I,r,q⟩
theorem FS.set{M:Model}{A:Around}{E:Value->Shared->Prop}{Q:Unit->Shared->Prop}(F:FS X pins σ H ea C s)(h:∀ s',FS X pins σ H ea C s'->Q () s'):wpAny M A (setFlight (.ref ea) none) Q E s:=by
 obtain ⟨Hc,sc,I,os,bare,un,hok,f⟩:=F.ex
 refine aR4 (fun b o e=>un.there b o e (by intro z;cases z)) (uA hok) f fun h' f' m=>h _ ⟨Hc,sc,I,os,bare,aG1 un m (by intro b z;cases z),yX hok m (by intro b z;cases z),f'⟩
end
section
variable{M:Model}{A:Around}{E:Value->Shared->Prop}{nm q:Str}{C N:Addr}{bs bm:List Value}{hdct:Bool}{sn:List Str}{sub:List Value}{ab:Bool}{col:Option Bool}{dd:Option Addr}{k0 k1 k2 k3 k5:Option Value}{newId:String}
variable{nm' q':Str}{D' N':Addr}{bs' bm':List Value}{hdct':Bool}{sn':List Str}{sub':List Value}{ab':Bool}{col':Option Bool}{dd':Option Addr}{j0 j1 j2 j3 j5:Option Value}{newId':String}
theorem aBy{h:Heap}{g:Array GenState}{d:Drawn}{t:Nat}{os:OsState}{e:Addr}{oe:Obj}{Q:Bool->Shared->Prop}
  (hC:h.get? C=some (excClassObj nm q C N bs bm hdct sn sub ab col dd k0 k1 k2 k3 k5 newId)) (hD:h.get? D'=some (excClassObj nm' q' D' N' bs' bm' hdct' sn' sub' ab' col' dd' j0 j1 j2 j3 j5 newId')) (he:h.get? e=some oe) (hcls:oe.cls = .ref C) (hbase:bm'.contains (.type "BaseException")=true)
  (hq:Q ((Value.ref C :: bm).contains (.ref D')) ⟨h,g,d,t,os⟩):wpAny M A (excMatches (.ref e) (.ref D')) Q E ⟨h,g,d,t,os⟩:=by
 have hcB:(Value.ref D' :: bm').contains (.type "BaseException")=true:=by rw [List.contains_cons,hbase,Bool.or_true]
 have f:=tc_notTuple
 unfold excMatches
 cases hb:(Value.ref C :: bm).contains (.ref D') <;> rw [hb] at hq <;>
  repeat (first | (with_reducible refine wpAny_loadPart_at he ?_;rw [hcls]) | with_reducible refine wpAny_loadPart_at hD ?_ | (with_reducible refine wpAny_isSubtype_exc hD ?_;rw [hcB]) | (with_reducible refine wpAny_isSubtype_exc hC ?_;rw [hb]) | wp_step)
 ·exact hq
 ·exact hq
end
def PH(X:Cx)(hs:List ExceptHandler)(t:Addr->TS):Prop:=∀ (pins:List (Addr × Obj)) (s:Shared) (σ:L2.St) (H:Hp) (Dn:Ends) (ea C:Addr),FS X pins σ H ea C s->t C Dn σ H->wpAny (model X.prog X.w) X.A (handleBy (.ref ea) X.env hs) (SP X pins Dn) X.xe s
section
variable{X:Cx}
theorem aR6{d:String}{D':Addr}{bm':List Value}{np pos:Pos}{b₀:Stmt}{suite:List Stmt}{rest:List ExceptHandler}{ts:TS}{tr:Addr->TS}(hD:ExcAt X.K d D' bm')(hm:X.mg (Str.ofString d)=some (.ref D'))(hs:∀ ea,PSs (held X ea) (b₀ :: suite) ts)(hr:PH X rest tr)
  (hg:Gl X (Str.ofString d):=by rfl) (hdb:(Str.ofString d==("__debug__" : Str))=false:=by decide) :
  PH X (.ExceptHandler (some (.Name (Str.ofString d) np)) none (b₀ :: suite) pos :: rest) (fun C Dn σ H=>∃ c bm,ExcAt X.K c C bm/\if (Value.ref C :: bm).contains (.ref D')=true then ts Dn σ H else tr C Dn σ H):=by
 intro pins s σ H Dn ea C F ⟨c,bm,hC,h⟩
 have I:=F.inv
 obtain ⟨oe,he,hcls⟩:=F.there
 obtain ⟨B,newId,initId,bmB,FB,hob⟩:=hC.ob
 obtain ⟨B',newId',initId',bmB',FB',hob'⟩:=hD.ob
 obtain ⟨N,nm,q,bs,hdct,sn,sub,ab,col,dd,k0,k1,k2,k3,k5,mN,oC,_⟩:=hob s.heap I.kIn
 obtain ⟨N',nm',q',bs',hdct',sn',sub',ab',col',dd',j0,j1,j2,j3,j5,mN',oD,_,_,T'⟩:=hob' s.heap I.kIn
 refine wpAny_handleBy_cons (codeAny_handlers_test (tH (aG2 I ea) hg hm ?_ hdb)) (by intro q;cases q)
 obtain ⟨hp,g,dr,tk,os⟩:=s
 refine aBy oC oD he hcls (T'.hasType FB'.hasBase) ?_
 split at h
 ·rename_i hb
  rw [hb]
  refine codeAny_handlers_suite (F.set fun s' F'=>wpAny_mono (hs ea pins s' σ H Dn (aG2 F'.inv ea) h) (fun f s2 z=>aL3 I.ok z) fun _ _ z=>z.elim)
 ·rename_i hb
  rw [Bool.not_eq_true] at hb
  rw [hb]
  exact hr pins _ σ H Dn ea C F h
def onExc(X:Cx)(hs:List ExceptHandler)(pins:List (Addr × Obj))(Dn:Ends)(e:Value)(s1:Shared):Prop :=
 wpAny (model X.prog X.w) X.A (noteFrame e X.env) (fun _ s2=>wpAny (model X.prog X.w) X.A (setFlight e none) (fun _ s3=>wpAny (model X.prog X.w) X.A (handleBy e X.env hs) (SP X pins Dn) X.xe s3) X.xe s2) X.xe s1
abbrev aEn(X:Cx)(pn:List (Addr × Obj))(E:Value->Shared->Prop):Cx:={ X with pn:=pn,xe:=E }
theorem aR7{pn:List (Addr × Obj)}{E:Value->Shared->Prop}(ok:X.Ok):(aEn X pn E).Ok :=
 ⟨ok.mod,ok.kind,ok.glob,ok.blt,ok.above,ok.inj,ok.has,ok.cab,ok.hd,ok.frames,ok.stk,ok.exf,ok.bs,ok.bsz,ok.noex,ok.exfs,ok.funs,ok.frf⟩
theorem aOf{pins:List (Addr × Obj)}{E:Value->Shared->Prop}{σ:L2.St}{H:Hp}{s:Shared}(I:Inv X pins σ H s):Inv (aEn X (X.pn++pins) E) [] σ H s :=
 ⟨aR7 I.ok,I.os,I.bare,I.base,I.loc,I.cell,I.free,I.freeC,fun p hp=>I.pin p (by rw [List.append_nil] at hp;exact hp),I.hok,I.len⟩
theorem nG{pins pins':List (Addr × Obj)}{E:Value->Shared->Prop}{σ:L2.St}{H:Hp}{s:Shared}(ok:X.Ok)(I:Inv (aEn X (X.pn++pins) E) pins' σ H s):Inv X pins σ H s :=
 ⟨ok,I.os,I.bare,I.base,I.loc,I.cell,I.free,I.freeC,fun p hp=>I.pin p (List.mem_append_left _ hp),I.hok,I.len⟩
theorem aL4{pins:List (Addr × Obj)}{E:Value->Shared->Prop}{D:Ends}{f:Flow}{s':Shared}(ok:X.Ok)(h:SP (aEn X (X.pn++pins) E) [] D f s'):SP X pins D f s':=by
 cases f with
 | next=>obtain ⟨σ',H',I,q⟩:=h;exact ⟨σ',H',nG ok I,q⟩
 | brk=>obtain ⟨σ',H',I,q⟩:=h;exact ⟨σ',H',nG ok I,q⟩
 | cont=>obtain ⟨σ',H',I,q⟩:=h;exact ⟨σ',H',nG ok I,q⟩
 | ret u=>obtain ⟨v,σ',H',I,r,q⟩:=h;exact ⟨v,σ',H',nG ok I,r,q⟩
theorem aVm{body:List Stmt}{h₀:ExceptHandler}{hs:List ExceptHandler}{pos:Pos}{tb:(Addr->L2.St->Hp->Prop)->TS}{th:Addr->TS}(hst:X.stack=X.env :: X.outer/\X.env.frame=some X.env.locals)
  (hb:∀ (pn:List (Addr × Obj)) (E:Value->Shared->Prop) (W:Addr->L2.St->Hp->Prop),aOb (aEn X pn E) W->PSs (aEn X pn E) body (tb W)) (hh:PH X (h₀ :: hs) th) :
  PS X (.Try body (h₀ :: hs) [] [] pos) (fun Dn σ H=>tb (fun C σ' H'=>th C Dn σ' H') Dn σ H):=by
 intro pins s σ H Dn I h
 refine wpAny_Try_except ?_
 have hL:aOb (aEn X (X.pn++pins) (onExc X (h₀ :: hs) pins Dn)) (fun C σ' H'=>th C Dn σ' H'):=by
  intro pins' σ' Hc sc ea C H' s' J hos hbare un hok F hW
  have J':=nG (pins:=pins) I.ok J
  have K':Inv X pins σ' H' s':=J'.call' (ch:=[]) hos un hok hbare fun _ z=>nomatch z
  have fr:=K'.ok.frames
  have sk:=K'.stack
  rw [hst.1] at fr sk
  refine aOa fr sk hst.2 (fun b o e=>un.there b o e (by intro z;cases z)) (uA hok) F fun h' F' m=>?_
  have un':Un (frs X.stack) [] Hc H' sc.heap h':=aG1 un m (by rw [hst.1];exact fun _ z=>z)
  exact hh pins _ σ' H' Dn ea C ⟨Hc,sc,J',hos,hbare,un',yX hok m (by rw [<-hst.1];exact K'.stkFree),F'⟩ hW
 refine wpAny_mono (hb _ _ _ hL [] s σ H Dn (aOf I) h) (fun f s1 z=>?_) fun e s1 z=>z
 have z':=aL4 I.ok z
 cases f with
 | next=>exact wpAny_pure z'
 | brk=>exact z'
 | cont=>exact z'
 | ret u=>exact z'
end
end Pu
namespace Pu
open PySem PySem.Spec PyProof.Rows L2
abbrev XW:=D->L2.St->Hp->Prop
def Exc(K:PySem.W.Frag)(B A:List Addr)(H:Hp)(sm:Bool)(st:PSt)(x:D)(W:XW):Prop:=∀ A' st' σ' H',Le A H A' H'->RS K B A' H' st' σ'->(sm=true->st'=st)->W x σ' H'
theorem Exc.mono{K:PySem.W.Frag}{B A A1:List Addr}{H H1:Hp}{sm:Bool}{st:PSt}{x:D}{W:XW}(l:Le A H A1 H1)(h:Exc K B A H sm st x W):Exc K B A1 H1 sm st x W:=fun A' st' σ' H' l'=>h A' st' σ' H' (l.trans l')
theorem Exc.any{K:PySem.W.Frag}{B A:List Addr}{H:Hp}{sm:Bool}{st st2:PSt}{x:D}{W:XW}(h:Exc K B A H false st2 x W):Exc K B A H sm st x W:=fun A' st' σ' H' l r _=>h A' st' σ' H' l r fun z=>nomatch z
def Out(K:PySem.W.Frag)(B A:List Addr)(H:Hp)(sm:Bool)(st:PSt)(W:XW)(Dn:Ends)(r:R Fl):Prop:=match r with
 | .ok r=>aHm K B A H r Dn
 | .exc x=>Exc K B A H sm st x W
 | .bad=>False
theorem Out.mono{K:PySem.W.Frag}{B A A1:List Addr}{H H1:Hp}{sm:Bool}{st:PSt}{W:XW}{Dn:Ends}{r:R Fl}(l:Le A H A1 H1)(h:Out K B A H sm st W Dn r):Out K B A1 H1 sm st W Dn r:=by
 cases r with
 | ok r=>exact aHm.mono l h
 | exc x=>exact Exc.mono l h
 | bad=>exact h
theorem Out.any{K:PySem.W.Frag}{B A:List Addr}{H:Hp}{sm:Bool}{st st2:PSt}{W:XW}{Dn:Ends}{r:R Fl}(h:Out K B A H false st2 W Dn r):Out K B A H sm st W Dn r:=by
 cases r with
 | ok r=>exact h
 | exc x=>exact Exc.any h
 | bad=>exact h
def tSX(K:PySem.W.Frag)(B:List Addr)(sm:Bool)(W:XW)(b:Bd):TS:=fun Dn σ H=>∃ A st,RS K B A H st σ/\Out K B A H sm st W Dn (b st)
def tIX(K:PySem.W.Frag)(B:List Addr)(W:XW)(f:Ex):TE:=fun σ H Q=>∃ A st,RS K B A H st σ/\(match f st with
 | .ok d=>∀ v H',aZ H H'->Rep K (hide (A++B) H') d v->Q v H'
 | .exc x=>∀ H',aZ H H'->W x σ H'
 | .bad=>False)
def aG3(X:Cx)(W:XW):Prop:=aOb X fun C σ H'=>∃ c bm,ExcAt X.K c C bm/\W (.exn c [] []) σ H'
section
variable{X:Cx}{B:List Addr}{a b e o:Expr}{f g:Ex}{pos:Pos}{sm:Stmt}{rest:List Stmt}{bd bd':Bd}{W:XW}{s1 s2:Bool}
theorem aJm(h:PS X sm (tSX X.K B s1 W bd)):PS X sm (tSX X.K B false W bd):=fD h fun Dn σ H ⟨A,st,rs,q⟩=>⟨A,st,rs,q.any⟩
theorem aBz(h:PS X sm (tS X.K B bd)):PS X sm (tSX X.K B s1 W (sNX bd)):=fD h (by
 rintro Dn σ H ⟨A,st,rs,q⟩
 unfold sNX at q
 cases hb:bd st with
 | ok r=>rw [hb] at q;exact ⟨A,st,r,rs,hb,q⟩
 | exc x=>rw [hb] at q;exact q.elim
 | bad=>rw [hb] at q;exact q.elim)
theorem aT6:PSs X [] (tSX X.K B s1 W cW):=tW aI9 (by
 rintro Dn σ H ⟨A,st,rs,q⟩
 exact q A σ H Le.refl rs)
theorem aJn(h1:PS X sm (tSX X.K B s1 W bd)):PSs X [sm] (tSX X.K B s1 W bd):=aDj h1
theorem yZ(h1:PS X sm (tSX X.K B s1 W bd))(h2:PSs X rest (tSX X.K B s2 W bd')):PSs X (sm :: rest) (tSX X.K B false W (bN bd bd')):=by
 refine tW (aAl h1 h2) ?_
 rintro Dn σ H ⟨A,st,rs,q⟩
 refine ⟨A,st,rs,?_⟩
 unfold bN aCa at q
 cases hb:bd st with
 | ok r =>
  rw [hb] at q
  cases r with
  | nx s1=>exact fun A' σ' H' l rs'=>⟨A',s1,rs',(q.mono l).any⟩
  | rt d=>exact q
  | bk s1=>exact q
  | ct s1=>exact q
 | exc x=>rw [hb] at q;exact Exc.any q
 | bad=>rw [hb] at q;exact q
theorem aYy{c:Expr}{t:Ex}{x y:List Stmt}(hc:PT X c (tT X.K B t))(ha:PSs X x (tSX X.K B s1 W bd))(hb:PSs X y (tSX X.K B s1 W bd')):PS X (.If c x y pos) (tSX X.K B s1 W (sIf (eNX t) bd bd')):=fD (aRw hc ha hb) (by
 rintro Dn σ H ⟨A,st,rs,q⟩
 unfold sIf eNX at q
 cases ht:t st with
 | exc x=>rw [ht] at q;exact q.elim
 | bad=>rw [ht] at q;exact q.elim
 | ok d =>
  rw [ht] at q
  cases d<;>first | exact q.elim | skip
  rename_i k
  refine ⟨A,st,k,rs,ht,fun H1 s1=>?_⟩
  cases k with
  | true=>exact ⟨A,st,rs.mono s1,Out.mono (Le.of s1) q⟩
  | false=>exact ⟨A,st,rs.mono s1,Out.mono (Le.of s1) q⟩)
theorem aYz(i:Nat){x:Str}{pos':Pos}(he:PE X e (tIX X.K B W f))(hN:X.N.Nodup)(hi:X.N[i]?=some x:=by rfl)(hx:Loc X.env.scope x:=by first | exact Or.inl rfl | exact Or.inr rfl)(hs:swapsWith e (some (.Name x pos')) pos.line X.env=pure false:=by rfl)
  (hf:X.fn x=true\/X.env.scope.names.lookup x=some .local:=by first | exact .inl rfl | exact .inr rfl | assumption):PS X (.Assign [.Name x pos'] e pos) (tSX X.K B true W (cX i f)):=fD (aAm hN hi hx he hs hf) (by
 rintro Dn σ H ⟨A,st,rs,q⟩
 refine ⟨A,st,rs,?_⟩
 unfold cX at q
 cases hf:f st with
 | ok d=>rw [hf] at q;exact fun v H' s r=>q A _ H' (Le.of s) ((rs.mono s).set i r)
 | exc x=>rw [hf] at q;exact fun H' s=>q A st σ H' (Le.of s) (rs.mono s) fun _=>rfl
 | bad=>rw [hf] at q;exact q)
theorem x_raise{c:String}{C:Addr}{tl:List Value}{es:List Expr}{r:Exs}{np cpos:Pos}(hL:aG3 X W)(hc:ExcAt X.K c C tl)(hm:X.mg (Str.ofString c)=some (.ref C))(hcalm:X.calm=true)(ha:PA X (e :: es) (tA X.K B r))(hg:Gl X (Str.ofString c):=by rfl)(hdb:(Str.ofString c==("__debug__" : Str))=false:=by decide)
  (he:starEach (e :: es) X.env=(false,eval e X.env) :: starEach es X.env:=by rfl) (hpl:(backTo cpos (starEach es X.env)).any (·.1)=false:=by rfl) (hlen:(e :: es).length<=100:=by decide) :
  PS X (.Raise (some (.Call (.Name (Str.ofString c) np) (e :: es) [] cpos)) none pos) (tSX X.K B true W (uR c r)):=by
 refine fD (aOe hL hc hm hcalm ha hg hdb he hpl hlen) ?_
 rintro Dn σ H ⟨A,st,rs,q⟩
 unfold uR at q
 cases hr:r st with
 | exc x=>rw [hr] at q;exact q.elim
 | bad=>rw [hr] at q;exact q.elim
 | ok ds =>
  rw [hr] at q
  by_cases hl:ds.length<=100
  ·refine ⟨A,st,ds,rs,hr,fun vs H1 s1 r1=>⟨by rw [r1.length];exact hl,c,tl,hc,?_⟩⟩
   have q':Out X.K B A H true st W Dn (aH (ds.length<=100) (.exc (.exn c [] []))):=q
   rw [aG hl] at q'
   exact q' A st σ H1 (Le.of s1) (rs.mono s1) fun _=>rfl
  ·have q':Out X.K B A H true st W Dn (aH (ds.length<=100) (.exc (.exn c [] []))):=q
   rw [show aH (ds.length<=100) (R.exc (α:=Fl) (.exn c [] [])) = .bad from if_neg hl] at q'
   exact q'.elim
end
end Pu
namespace Pu
open PySem PySem.Spec PyProof.Rows L2
def spE(K:PySem.W.Frag)(np:Nat)(p:List D->R D):Sp:=fun vs H Q E=>∃ A ds,Own A H/\bH K (hide A H) ds vs/\ds.length=np/\(match p ds with
 | .ok d=>∀ v H',aZ H H'->Rep K (hide A H') d v->Q v H'
 | .exc x=>∀ C c bm H',x = .exn c [] []->ExcAt K c C bm->aZ H H'->E (.ref C) none H'
 | .bad=>False)
theorem bB8{P:Program}{w:World}{K:PySem.W.Frag}{mg:Str->Option Value}{base:Heap}{x qual:Str}{st:Stmt}{f:Addr}{fd:FuncData}{N ps:List Str}{k:Nat}{sm:Bool}{dV:Value}(F:FunD K x qual st dV f fd)(S:FnScope N ps (aF st))(np n:Nat)(bd:Bd)(hnp:ps.length=np)(hn:N.length=n)
  (hb:∀ (cdv:Value) (A:Around) (outer:List Env) (s:Shared) (H:Hp) (E:XK) (B:List Addr) (W:XW),Room k (A.deeper (envOfC qual (aF st) s.heap.objs.size f cdv)) ->
   aG3 (xW (CX1 P w) P w K mg base N qual (aF st) f cdv A outer s H E) W->PSs (xW (CX1 P w) P w K mg base N qual (aF st) f cdv A outer s H E) (bI st) (tSX K B sm W bd)):FnOk P w K mg base (CX1 P w) (k+1) f fd ps (spE K np (eN np n bd)):=by
 obtain ⟨oc,od,kV,doc,pm,an,cdv,ct,osl,rfl,lk,hcd⟩:=F.ex
 refine aM3 lk hcd S (fun vs H Q E h=>?_) fun A outer s H vs Q E hr h=>?_
 ·obtain ⟨A,ds,own,r,hl,_⟩:=h
  rw [r.length,hl,hnp]
 ·obtain ⟨B,ds,own,r,hl,q⟩:=h
  let W:XW:=fun x _ H'=>∀ C c bm,x = .exn c [] []->ExcAt K c C bm->E (.ref C) none H'
  refine ⟨tSX K B sm W bd,hb cdv A outer s H E B W hr ?_,?_⟩
  ·intro pins σ H1 s1 ea C H' s' I h1 h2 h3 h4 h5 ⟨c,bm,hc,hw⟩
   exact aOc pins σ H1 s1 ea C H' s' I h1 h2 h3 h4 h5 (hw C c bm rfl hc)
  ·have rs:=aBo (N:=N) own r
   rw [hl,hn] at rs
   refine ⟨[],_,rs,?_⟩
   have fin:∀ {A':List Addr} {H':Hp},Le [] H A' H'->aZ H H':=fun {A' H'} l=>by
    unfold Le at l
    rw [sW] at l
    exact l.trans (bM _ _)
   unfold eN at q
   rw [aG hl] at q
   cases hfl:bd (ds.map (fun d=>some (Sl.v d))++List.replicate (n - np) none) with
   | ok fl =>
    rw [hfl] at q
    cases fl with
    | nx s1=>exact fun A' σ' H' l rs'=>q _ H' (fin l) (bW.mpr rfl)
    | rt d'=>exact fun A' v H' l rv=>q v H' (fin l) (rv.mono (gU fun a ha=>List.mem_append_right _ ha))
    | bk s1=>exact q.elim
    | ct s1=>exact q.elim
   | exc x =>
    rw [hfl] at q
    exact fun A' st' σ' H' l rs' _ C c bm e hc=>q C c bm H' e hc (fin l)
   | bad=>rw [hfl] at q;exact q
structure DefOkX(P:Program)(w:World)(K:PySem.W.Frag)(mg:Str->Option Value)(base:Heap)(x:Str)(k np:Nat)(p:List D->R D):Prop where
 ex:∃ (fa:Addr) (fd:FuncData) (ps:List Str),FnOk P w K mg base (CX1 P w) k fa fd ps (spE K np p)/\mg x=some (.ref fa)/\PySem.W.keepIn K (.ref fa)=true/\Binds K fd ps []
 len:∀ ds,p ds ≠ .bad->ds.length=np
theorem aL5{np n:Nat}{bd:Bd}(ds:List D)(h:eN np n bd ds ≠ .bad):ds.length=np:=by
 by_cases hl:ds.length=np
 ·exact hl
 ·exact (h (if_neg hl)).elim
theorem DefOkX.of{P:Program}{w:World}{K:PySem.W.Frag}{mg:Str->Option Value}{base:Heap}{x:Str}{k np n:Nat}{bd:Bd}{fa:Addr}{fd:FuncData}{ps:List Str}(h:FnOk P w K mg base (CX1 P w) k fa fd ps (spE K np (eN np n bd)))(m:mg x=some (.ref fa))
  (kp:PySem.W.keepIn K (.ref fa)=true) (b:Binds K fd ps []):DefOkX P w K mg base x k np (eN np n bd):=⟨⟨fa,fd,ps,h,m,kp,b⟩,aL5⟩
section
variable{X:Cx}{B:List Addr}{a b e o:Expr}{f g:Ex}{pos:Pos}{W:XW}
theorem aR8{CX:CXT}{k:Nat}{fa:Addr}{fd:FuncData}{ps:List Str}{sp:Sp}{dvs:List V}{ds:List Value}{E:XK}{pins:List (Addr × Obj)}{σ:L2.St}{H:Hp}{s:Shared}{Q:VK}{us:List Value}{vs:List V}(F:FnOk X.prog X.w X.K X.mg X.base CX k fa fd ps sp)(hr:Room k X.A)(hb:Binds X.K fd ps ds)(hd:Vals dvs ds)
  (I:Inv X pins σ H s) (r:Vals vs us) (hx:∀ e s',CX X.stack H s E e s'->X.xe e s') (h:sp (vs++dvs) H Q E):wpAny (model X.prog X.w) X.A (call (.ref fa) us) (EP X pins σ Q) X.xe s:=by
 have r2:Vals (vs++dvs) (us++ds):=r.append hd
 have hl:(us++ds).length=ps.length:=by rw [<-r2.length];exact F.len _ _ _ _ h
 refine wpAny_call (codeAny_mono (F.run X.A X.stack s H ⟨us,[]⟩ (us++ds) (vs++dvs) Q E hr I.env0 (hb s us I.kIn hl) r2 h) fun r s' hq=>?_)
 cases r with
 | error e=>exact hx e s' hq
 | ok fl =>
  cases fl with
  | ret u=>exact I.after hq
  | next=>exact False.elim hq
  | brk=>exact False.elim hq
  | cont=>exact False.elim hq
def EW(X:Cx)(W:XW)(σ:L2.St):XK:=fun cv _ H'=>∃ C c bm,cv = .ref C/\ExcAt X.K c C bm/\W (.exn c [] []) σ H'
theorem bB9{pins:List (Addr × Obj)}{σ:L2.St}{H:Hp}{s:Shared}(hL:aG3 X W)(I:Inv X pins σ H s)(e:Value)(s':Shared)(h:CX1 X.prog X.w X.stack H s (EW X W σ) e s'):X.xe e s':=by
 obtain ⟨ea,C,H',rfl,os,bare,un,hok,F,C',c,bm,e1,hc,hw⟩:=h
 cases e1
 exact hL pins σ H s ea C H' s' I os bare un hok F ⟨c,bm,hc,hw⟩
theorem aR9{x:Str}{k j np:Nat}{p:List D->R D}{es:List Expr}{r:Exs}{p0:Pos}(h:DefOkX X.prog X.w X.K X.mg X.base x k np p)(hL:aG3 X W)(hr:Room j X.A)(hk:k<=j)(ha:PA X (e :: es) (tA X.K B r))(hg:Gl X x:=by rfl)(hdb:(x==("__debug__" : Str))=false:=by decide)
  (he:starEach (e :: es) X.env=(false,eval e X.env) :: starEach es X.env:=by rfl) (hpl:(backTo pos (starEach es X.env)).any (·.1)=false:=by rfl):PE X (.Call (.Name x p0) (e :: es) [] pos) (tIX X.K B W (aDu p r)):=by
 obtain ⟨fa,fd,ps,F,m,kp,bd⟩:=h.ex
 intro pins s σ H Q I ⟨A,st,rs,q⟩
 unfold aDu at q
 cases hr':r st with
 | exc x=>rw [hr'] at q;exact q.elim
 | bad=>rw [hr'] at q;exact q.elim
 | ok xs =>
  rw [hr'] at q
  refine wpAny_Call_Name_kw (tH I hg m ?_ hdb)
  refine PySem.W.callWith_K (h₀:=X.base) I.ok.mod.kin kp (thn (ha pos pins s σ H (fun vs H1=>aZ H H1/\bH X.K (hide (A++B) H1) xs vs) I ⟨A,st,xs,rs,hr',fun vs H1 s1 r1=>⟨s1,r1⟩⟩) fun us s1 ⟨vs,H1,I1,rv,sm,rp⟩=>⟨I1.kIn,?_⟩) he hpl
  refine aR8 (dvs:=[]) (E:=EW X W σ) F (hr.mono hk) bd .nil I1 rv (bB9 hL I1) ?_
  rw [List.append_nil]
  have q':(match p xs with
   | .ok d=>∀ v H',aZ H H'->Rep X.K (hide (A++B) H') d v->Q v H'
   | .exc x=>∀ H',aZ H H'->W x σ H'
   | .bad=>False):=q
  refine ⟨A++B,xs,rs.own.mono sm,rp,h.len xs fun z=>?_,?_⟩
  ·rw [z] at q';exact q'
  ·cases hp:p xs with
   | ok d=>rw [hp] at q';exact fun v H' s' r'=>q' v H' (sm.trans s') r'
   | exc x=>rw [hp] at q';exact fun C c bm H' e1 hc s'=>⟨C,c,bm,rfl,hc,by rw [<-e1];exact q' H' (sm.trans s')⟩
   | bad=>rw [hp] at q';exact q'
def IsA(K:PySem.W.Frag)(D':Addr)(b:Bool)(c:String):Prop:=∀ C bm,ExcAt K c C bm->(Value.ref C :: bm).contains (.ref D')=b
def PHD(X:Cx)(B:List Addr)(hs:List ExceptHandler)(hl:List (List String × List String × (String->Bd))):Prop :=
 PH X hs fun C Dn σ H=>∃ c bm A st r,ExcAt X.K c C bm/\RS X.K B A H st σ/\aH3 hl c st = .ok r/\aHm X.K B A H r Dn
theorem aRa:PHD X B [] []:=fun _ _ _ _ _ _ _ _ ⟨_,_,_,_,_,_,_,h,_⟩=>nomatch h
theorem aOg{d:String}{D':Addr}{bm':List Value}{np hpos:Pos}{b₀:Stmt}{suite:List Stmt}{rest:List ExceptHandler}{yes no:List String}{bh:Bd}{hl:List (List String × List String × (String->Bd))}(hD:ExcAt X.K d D' bm')(hm:X.mg (Str.ofString d)=some (.ref D'))(hy:∀ c∈yes,IsA X.K D' true c)(hn:∀ c∈no,IsA X.K D' false c)
  (hs:∀ ea,PSs (held X ea) (b₀ :: suite) (tS X.K B bh)) (hr:PHD X B rest hl) (hg:Gl X (Str.ofString d):=by rfl) (hdb:(Str.ofString d==("__debug__" : Str))=false:=by decide) :
  PHD X B (.ExceptHandler (some (.Name (Str.ofString d) np)) none (b₀ :: suite) hpos :: rest) ((yes,no,hNo bh) :: hl):=by
 intro pins s σ H Dn ea C F ⟨c,bm,A,st,r,hC,rs,h,q⟩
 refine aR6 (np:=np) (pos:=hpos) hD hm hs hr hg hdb pins s σ H Dn ea C F ⟨c,bm,hC,?_⟩
 have h':(if c∈yes then (bh st).nox else if c∈no then aH3 hl c st else .bad) = .ok r:=h
 by_cases h1:c∈yes
 ·rw [if_pos h1] at h'
  rw [if_pos (hy c h1 C bm hC)]
  exact ⟨A,st,r,rs,R.nox_ok h',q⟩
 ·rw [if_neg h1] at h'
  by_cases h2:c∈no
  ·rw [if_pos h2] at h'
   rw [if_neg (by rw [hn c h2 C bm hC];decide)]
   exact ⟨c,bm,A,st,r,hC,rs,h',q⟩
  ·rw [if_neg h2] at h'
   cases h'
theorem aZ0{body:List Stmt}{h₀:ExceptHandler}{hs:List ExceptHandler}{b:Bd}{hl:List (List String × List String × (String->Bd))}(hb:∀ (pn:List (Addr × Obj)) (E:Value->Shared->Prop) (W:XW),aG3 (aEn X pn E) W->PSs (aEn X pn E) body (tSX X.K B true W b))(hh:PHD X B (h₀ :: hs) hl)
  (hst:X.stack=X.env :: X.outer/\X.env.frame=some X.env.locals:=by exact ⟨rfl,rfl⟩):PS X (.Try body (h₀ :: hs) [] [] pos) (tS X.K B (aQ3 b hl)):=by
 refine fD (aVm (tb:=fun W'=>tSX X.K B true (fun x σ' H'=>∀ C c bm,x = .exn c [] []->ExcAt X.K c C bm->W' C σ' H') b) hst (fun pn E W' hL=>hb pn E _ ?_) hh) ?_
 ·intro pins σ H s ea C H' s' I h1 h2 h3 h4 h5 ⟨c,bm,hc,hw⟩
  exact hL pins σ H s ea C H' s' I h1 h2 h3 h4 h5 (hw C c bm rfl hc)
 ·rintro Dn σ H ⟨A,st,r,rs,hr,p⟩
  refine ⟨A,st,rs,?_⟩
  unfold aQ3 at hr
  cases hb:b st with
  | ok r'=>rw [hb] at hr;cases hr;exact p
  | bad=>rw [hb] at hr;cases hr
  | exc x =>
   rw [hb] at hr
   intro A' st' σ' H' l rs' e C c bm ex hc
   subst ex
   have:=e rfl
   subst this
   exact ⟨c,bm,A',st',r,hc,rs',hr,p.mono l⟩
end
end Pu
namespace Pu
open PySem PySem.Spec PyProof.Rows L2
section
variable{X:Cx}{B:List Addr}{a b:Expr}{f g:Ex}{pos:Pos}{W:XW}
end
end Pu
namespace Pu
open PySem PySem.Spec PyProof.Rows L2 PySem.Calls Builtin Builtin.ObjectAttr Builtin.Getset_descriptor
section
variable{prog:Program}{w:World}{A:Around}{E:Value->Shared->Prop}{s:Shared}{K:PySem.W.Frag}{x C:Addr}
end
section
variable{X:Cx}{B:List Addr}{a:Expr}{es:List Expr}{f:Ex}{pos:Pos}
end
section
variable{X:Cx}{B:List Addr}{pins:List (Addr × Obj)}{σ:L2.St}{H:Hp}{s:Shared}{ea C:Addr}
end
end Pu
namespace Pu
open PySem PySem.Spec PyProof.Rows L2
section
variable{K:PySem.W.Frag}{h:Heap}{c:String}{C D':Addr}{bmB:List Value}{B newId initId:String}
theorem aG4(F:ExcBaseFacts B newId initId bmB)(a:PySem.W.nsIn K mainGlobals (Str.ofString c)=some (some (.ref C)))(q:PySem.W.excIn K C bmB newId=true)(g1:PySem.W.findIn K (.ref C) "__getattribute__" = some (some (.builtin "BaseException.__getattribute__")))(g6:PySem.W.findIn K (.ref C) "__getattr__" = some none)(g7:PySem.W.mroIn K C (.type "BaseException")=some true)(g2:PySem.W.findIn K (.ref C) "__class__" = some (some (.builtin "object.__class__")))
  (g3:PySem.W.specialIn K (.builtin "object.__class__") "__get__" = some (some (.builtin "getset_descriptor.__get__"))) (g4:PySem.W.takesIn K (.builtin "object.__class__")=some true) (g5:PySem.W.mroIn K C (.type "object")=some true):∃ bm,ExcAt K c C bm:=by
 have cl:(PySem.W.clsIn K C).isSome=true:=by
  unfold PySem.W.mroIn at g5
  cases e:PySem.W.clsIn K C with
  | none=>rw [e] at g5;cases g5
  | some cd=>rfl
 have ic:ExcCl K C:=⟨g1,g6,g7,cl,g2,g3,g4,g5⟩
 unfold PySem.W.excIn at q
 split at q
 ·rename_i dd cd sl ho
  split at q
  ·rename_i C' bm k0 k1 k2 k3 n k5 hm hsl
   simp only [Bool.not_eq_true',beq_iff_eq,Bool.and_eq_true] at q
   obtain ⟨⟨⟨⟨⟨e1,e2⟩,e3⟩,e4⟩,e5⟩,e6⟩:=q
   refine ⟨bm,a,⟨B,newId,initId,bmB,F,fun h kin=>?_⟩,ic⟩
   obtain ⟨nm,bs,mro,ns,qn,hd,sn,sub,ab,col,del⟩:=cd
   dsimp only at hm e3 e5 e6
   have hsl':sl = #[k0,k1,k2,k3,some (.builtin n),k5]:=by rw [<-Array.toArray_toList (xs:=sl),hsl]
   subst hsl'
   subst e1 e2 e3 hm
   exact ⟨ns,nm,qn,bs,hd,sn,sub,ab,col,dd,k0,k1,k2,k3,k5,h.nsMap ns,kin _ _ ho,.of_isNs (PySem.W.isNs_of_in kin e5),PySem.W.nsMap_none_of_in kin e5 e6,PySem.W.tail_of_in kin e4⟩
  ·cases q
 ·cases q
theorem aVn{x:Str}{a b:Addr}(e:PySem.W.nsIn K mainGlobals x=some (some (.ref a)))(e':PySem.W.nsIn K mainGlobals x=some (some (.ref b))):a=b:=by
 have z:=e.symm.trans e'
 injection z with z
 injection z with z
 injection z
theorem aOh{b:Bool}(kin:K.In h)(a:PySem.W.nsIn K mainGlobals (Str.ofString c)=some (some (.ref C)))(m:PySem.W.mroIn K C (.ref D')=some b):IsA K D' b c:=fun C1 bm hE=>by
 have:=aVn hE.ns a
 subst this
 obtain ⟨_,_,_,_,_,hob⟩:=hE.ob
 obtain ⟨N,nm,q,bs,hdct,sn,sub,ab,col,dd,k0,k1,k2,k3,k5,mN,oC,_⟩:=hob h kin
 unfold PySem.W.mroIn at m
 cases e:PySem.W.clsIn K C1 with
 | none=>rw [e] at m;cases m
 | some cd =>
  rw [e,Option.bind_some] at m
  unfold PySem.W.clsIn at e
  split at e
  ·rename_i ho
   cases e
   have z:=(kin _ _ ho).symm.trans oC
   have z1:cd.mro = .ref C1 :: bm:=by
    injection z with z
    unfold excClassObj at z
    injection z with _ _ z _
    injection z with z
    rw [z]
   split at m
   ·cases m
   ·injection m with m
    rw [z1] at m
    exact m
  ·cases e
end
section
variable{P:Program}{w:World}{K:PySem.W.Frag}{mg:Str->Option Value}{base:Heap}{f:Addr}{fd:FuncData}{ps:List Str}{k:Nat}
theorem MakeOk.of{c:String}{C:Addr}{np n:Nat}{bd:Bd}(hc:ClsAt K c C)(hm:Mk K C f)(F:FnOk P w K mg base CX0 k f fd ps (spM K c np (aDt c np n bd)))(b:Binds K fd ps [])(m:mg (Str.ofString c)=some (.ref C)):MakeOk P w K mg base c k np (aDt c np n bd) :=
 ⟨⟨C,f,fd,ps,hc,hm,F,b,m⟩,aO9⟩
end
section
variable{α:Type}{P:List α->Prop}
theorem aRb(h:P [])(us:List α)(hl:us.length=0):P us:=by rw [List.length_eq_zero_iff.mp hl];exact h
theorem aAi{n:Nat}(h:∀ a us,us.length=n->P (a :: us))(us:List α)(hl:us.length=n+1):P us:=by
 cases us with
 | nil=>cases hl
 | cons a us=>exact h a us (Nat.succ.inj hl)
theorem qU(h:∀ a,P [a])(us:List α)(hl:us.length=1):P us:=aAi (fun a=>aRb (h a)) us hl
theorem iR(h:∀ a b,P [a,b])(us:List α)(hl:us.length=2):P us:=aAi (fun a=>qU (P:=fun us=>P (a :: us)) (h a)) us hl
theorem iT(h:∀ a b c,P [a,b,c])(us:List α)(hl:us.length=3):P us:=aAi (fun a=>iR (P:=fun us=>P (a :: us)) (h a)) us hl
theorem aEo(h:∀ a b c d,P [a,b,c,d])(us:List α)(hl:us.length=4):P us:=aAi (fun a=>iT (P:=fun us=>P (a :: us)) (h a)) us hl
end
end Pu
namespace Pu
open PySem PySem.Spec PyProof.Rows L2
section
variable{X:Cx}{B:List Addr}{a b e o:Expr}{es:List Expr}{f g:Ex}{r:Exs}{pos cpos apos:Pos}
end
end Pu
namespace Pu
open PySem PySem.Spec PyProof.Rows L2
def Inn(K:PySem.W.Frag)(G H:Hp):List (List D)->List Addr->Prop
 | [],ps=>ps=[]
 | xs :: xss,ps=>∃ p r vs,ps=p :: r/\H p=some (.lst vs)/\bH K G xs vs/\Inn K G H xss r
section
variable{X:Cx}{B:List Addr}{a b e o:Expr}{f g:Ex}{pos:Pos}{sm:Stmt}{rest:List Stmt}{i:Nat}{na nb:NB}{bd:Bd}
end
end Pu
namespace Pu
open PySem PySem.Spec PyProof.Rows L2
def tSF(K:PySem.W.Frag)(B:List Addr)(i:Nat)(b:Bd):TS:=fun Dn σ H=>∃ A st st' xs,RS K B A H st σ/\b st = .ok (.nx st')/\st'[i]?=some (some (.o .l xs))/\∀ A' a vs H',Le A H A' H'->a∈A'->H' a=some (.lst vs)->bH K (hide (A'++B) H') xs vs->Dn.rt (.ref a) H'
def spF(K:PySem.W.Frag)(np:Nat)(p:List D->R D):Sp:=fun vs H Q _=>∃ A ds xs,Own A H/\bH K (hide A H) ds vs/\ds.length=np/\p ds = .ok (.lst xs)/\∀ a ws H',aZ H H'->H a=none->H' a=some (.lst ws)->bH K (hide (a :: A) H') xs ws->Q (.ref a) H'
section
variable{X:Cx}{B:List Addr}{e o:Expr}{f g:Ex}{pos:Pos}{sm:Stmt}{rest:List Stmt}{bd bd':Bd}{i:Nat}
theorem aJo(h1:PS X sm (tS X.K B bd))(h2:PSs X rest (tSF X.K B i bd')):PSs X (sm :: rest) (tSF X.K B i (bN bd bd')):=tW (aAl h1 h2) (by
 rintro Dn σ H ⟨A,st,st',xs,rs,hb,hi,q⟩
 unfold bN aCa at hb
 obtain ⟨fl,hfl,h3⟩:=R.ok_of hb
 refine ⟨A,st,fl,rs,hfl,?_⟩
 cases fl with
 | nx s1=>exact fun A' σ' H' l rs'=>⟨A',s1,st',xs,rs',h3,hi,fun A2 a vs H2 l2=>q A2 a vs H2 (l.trans l2)⟩
 | rt d=>cases h3
 | bk s1=>cases h3
 | ct s1=>cases h3)
theorem aVo{x:Str}{p1:Pos}(hN:X.N[i]?=some x:=by rfl)(hv:Vis X.env.scope x:=by first | exact Or.inl rfl | exact Or.inr (Or.inl rfl) | exact Or.inr (Or.inr rfl))(hd:(x==("__debug__" : Str))=false:=by decide)(hcd:(x==("__classdict__" : Str))=false:=by decide) :
  PSs X [.Return (some (.Name x p1)) pos] (tSF X.K B i cW):=tW (aDj (aLs (rO hN hv hd hcd))) (by
 rintro Dn σ H ⟨A,st,st',xs,rs,hb,hi,q⟩
 cases hb
 obtain ⟨a,o,vs,e1,m,h1,ko,r,_⟩:=rs.lst i .l xs hi
 have eo:o = .lst vs:=ko
 subst eo
 exact ⟨.ref a,e1,q A a vs H Le.refl m h1 r⟩)
end
section
variable{P:Program}{w:World}{K:PySem.W.Frag}{mg:Str->Option Value}{base:Heap}{x qual:Str}{st:Stmt}{dV:Value}{f:Addr}{fd:FuncData}{N ps:List Str}{k:Nat}
theorem bBa(F:FunD K x qual st dV f fd)(S:FnScope N ps (aF st))(np n i:Nat)(bd:Bd)(hnp:ps.length=np)(hn:N.length=n)
  (hb:∀ (cdv:Value) (A:Around) (outer:List Env) (s:Shared) (H:Hp) (E:XK) (B:List Addr),Room k (A.deeper (envOfC qual (aF st) s.heap.objs.size f cdv)) ->
   PSs (xW CX0 P w K mg base N qual (aF st) f cdv A outer s H E).nox (bI st) (tSF K B i bd)):FnOk P w K mg base CX0 (k+1) f fd ps (spF K np (eN np n (vX bd i))):=by
 refine F.okX S (fun vs H Q E h=>?_) (fun cdv A outer s H vs Q E hr h=>?_)
 ·obtain ⟨A,ds,d,own,r,hl,_⟩:=h
  rw [r.length,hl,hnp]
 ·obtain ⟨B,ds,xs,own,r,hl,hp,q⟩:=h
  refine ⟨tSF K B i bd,hb cdv A outer s H E B hr,?_⟩
  obtain ⟨_,h2⟩:=aJ hp
  obtain ⟨fl,hfl,h3⟩:=R.ok_of h2
  have rs:=aBo (N:=N) own r
  rw [hl,hn] at rs
  unfold vX at hfl
  split at hfl
  ·rename_i s1 hf1
   unfold aMt at hfl
   split at hfl
   ·rename_i e1
    cases hfl
    cases h3
    refine ⟨[],_,s1,_,rs,hf1,e1,fun A' a vs' H' l ha hv rv=>?_⟩
    have sm:aZ H H':=by
     unfold Le at l
     rw [sW] at l
     exact l.trans (bM _ _)
    refine q a vs' H' sm ?_ hv (rv.mono (gU fun b hb=>?_))
    ·cases hH:H a with
     | none=>rfl
     | some o =>
      have z:=l a o (by rw [sW];exact hH)
      rw [gC ha] at z;cases z
    ·rcases List.mem_cons.mp hb with rfl | hb
     ·exact List.mem_append_left _ ha
     ·exact List.mem_append_right _ hb
   ·cases hfl
  ·cases hfl
theorem aL6{np n i:Nat}{bd:Bd}{ds:List D}{d:D}(h:eN np n (vX bd i) ds = .ok d):∃ xs,d = .lst xs:=by
 obtain ⟨_,h2⟩:=aJ h
 obtain ⟨fl,hfl,h3⟩:=R.ok_of h2
 unfold vX at hfl
 split at hfl
 ·unfold aMt at hfl
  split at hfl
  ·cases hfl;cases h3;exact ⟨_,rfl⟩
  ·cases hfl
 ·cases hfl
theorem aL7{p:List D->R D}(hp:∀ ds d,p ds = .ok d->∃ xs,d = .lst xs){np:Nat}(F:FnOk P w K mg base CX0 k f fd ps (spF K np p)):FnOk P w K mg base CX0 k f fd ps (spI K np p):=by
 have up:∀ vs H Q E,spI K np p vs H Q E->spF K np p vs H Q E:=by
  rintro vs H Q E ⟨A,ds,d,own,r,hl,he,q⟩
  obtain ⟨xs,rfl⟩:=hp ds d he
  refine ⟨A,ds,xs,own,r,hl,he,fun a ws H' sm ha hv rv=>q _ H' sm (bQ.mpr ⟨a,ws,rfl,SqL.of (by rw [cF (own.free ha)];exact hv),rv.mono (gU fun b hb=>List.mem_cons_of_mem _ hb)⟩)⟩
 exact ⟨fun vs H Q E h=>F.len vs H Q E (up vs H Q E h),fun A outer s H args us vs Q E hr e0 hb hv h=>F.run A outer s H args us vs Q E hr e0 hb hv (up vs H Q E h)⟩
end
structure MethOkF(P:Program)(w:World)(K:PySem.W.Frag)(mg:Str->Option Value)(base:Heap)(c m:String)(k np:Nat)(dv:List D)(p:List D->R D):Prop where
 ex:∃ (C fa:Addr) (fd:FuncData) (ps:List Str) (dvs:List V) (ds:List Value),ClsAt K c C/\Meth K C (Str.ofString m) fa/\FnOk P w K mg base CX0 k fa fd ps (spF K np p)/\Binds K fd ps ds/\Vals dvs ds/\∀ H,bH K H dv dvs
 len:∀ ds d,p ds = .ok d->ds.length=np
 lst:∀ ds d,p ds = .ok d->∃ xs,d = .lst xs
theorem MethOkF.of{P:Program}{w:World}{K:PySem.W.Frag}{mg:Str->Option Value}{base:Heap}{k:Nat}{f:Addr}{fd:FuncData}{ps:List Str}{c m:String}{C:Addr}{np n i:Nat}{dv:List D}{bd:Bd}{ds:List Value}{dvs:List V}(hc:ClsAt K c C)(hm:Meth K C (Str.ofString m) f)(F:FnOk P w K mg base CX0 k f fd ps (spF K np (eN np n (vX bd i))))(b:Binds K fd ps ds)(v:Vals dvs ds)(r:∀ H,bH K H dv dvs):MethOkF P w K mg base c m k np dv (eN np n (vX bd i)) :=
 ⟨⟨C,f,fd,ps,dvs,ds,hc,hm,F,b,v,r⟩,bY,fun _ _ h=>aL6 h⟩
theorem MethOkF.plain{P:Program}{w:World}{K:PySem.W.Frag}{mg:Str->Option Value}{base:Heap}{c m:String}{k np:Nat}{dv:List D}{p:List D->R D}(h:MethOkF P w K mg base c m k np dv p):MethOk P w K mg base c m k np dv p:=by
 obtain ⟨C,fa,fd,ps,dvs,ds,hc,hm,F,b,v,r⟩:=h.ex
 exact ⟨⟨C,fa,fd,ps,dvs,ds,hc,hm,aL7 h.lst F,b,v,r⟩,h.len⟩
section
variable{X:Cx}{B:List Addr}{e o:Expr}{f g:Ex}{pos:Pos}
end
end Pu
namespace Pu
open PySem PySem.Spec PyProof.Rows L2
section
variable{X:Cx}{B:List Addr}{a:Expr}{f:Ex}{pos:Pos}
end
end Pu
namespace Pu
open PySem PySem.Spec PyProof.Rows L2
section
variable{X:Cx}{B:List Addr}{e e1 e2 o:Expr}{f g:Ex}{pos:Pos}{sm:Stmt}{rest:List Stmt}{bd bd':Bd}{W:XW}{s1:Bool}
end
section
variable{P:Program}{w:World}{K:PySem.W.Frag}{mg:Str->Option Value}{base:Heap}{x qual:Str}{st:Stmt}{dV:Value}{fa:Addr}{fd:FuncData}{N ps:List Str}{k np n:Nat}{bd:Bd}{f:Ex}{p:List D->R D}
end
section
variable{X:Cx}{B:List Addr}{e e1 e2 o:Expr}{f g:Ex}{pos:Pos}
end
section
variable{X:Cx}{B:List Addr}{e o:Expr}{f g:Ex}{pos:Pos}
end
end Pu
namespace Pu
open PySem PySem.Spec PyProof.Rows L2
section
variable{X:Cx}{B:List Addr}{a b e:Expr}{f g:Ex}{pos:Pos}
theorem aG5:∀ {ns:List Int} {us:List Value},Vals (ns.map V.int) us->IntsAre us ns
 | [],us,h=>by rw [h.zero];exact .nil
 | n :: ns,us,h=>by
  cases h with
  | cons r t =>
   obtain ⟨k,rfl⟩:=r
   exact .cons n k (aG5 t)
theorem aDb{K:PySem.W.Frag}{H:Hp}:∀ {l:List Int} {vs:List V},bH K H (l.map D.int) vs->vs=l.map V.int
 | [],vs,h=>cP.mp h
 | i :: l,vs,h=>by
  obtain ⟨v,r,rfl,h1,h2⟩:=bV.mp h
  rw [aQ.mp h1,aDb h2]
  rfl
end
end Pu
namespace Pu
open PySem PySem.Spec PyProof.Rows L2
def noH:Hp:=fun _=>none
theorem aRc{H:Hp}:aZ noH H:=fun _ _ h=>nomatch h
theorem aOi{K:PySem.W.Frag}{H:Hp}{d:D}{v:V}(h:atom d=true)(r:Rep K H d v):Rep K noH d v:=by
 cases d<;>first | (cases h;done) | skip
 ·exact bW.mpr (bW.mp r)
 ·exact bD.mpr (bD.mp r)
 ·exact aQ.mpr (aQ.mp r)
 ·exact bJ.mpr (bJ.mp r)
def tC(K:PySem.W.Frag)(B:List Addr)(f:Ex):TE:=fun σ H Q=>∃ A st d xs,RS K B A H st σ/\f st = .ok d/\aUx d = .ok (.lst xs)/\∀ P ps H',aZ H H'->(∀ p∈P :: ps,H p=none)->(P :: ps).Nodup->H' P=some (.lst (ps.map V.ref))->Inn K noH H' (xs.map unL) ps->Q (.ref P) H'
section
variable{X:Cx}{B:List Addr}{scope:Scope}{iter:Expr}{pos pl p0 p1 p2:Pos}{f:Ex}{r:Str}{j:Nat}
end
end Pu
namespace Pu
open PySem PySem.Spec PyProof.Rows L2
section
variable{X:Cx}{pos p0 p1:Pos}{r:Str}
end
end Pu
namespace Pu
open PySem PySem.Spec PyProof.Rows L2
section
variable{X:Cx}{a b e o:Expr}{f g:Ex}{pos:Pos}{sm:Stmt}{rest:List Stmt}{bd bd':Bd}{W:XW}{H0:Hp}{x:Addr}
end
section
variable{X:Cx}{B:List Addr}{a b e o:Expr}{f g:Ex}{pos:Pos}{W:XW}
end
end Pu
namespace Pu
open PySem PySem.Spec PyProof.Rows L2
section
variable{K:PySem.W.Frag}{B A Z:List Addr}{H H':Hp}{st:PSt}{σ:LSt}
end
section
variable{X:Cx}{B:List Addr}{a b e o:Expr}{f g:Ex}{pos:Pos}{sm:Stmt}{rest:List Stmt}{i:Nat}{na nb:NB}{bd:Bd}
end
section
variable{X:Cx}{B:List Addr}{scope:Scope}{iter:Expr}{pos pl p0 p1 p2:Pos}{f:Ex}{r:Str}{rest:List Stmt}{i:Nat}{nb:NB}
end
end Pu
namespace Pu
open PySem PySem.Spec PyProof.Rows L2
open Builtin
section
variable{prog:Program}{w:World}{A:Around}{E:Value->Shared->Prop}{s:Shared}
variable{z TI TO i1 i2 l:Addr}{fp:List Addr}{n k1 k2:Nat}{P:Nat->Value->Prop}{St:Nat->Heap->Prop}{ys:Array Value}{y a b:Value}
structure ZApart(z TI TO i1 i2 l:Addr)(fp:List Addr):Prop where
 TIz:TI≠z
 TOz:TO≠z
 i1z:i1≠z
 i2z:i2≠z
 TITO:TI≠TO
 TIi1:TI≠i1
 TIi2:TI≠i2
 TOi1:TO≠i1
 TOi2:TO≠i2
 i12:i1≠i2
 lz:l≠z
 lTO:l≠TO
 li1:l≠i1
 li2:l≠i2
 zf:z ∉ fp
 Tf:TO ∉ fp
 i2f:i2 ∉ fp
theorem aHx{n l:Nat}(h:l < n):ZApart (n+4) (n+2) (n+3) n (n+1) l [n]:=by
 constructor
 ·show n+2≠n+4;omega
 ·show n+3≠n+4;omega
 ·show n≠n+4;omega
 ·show n+1≠n+4;omega
 ·show n+2≠n+3;omega
 ·show n+2≠n;omega
 ·show n+2≠n+1;omega
 ·show n+3≠n;omega
 ·show n+3≠n+1;omega
 ·show n≠n+1;omega
 ·show l≠n+4;omega
 ·show l≠n+3;omega
 ·show l≠n;omega
 ·show l≠n+1;omega
 ·intro z
  have:n+4=n:=List.mem_singleton.mp z
  omega
 ·intro z
  have:n+3=n:=List.mem_singleton.mp z
  omega
 ·intro z
  have:n+1=n:=List.mem_singleton.mp z
  omega
theorem aOj(D1:Draws prog w A i1 fp n P St)(D:ZApart z TI TO i1 i2 l fp)
  (hz:IsZip s.heap z TI TO .none) (hTI:IsPair s.heap TI (.ref i1) (.ref i2)) (hTO:IsPair s.heap TO a b)
  (h1:St k1 s.heap) (hk1:k1 < n) (h2:s.heap.IsListIter i2 l k2) (hl:s.heap.IsList l ys) (hy:ys[k2]?=some y) {Q:Value->Shared->Prop}
  (hQ:∀ h' tk x,P k1 x->IsZip h' z TI TO (rawInt s.heap.objs.size)->IsPair h' TO x y->St (k1+1) h'->h'.IsListIter i2 l (k2+1)->IsPair h' s.heap.objs.size x y->h'.objs.size=s.heap.objs.size+1 ->
   (∀ c o,c≠z->c≠TO->c≠i1->c≠i2->s.heap.get? c=some o->h'.get? c=some o)->Q (.ref s.heap.objs.size) { s with heap:=h',toks:=tk }) :
  wpAny (model prog w) A (Builtin.«zip.__next__» ⟨[.ref z],[]⟩) (fun fin s'=>∃ v,fin = .done (.ret v)/\Q v s') E s:=by
 show wpAny _ _ (field (.ref z) 2 >>= _) _ _ _
 refine wpAny_bind (wpAny_field hz rfl (x := .bool false) rfl ?_)
 show wpAny _ _ (field (.ref z) 3 >>= _) _ _ _
 refine wpAny_bind (wpAny_field hz rfl (x := .ref TI) rfl ?_)
 refine wpAny_bind (wpAny_seqItems hTI rfl ?_)
 show wpAny _ _ (Builtin.SmallTypes.ownedTupleIsFree (.ref z) >>= _) _ _ _
 refine wpAny_bind ?_
 unfold Builtin.SmallTypes.ownedTupleIsFree
 refine wpAny_bind (wpAny_field hz rfl (x := .none) rfl (wpAny_pure ?_))
 simp only [if_true]
 refine wpAny_bind (wpAny_rule ?_)
 refine wpAny_bind (wpAny_field hz rfl (x := .ref TO) rfl ?_)
 refine wpAny_bind (wpAny_setField_rec hz (by simp) fun h₁ hz₁ hs₁=>?_)
 replace hz₁:IsZip h₁ z TI TO .ellipsis:=hz₁
 refine wpAny_bind ?_
 simp only [List.zipIdx_cons,List.zipIdx_nil,List.forIn_cons,List.forIn_nil]
 refine wpAny_bind (wpAny_bind (wpAny_onRaise ?_))
 show wpAny _ _ (Builtin.SmallTypes.nextOf (.ref i1) >>= _) _ _ _
 refine wpAny_bind (D1.item k1 { s with heap:=h₁ } _ _ hk1 (D1.frame k1 s.heap h₁ h1 fun b hb o e=>hs₁.extBut _ _ (fun x=>D.zf (x ▸ hb)) e) fun x h₂ tk hP h1₂ hs₂=>wpAny_pure ?_)
 have hs₂:Heap.SameBut i1 h₁ h₂:=hs₂
 have hTO₂:IsPair h₂ TO a b:=hs₂.extBut _ _ D.TOi1 (hs₁.extBut _ _ D.TOz hTO)
 refine wpAny_bind (wpAny_seqItems hTO₂ rfl ?_)
 refine wpAny_bind (wpAny_updateSeq_pair hTO₂ fun h₃ hTO₃ hs₃=>?_)
 replace hTO₃:IsPair h₃ TO x b:=hTO₃
 refine wpAny_bind (wpAny_letGo (wpAny_pure ?_))
 refine wpAny_bind (wpAny_bind (wpAny_onRaise ?_))
 show wpAny _ _ (Builtin.SmallTypes.nextOf (.ref i2) >>= _) _ _ _
 refine wpAny_bind (wpAny_nextOf_list_item (((h2.extBut hs₁.extBut D.i2z).extBut hs₂.extBut D.i12.symm).extBut hs₃.extBut D.TOi2.symm)
  (((hl.extBut hs₁.extBut D.lz).extBut hs₂.extBut D.li1).extBut hs₃.extBut D.lTO) hy fun h₄ h2₄ hs₄=>wpAny_pure ?_)
 have hTO₄:IsPair h₄ TO x b:=hs₄.extBut _ _ D.TOi2 hTO₃
 refine wpAny_bind (wpAny_seqItems hTO₄ rfl ?_)
 refine wpAny_bind (wpAny_updateSeq_pair hTO₄ fun h₅ hTO₅ hs₅=>?_)
 replace hTO₅:IsPair h₅ TO x y:=hTO₅
 refine wpAny_bind (wpAny_letGo (wpAny_pure (wpAny_pure ?_)))
 refine wpAny_bind (wpAny_seqItems hTO₅ rfl ?_)
 refine wpAny_bind (wpAny_newTuple ?_)
 have hs₃':Heap.SameBut TO h₂ h₃:=hs₃
 have hs₄':Heap.SameBut i2 h₃ h₄:=hs₄
 have hs₅':Heap.SameBut TO h₄ h₅:=hs₅
 have hsz:h₅.objs.size=s.heap.objs.size:=by rw [hs₅'.1,hs₄'.1,hs₃'.1,hs₂.1,hs₁.1]
 have hz₅:IsZip h₅ z TI TO .ellipsis:=hs₅'.extBut _ _ D.TOz.symm (hs₄'.extBut _ _ D.i2z.symm (hs₃'.extBut _ _ D.TOz.symm (hs₂.extBut _ _ D.i1z.symm hz₁)))
 have hk₅:∀ c o,c≠z->c≠TO->c≠i1->c≠i2->s.heap.get? c=some o->h₅.get? c=some o:=fun c o c1 c2 c3 c4 e =>
  hs₅'.extBut _ _ c2 (hs₄'.extBut _ _ c4 (hs₃'.extBut _ _ c2 (hs₂.extBut _ _ c3 (hs₁.extBut _ _ c1 e))))
 have h1₅:St (k1+1) h₅:=D1.frame _ h₂ h₅ h1₂ fun b hb o e=>hs₅'.extBut _ _ (fun x=>D.Tf (x ▸ hb)) (hs₄'.extBut _ _ (fun x=>D.i2f (x ▸ hb)) (hs₃'.extBut _ _ (fun x=>D.Tf (x ▸ hb)) e))
 have h2₅:h₅.IsListIter i2 l (k2+1):=h2₄.extBut hs₅'.extBut D.TOi2.symm
 have hzlt:z < h₅.objs.size:=Heap.lt_size hz₅
 show wpAny _ _ (Builtin.SmallTypes.ownedTupleHandOut (.ref z) (.ref h₅.objs.size) >>= _) _ _ _
 refine wpAny_bind ?_
 unfold Builtin.SmallTypes.ownedTupleHandOut
 have hz₆:IsZip (h₅.push { cls := .type "tuple", data := .seq #[x,y] }) z TI TO .ellipsis:=Heap.get?_push_of_some _ hz₅
 refine wpAny_bind (wpAny_setField_rec hz₆ (by simp) fun h₇ hz₇ hs₇=>?_)
 replace hz₇:IsZip h₇ z TI TO (rawInt h₅.objs.size):=hz₇
 refine wpAny_setField_rec hz₇ (by simp) fun h₈ hz₈ hs₈=>?_
 replace hz₈:IsZip h₈ z TI TO (rawInt h₅.objs.size):=hz₈
 have up:∀ c o,c≠z->h₅.get? c=some o->h₈.get? c=some o:=fun c o c1 e=>hs₈.extBut _ _ c1 (hs₇.extBut _ _ c1 (Heap.get?_push_of_some _ e))
 have hT₈:IsPair h₈ h₅.objs.size x y:=hs₈.extBut _ _ (Nat.ne_of_gt hzlt) (hs₇.extBut _ _ (Nat.ne_of_gt hzlt) (Heap.get?_push_size _ rfl))
 have hz8:h₈.objs.size=h₅.objs.size+1:=by rw [hs₈.1,hs₇.1,Heap.size_push]
 rw [hsz] at hz₈ hT₈ hz8
 refine wpAny_pure ⟨_,rfl,?_⟩
 show Q (.ref h₅.objs.size) _
 rw [hsz]
 exact hQ h₈ _ x hP hz₈ (up _ _ D.TOz hTO₅) (D1.frame _ h₅ h₈ h1₅ fun b hb o e=>up b o (fun x=>D.zf (x ▸ hb)) e) (h2₅.at fun o e=>up _ o D.i2z e) hT₈ hz8 fun c o c1 c2 c3 c4 e=>up c o c1 (hk₅ c o c1 c2 c3 c4 e)
theorem aRd(D1:Draws prog w A i1 fp n P St)(hh:A.handled=none)(D:ZApart z TI TO i1 i2 l fp)
  (hz:IsZip s.heap z TI TO .none) (hTI:IsPair s.heap TI (.ref i1) (.ref i2)) (hTO:IsPair s.heap TO a b)
  (h1:St k1 s.heap) (h2:s.heap.IsListIter i2 l k2) (hl:s.heap.IsList l ys)
  (hend:(∀ (s:Shared) (Q:Value->Shared->Prop) (E:Value->Shared->Prop),St k1 s.heap->(∀ h' e,Heap.ExtBut i1 s.heap h'->(∃ o,h'.get? e=some o/\o.cls = .type "StopIteration")->E (.ref e) { s with heap:=h' })->wpAny (model prog w) A (Builtin.SmallTypes.nextOf (.ref i1)) Q E s)\/(k1 < n/\ys[k2]?=none)) {Q:Fin->Shared->Prop}
  (hE:∀ h' e tk,(∀ c o,c≠z->c≠TO->c≠i1->c≠i2->s.heap.get? c=some o->h'.get? c=some o)->(∃ o,h'.get? e=some o/\o.cls = .type "StopIteration")->E (.ref e) { s with heap:=h',toks:=tk }) :
  wpAny (model prog w) A (Builtin.«zip.__next__» ⟨[.ref z],[]⟩) Q E s:=by
 show wpAny _ _ (field (.ref z) 2 >>= _) _ _ _
 refine wpAny_bind (wpAny_field hz rfl (x := .bool false) rfl ?_)
 show wpAny _ _ (field (.ref z) 3 >>= _) _ _ _
 refine wpAny_bind (wpAny_field hz rfl (x := .ref TI) rfl ?_)
 refine wpAny_bind (wpAny_seqItems hTI rfl ?_)
 show wpAny _ _ (Builtin.SmallTypes.ownedTupleIsFree (.ref z) >>= _) _ _ _
 refine wpAny_bind ?_
 unfold Builtin.SmallTypes.ownedTupleIsFree
 refine wpAny_bind (wpAny_field hz rfl (x := .none) rfl (wpAny_pure ?_))
 simp only [if_true]
 refine wpAny_bind (wpAny_rule ?_)
 refine wpAny_bind (wpAny_field hz rfl (x := .ref TO) rfl ?_)
 refine wpAny_bind (wpAny_setField_rec hz (by simp) fun h₁ hz₁ hs₁=>?_)
 replace hz₁:IsZip h₁ z TI TO .ellipsis:=hz₁
 refine wpAny_bind ?_
 simp only [List.zipIdx_cons,List.zipIdx_nil,List.forIn_cons,List.forIn_nil]
 refine wpAny_bind (wpAny_bind (wpAny_onRaise ?_))
 show wpAny _ _ (Builtin.SmallTypes.nextOf (.ref i1) >>= _) _ _ _
 have fr1:St k1 h₁:=D1.frame k1 s.heap h₁ h1 fun b hb o e=>hs₁.extBut _ _ (fun x=>D.zf (x ▸ hb)) e
 rcases hend with hend | ⟨hkn,hy⟩
 ·refine wpAny_bind (hend { s with heap:=h₁ } _ _ fr1 fun h₂ e hs₂ he=>?_)
  have hs₂:Heap.ExtBut i1 h₁ h₂:=hs₂
  obtain ⟨oe,hoe,hce⟩:=he
  have hz₂:IsZip h₂ z TI TO .ellipsis:=hs₂ _ _ D.i1z.symm hz₁
  have hez:e≠z:=fun x=>by subst x;rw [hz₂] at hoe;cases hoe;simp at hce
  refine wpAny_setField_rec hz₂ (by simp) fun h₃ _ hs₃=>hE h₃ e _ (fun c o c1 _ c3 _ x=>hs₃.extBut _ _ c1 (hs₂ _ _ c3 (hs₁.extBut _ _ c1 x))) ⟨oe,hs₃.extBut _ _ hez hoe,hce⟩
 ·refine wpAny_bind (D1.item k1 { s with heap:=h₁ } _ _ hkn fr1 fun x h₂ tk hP h1₂ hs₂=>wpAny_pure ?_)
  have hs₂:Heap.SameBut i1 h₁ h₂:=hs₂
  have hTO₂:IsPair h₂ TO a b:=hs₂.extBut _ _ D.TOi1 (hs₁.extBut _ _ D.TOz hTO)
  refine wpAny_bind (wpAny_seqItems hTO₂ rfl ?_)
  refine wpAny_bind (wpAny_updateSeq_pair hTO₂ fun h₃ hTO₃ hs₃=>?_)
  have hs₃':Heap.SameBut TO h₂ h₃:=hs₃
  refine wpAny_bind (wpAny_letGo (wpAny_pure ?_))
  refine wpAny_bind (wpAny_bind (wpAny_onRaise ?_))
  show wpAny _ _ (Builtin.SmallTypes.nextOf (.ref i2) >>= _) _ _ _
  refine wpAny_bind (wpAny_nextOf_list_end hh (((h2.extBut hs₁.extBut D.i2z).extBut hs₂.extBut D.i12.symm).extBut hs₃'.extBut D.TOi2.symm)
   (((hl.extBut hs₁.extBut D.lz).extBut hs₂.extBut D.li1).extBut hs₃'.extBut D.lTO) hy fun h₄ e hs₄ he=>?_)
  have hs₄:Heap.ExtBut i2 h₃ h₄:=hs₄
  obtain ⟨oe,hoe,hce⟩:=he
  have hz₄:IsZip h₄ z TI TO .ellipsis:=hs₄ _ _ D.i2z.symm (hs₃'.extBut _ _ D.TOz.symm (hs₂.extBut _ _ D.i1z.symm hz₁))
  have hez:e≠z:=fun x=>by subst x;rw [hz₄] at hoe;cases hoe;simp at hce
  refine wpAny_setField_rec hz₄ (by simp) fun h₅ _ hs₅=>hE h₅ e _ (fun c o c1 c2 c3 c4 x=>hs₅.extBut _ _ c1 (hs₄ _ _ c4 (hs₃'.extBut _ _ c2 (hs₂.extBut _ _ c3 (hs₁.extBut _ _ c1 x))))) ⟨oe,hs₅.extBut _ _ hez hoe,hce⟩
end
section
variable{prog:Program}{w:World}{A:Around}{E:Value->Shared->Prop}{s:Shared}
abbrev zH1(h:Heap)(x:Str)(t:Tok):Heap:=h.push { cls := .type (strIterType x),data := .fields #[.str x t,.int 0 0] }
abbrev zH2(h:Heap)(x:Str)(t:Tok)(l:Addr):Heap:=(zH1 h x t).push { cls := .type "list_iterator", data := .fields #[.ref l,.int 0 0] }
abbrev zH3(h:Heap)(x:Str)(t:Tok)(l:Addr):Heap:=(zH2 h x t l).push { cls := .type "tuple", data := .seq #[.ref h.objs.size,.ref (zH1 h x t).objs.size] }
abbrev zH4(h:Heap)(x:Str)(t:Tok)(l:Addr):Heap:=(zH3 h x t l).push { cls := .type "tuple", data := .seq #[.none,.none] }
abbrev zH5(h:Heap)(x:Str)(t:Tok)(l:Addr):Heap:=(zH4 h x t l).push { cls := .type "zip", data := .fields #[.none,.bool false,.bool false,.ref (zH2 h x t l).objs.size,.ref (zH3 h x t l).objs.size] }
theorem aHy(x:Str)(t:Tok)(l:Addr)(ys:Array Value) :
  Meets (Builtin.«zip.__new__» ⟨[.type "zip", .str x t,.ref l],[]⟩) (fun _ R s=>s.heap.IsList l ys /\
   R (.ok (.ret (.ref (zH4 s.heap x t l).objs.size))) { s with heap:=zH5 s.heap x t l }) :=
 .of_wp fun prog w A R s h=>by
  obtain ⟨hp,g,d,tk,os⟩:=s;obtain ⟨hl,h⟩:=h
  have hsub:=sub_zip
  have hL:Heap.IsList (Shared.heap ⟨hp.push { cls := .type (strIterType x),data := .fields #[.str x t,.int 0 0] },g,d,tk,os⟩) l ys:=Heap.IsList.push hl _
  wp_walk using wpAny_pyIter_strU,wpAny_pyIter_list hL
  exact ⟨_,rfl,h⟩
theorem aL8{x:Str}{t:Tok}{l:Addr}{ys:Array Value}{Q:Value->Shared->Prop}(hl:s.heap.IsList l ys)
  (h:∀ h',IsZip h' (s.heap.objs.size+4) (s.heap.objs.size+2) (s.heap.objs.size+3) .none->IsPair h' (s.heap.objs.size+2) (.ref s.heap.objs.size) (.ref (s.heap.objs.size+1)) ->
   IsPair h' (s.heap.objs.size+3) .none .none->h'.IsStrIter s.heap.objs.size (strIterType x) x t 0->h'.IsListIter (s.heap.objs.size+1) l 0->h'.objs.size=s.heap.objs.size+5 ->
   (∀ c o,s.heap.get? c=some o->h'.get? c=some o)->Q (.ref (s.heap.objs.size+4)) { s with heap:=h' }) :
  wpAny (model prog w) A (call (.type "zip") [.str x t,.ref l]) Q E s:=by
 refine callType_new PySem.F.called_zip (by decide) (PySem.F.typeCall_zip_2 _ _) (PySem.F.newCall_zip_2 _ _) (fun obj=>PySem.F.args_object_init_3 obj _ _) PySem.F.entry_zip_new
  (aHy x t l ys) ⟨hl,?_⟩
 have z1:(zH1 s.heap x t).objs.size=s.heap.objs.size+1:=Heap.size_push ..
 have z2:(zH2 s.heap x t l).objs.size=s.heap.objs.size+2:=by rw [Heap.size_push,z1]
 have z3:(zH3 s.heap x t l).objs.size=s.heap.objs.size+3:=by rw [Heap.size_push,z2]
 have z4:(zH4 s.heap x t l).objs.size=s.heap.objs.size+4:=by rw [Heap.size_push,z3]
 have z5:(zH5 s.heap x t l).objs.size=s.heap.objs.size+5:=by rw [Heap.size_push,z4]
 have g5:(zH5 s.heap x t l).get? (zH4 s.heap x t l).objs.size=some _:=Heap.get?_push_size _ rfl
 have g4:(zH5 s.heap x t l).get? (zH3 s.heap x t l).objs.size=some _:=Heap.get?_push_of_some _ (Heap.get?_push_size _ rfl)
 have g3:(zH5 s.heap x t l).get? (zH2 s.heap x t l).objs.size=some _:=Heap.get?_push_of_some _ (Heap.get?_push_of_some _ (Heap.get?_push_size _ rfl))
 have g2:(zH5 s.heap x t l).get? (zH1 s.heap x t).objs.size=some _:=Heap.get?_push_of_some _ (Heap.get?_push_of_some _ (Heap.get?_push_of_some _ (Heap.get?_push_size _ rfl)))
 have g1:(zH5 s.heap x t l).get? s.heap.objs.size=some _:=Heap.get?_push_of_some _ (Heap.get?_push_of_some _ (Heap.get?_push_of_some _ (Heap.get?_push_of_some _ (Heap.get?_push_size _ rfl))))
 show _/\_
 rw [z2,z3,z4] at g5
 rw [z1,z2] at g3
 rw [z3] at g4
 rw [z1] at g2
 rw [z4]
 exact ⟨⟨_,g5,rfl⟩,h _ g5 g3 g4 ⟨_,g1,rfl,rfl⟩ ⟨_,g2,rfl,rfl⟩ z5 fun c o x =>
  Heap.get?_push_of_some _ (Heap.get?_push_of_some _ (Heap.get?_push_of_some _ (Heap.get?_push_of_some _ (Heap.get?_push_of_some _ x))))⟩
theorem aDc(hh:A.handled=none)(it:Addr)(x:Str)(t:Tok){n:String}(hn:n = "str_ascii_iterator" \/ n = "str_iterator") :
  Draws prog w A it [it] x.cps.size (fun i v=>∃ c u,x.cps[i]?=some c/\v = .str ⟨#[c]⟩ u) (fun i h=>h.IsStrIter it n x t i):=by
 rcases hn with rfl | rfl
 ·exact Draws.strAscii hh it x t
 ·exact Draws.strWide hh it x t
theorem aRe(hh:A.handled=none){it:Addr}{x:Str}{t:Tok}{n:String}{i:Nat}(hn:n = "str_ascii_iterator" \/ n = "str_iterator"){Q:Value->Shared->Prop}(st:s.heap.IsStrIter it n x t i)(hx:x.cps[i]?=none)
  (hE:∀ h' e,Heap.ExtBut it s.heap h'->(∃ o,h'.get? e=some o/\o.cls = .type "StopIteration")->E (.ref e) { s with heap:=h' }):wpAny (model prog w) A (Builtin.SmallTypes.nextOf (.ref it)) Q E s:=by
 rcases hn with rfl | rfl
 ·exact wpAny_nextOf_ascii_end hh st hx hE
 ·exact wpAny_nextOf_wide_end hh st hx hE
theorem aCf(x:Str):strIterType x = "str_ascii_iterator" \/ strIterType x = "str_iterator" := by
 unfold strIterType
 split<;>simp
end
def Itz(K:PySem.W.Frag)(z:List Nat)(a:Addr):It :=
 ⟨fun i H=>i < z.length/\∃ xs x,SqL K H a xs/\xs[i]?=some x,fun i H x H'=>∃ T c v,x=V.ref T/\H T=none/\z[i]?=some c/\H'=upd H T (.tup [.str ⟨#[c]⟩,v])/\∀ xs,SqL K H a xs->xs[i]?=some v,fun i H=>∃ xs,SqL K H a xs/\(z.length<=i\/xs.length<=i)⟩
theorem aOk{P:Program}{w:World}{K:PySem.W.Frag}{elts:List Expr}{x1}{tp:Pos}{zs:List Nat}{t:Tok}{n:String}(hn:n = "str_ascii_iterator" \/ n = "str_iterator")(a z TI TO i1 i2:Addr)(D:∀ l,l=a->ZApart z TI TO i1 i2 l [i1]) :
  Turn P w K (.Tuple elts x1 tp) (Itz K zs a) [z,TI,TO,i1,i2] z (fun i h=>IsZip h z TI TO .none/\IsPair h TI (.ref i1) (.ref i2)/\(∃ u v,IsPair h TO u v)/\h.IsStrIter i1 n ⟨zs.toArray⟩ t i/\h.IsListIter i2 a i) where
 mem:=by simp
 obj:=fun i h st b hb=>by
  obtain ⟨hz,hTI,⟨u,v,hTO⟩,⟨o1,q1,c1,d1⟩,⟨o2,q2,c2,d2⟩⟩:=st
  simp only [List.mem_cons,List.not_mem_nil,or_false] at hb
  rcases hb with rfl | rfl | rfl | rfl | rfl
  ·exact ⟨_,hz,fun v z=>by cases z⟩
  ·exact ⟨_,hTI,fun v z=>by cases z⟩
  ·exact ⟨_,hTO,fun v z=>by cases z⟩
  ·exact ⟨o1,q1,fun v z=>by rw [d1] at z;cases z⟩
  ·exact ⟨o2,q2,fun v z=>by rw [d2] at z;cases z⟩
 keep:=fun i h h' st k=>by
  obtain ⟨hz,hTI,⟨u,v,hTO⟩,⟨o1,q1,r1⟩,h2⟩:=st
  exact ⟨k z (by simp) _ hz,k TI (by simp) _ hTI,⟨u,v,k TO (by simp) _ hTO⟩,⟨o1,k i1 (by simp) _ q1,r1⟩,h2.at fun o x=>k i2 (by simp) o x⟩
 item:=by
  intro X hP hw hK hc i pins s σ H E I hf st hg
  subst hP hw hK
  obtain ⟨hz,hTI,⟨u0,v0,hTO⟩,h1,h2⟩:=st
  obtain ⟨hi,xs,x,hq,hx⟩:=hg
  obtain ⟨its,rv,p,_⟩:=I.list hq
  obtain ⟨u,hu,ru⟩:=rv.get hx
  have D:=D a rfl
  have fo:∀ b∈[z,TI,TO,i1,i2],H b=none:=fun b hb=>(hf b hb).1
  have hT:H s.heap.objs.size=none:=I.hok.fresh (Nat.le_refl _)
  have hzt:s.TypeIs (.ref z) "zip" := ⟨_,hz,rfl⟩
  have hh:=I.ok.hd hc
  unfold pyNext
  refine wpAny_bind (wpAny_attempt (wpAny_callSpecial?_slot (name:=Str.ofString "__next__") hzt PySem.F.slot_zip_next
   (wpAny_call_entry PySem.F.slot_zip_next hzt PySem.F.entry_zip_next
    (aOj (aDc (A:=X.A.in1) hh i1 ⟨zs.toArray⟩ t hn) D hz hTI hTO h1 (by simpa using hi) h2 p.isList (y:=u) (by simpa using hu) fun h' tk v hP a1 a2 a3 a4 a5 a6 hk=>wpAny_pure ?_) (PySem.F.args_zip_next_1 _))))
  obtain ⟨c,uu,hcc,rfl⟩:=hP
  refine ⟨_,rfl,wpAny_letOwnedTupleGo_zip (s:={ s with heap:=h',toks:=tk }) a1 fun h9 hz9 sb=>?_⟩
  have hkeep:∀ b o,b≠z->b≠TO->b≠i1->b≠i2->s.heap.get? b=some o->h9.get? b=some o:=fun b o e1 e2 e3 e4 q=>(sb.2 b e1).trans (hk b o e1 e2 e3 e4 q)
  have zlt:z≠s.heap.objs.size:=Nat.ne_of_lt (Heap.lt_size hz)
  have htup:h9.get? s.heap.objs.size=some { cls := .type "tuple", data := .seq #[.str ⟨#[c]⟩ uu,u] }:=(sb.2 _ zlt.symm).trans a5
  have nT:∀ b u',H b=some u'->b≠s.heap.objs.size:=fun b u' q=>bK q hT
  have nx:∀ b u',H b=some u'->b≠z/\b≠TO/\b≠i1/\b≠i2:=fun b u' q=>⟨bK q (fo z (by simp)),bK q (fo TO (by simp)),bK q (fo i1 (by simp)),bK q (fo i2 (by simp))⟩
  have mx:∀ b:Addr,b ∉ [z,TI,TO,i1,i2]->b≠z/\b≠TO/\b≠i1/\b≠i2:=fun b hb=>⟨fun q=>hb (by simp [q]),fun q=>hb (by simp [q]),fun q=>hb (by simp [q]),fun q=>hb (by simp [q])⟩
  have inL:∀ b o,s.heap.get? b=some o->b≠s.heap.objs.size:=fun b o q=>Nat.ne_of_lt (Heap.lt_size q)
  have kp:∀ b o,b ∉ [z,TI,TO,i1,i2]->s.heap.get? b=some o->h9.get? b=some o:=fun b o hb q=>hkeep b o (mx b hb).1 (mx b hb).2.1 (mx b hb).2.2.1 (mx b hb).2.2.2 q
  have un:Un (frs X.stack) [z,TI,TO,i1,i2] H (upd H s.heap.objs.size (.tup [.str ⟨#[c]⟩,x])) s.heap h9:=by
   refine ⟨fun b o q n hb hx=>kp b o hx q,fun b o q n hb hx=>⟨o.slots,kp b o hx q⟩,fun b o q n hx=>by rw [bT (inL b o q)];exact n,fun b o q hx=>⟨o,kp b o hx q⟩,fun b ys q=>by rw [bT (nT b _ q)];exact q,fun b o u' q=>by rw [bT (nT b _ q)];exact q,fun b ps q=>⟨#[],by rw [bT (nT b _ q),Array.append_empty];exact q⟩⟩
  have hok:HOk X.prog X.w (upd H s.heap.objs.size (.tup [.str ⟨#[c]⟩,x])) h9:=fun b u' q=>by
   by_cases hb:b=s.heap.objs.size
   ·subst hb
    rw [cL] at q
    cases q
    exact ⟨show 2<=sizeLine by decide,[.str ⟨#[c]⟩ uu,u],.cons ⟨_,rfl⟩ (.cons ru .nil),_,htup,rfl,_,rfl⟩
   ·rw [bT hb] at q
    refine (I.hok b u' q).stay (fun c v hc' q' => ?_) (fun c q'=>by rw [bT (nT c _ q')];exact q') fun c ys q'=>by rw [bT (nT c _ q')];exact q'
    have:∃ u'',H c=some u'':=by
     rcases hc' with z | z
     ·exact ⟨u',by rw [z];exact q⟩
     ·exact ⟨_,z⟩
    obtain ⟨u'',hu''⟩:=this
    obtain ⟨e1,e2,e3,e4⟩:=nx c _ hu''
    exact hkeep c v e1 e2 e3 e4 q'
  have I2:Inv X pins σ (upd H s.heap.objs.size (.tup [.str ⟨#[c]⟩,x])) { s with heap:=h9,toks:=tk }:=I.call (g':=s.gens) (t':=tk) (d':=s.drawn) (ch:=[z,TI,TO,i1,i2]) un hok I.bare fun b hb=>by
   have fb:=hf b hb
   exact ⟨fb.2.2.2.1,fb.2.1,fb.2.2.2.2.1,fb.2.2.2.2.2⟩
  have up:∀ b o,b≠z->h'.get? b=some o->h9.get? b=some o:=fun b o e q=>(sb.2 b e).trans q
  refine ⟨.ref s.heap.objs.size,_,I2,rfl,⟨_,c,x,rfl,hT,by simpa using hcc,rfl,fun ys hy=>by rw [I.list_inj hy hq];exact hx⟩,⟨hz9,up _ _ D.TIz (hk _ _ D.TIz D.TITO D.TIi1 D.TIi2 hTI),⟨_,_,up _ _ D.TOz a2⟩,?_,a4.at fun o y=>up _ o D.i2z y⟩,fun b hb=>?_⟩
  ·obtain ⟨o1,q1,r1⟩:=a3
   exact ⟨o1,up _ _ D.i1z q1,r1⟩
  ·have hbs:∃ o,s.heap.get? b=some o:=by
    simp only [List.mem_cons,List.not_mem_nil,or_false] at hb
    obtain ⟨o1,q1,_⟩:=h1
    obtain ⟨o2,q2,_⟩:=h2
    rcases hb with rfl | rfl | rfl | rfl | rfl
    ·exact ⟨_,hz⟩
    ·exact ⟨_,hTI⟩
    ·exact ⟨_,hTO⟩
    ·exact ⟨_,q1⟩
    ·exact ⟨_,q2⟩
   obtain ⟨o,q⟩:=hbs
   rw [bT (inL b o q)]
   exact fo b hb
 done:=by
  intro X hP hw hK hc i pins s σ H E I hf st hg
  subst hP hw hK
  obtain ⟨hz,hTI,⟨u0,v0,hTO⟩,h1,h2⟩:=st
  obtain ⟨xs,hq,hx⟩:=hg
  obtain ⟨its,rv,p,_⟩:=I.list hq
  have D:=D a rfl
  have hzt:s.TypeIs (.ref z) "zip" := ⟨_,hz,rfl⟩
  have hh:=I.ok.hd hc
  have hl:=rv.length
  unfold pyNext
  refine wpAny_bind (wpAny_attempt (wpAny_callSpecial?_slot (name:=Str.ofString "__next__") hzt PySem.F.slot_zip_next
   (wpAny_call_entry PySem.F.slot_zip_next hzt PySem.F.entry_zip_next
    (aRd (aDc (A:=X.A.in1) hh i1 ⟨zs.toArray⟩ t hn) hh D hz hTI hTO h1 h2 p.isList (by
     by_cases hi:zs.length<=i
     ·refine .inl fun s' Q E st hE=>aRe (A:=X.A.in1) hh hn st (by simpa using hi) hE
     ·exact .inr ⟨by simpa using hi,by simp;omega⟩) fun h' e tk hk he=>?_) (PySem.F.args_zip_next_1 _))))
  obtain ⟨o,ho,hce⟩:=he
  refine wpAny_bind (wpAny_isInstance (T := "StopIteration") (b:=true) ⟨o,ho,hce⟩ isSubtype_stop ?_)
  refine wpAny_pure ⟨rfl,?_⟩
  have fo:∀ b∈[z,TI,TO,i1,i2],H b=none:=fun b hb=>(hf b hb).1
  have mx:∀ b:Addr,b ∉ [z,TI,TO,i1,i2]->b≠z/\b≠TO/\b≠i1/\b≠i2:=fun b hb=>⟨fun q=>hb (by simp [q]),fun q=>hb (by simp [q]),fun q=>hb (by simp [q]),fun q=>hb (by simp [q])⟩
  have kp:∀ b o,b ∉ [z,TI,TO,i1,i2]->s.heap.get? b=some o->h'.get? b=some o:=fun b o hb q=>hk b o (mx b hb).1 (mx b hb).2.1 (mx b hb).2.2.1 (mx b hb).2.2.2 q
  have un:Un (frs X.stack) [z,TI,TO,i1,i2] H H s.heap h' :=
   ⟨fun b o q n hb hx=>kp b o hx q,fun b o q n hb hx=>⟨o.slots,kp b o hx q⟩,fun b o q n hx=>n,fun b o q hx=>⟨o,kp b o hx q⟩,fun b ys q=>q,fun b o u' q=>q,fun b ps q=>⟨#[],by rw [Array.append_empty];exact q⟩⟩
  have hok:HOk X.prog X.w H h':=fun b u' q=>by
   refine (I.hok b u' q).stay (fun c v hc' q' => ?_) (fun c q'=>q') fun c ys q'=>q'
   have:∃ u'',H c=some u'':=by
    rcases hc' with z | z
    ·exact ⟨u',by rw [z];exact q⟩
    ·exact ⟨_,z⟩
   obtain ⟨u'',hu''⟩:=this
   exact hk c v (bK hu'' (fo z (by simp))) (bK hu'' (fo TO (by simp))) (bK hu'' (fo i1 (by simp))) (bK hu'' (fo i2 (by simp))) q'
  exact I.call (g':=s.gens) (t':=tk) (d':=s.drawn) (ch:=[z,TI,TO,i1,i2]) un hok I.bare fun b hb=>by
   have fb:=hf b hb
   exact ⟨fb.2.2.2.1,fb.2.1,fb.2.2.2.2.1,fb.2.2.2.2.2⟩
 self:=fun _ _ _ _ _ st h=>wpAny_pyIter_zip st.1 h
theorem aG6:∀ (z:List Nat) (ds:List D),(vY z ds).length=min z.length ds.length
 | [],ds=>by simp [vY]
 | c :: z,[]=>by simp [vY]
 | c :: z,d :: ds=>by rw [vY,List.length_cons,List.length_cons,List.length_cons,aG6];omega
theorem aG7:∀ (z:List Nat) (ds:List D) (i:Nat) (d:D),(vY z ds)[i]?=some d->∃ c e,z[i]?=some c/\ds[i]?=some e/\d = .tup [.str [c],e]
 | [],ds,i,d,h=>by simp [vY] at h
 | c :: z,[],i,d,h=>by simp [vY] at h
 | c :: z,e :: ds,0,d,h=>by
  rw [vY] at h
  simp at h
  exact ⟨c,e,rfl,rfl,h.symm⟩
 | c :: z,e :: ds,i+1,d,h=>by
  rw [vY,List.getElem?_cons_succ] at h
  obtain ⟨c',e',h1,h2,h3⟩:=aG7 z ds i d h
  exact ⟨c',e',by simpa using h1,by simpa using h2,h3⟩
section
variable{X:Cx}{B:List Addr}{a b:Expr}{f g:Ex}{pos:Pos}
theorem aVp{K:PySem.W.Frag}{A:List Addr}{H:Hp}{z:List Nat}{ds:List D}{vs:List V}{l:Addr}(hq:SqL K (hide (A++B) H) l vs)(r:bH K (hide (A++B) H) ds vs):aKs K B A H (Itz K z l) (vY z ds):=by
 intro A' H' le own i
 have hq':SqL K H' l vs:=(bM _ _).seq ((Le.app le).seq hq)
 refine ⟨fun d hd=>?_,fun hl=>⟨vs,hq',?_⟩⟩
 ·obtain ⟨c,e,h1,h2,rfl⟩:=aG7 z ds i d hd
  obtain ⟨v,hv,rv⟩:=r.get h2
  refine ⟨⟨(List.getElem?_eq_some_iff.mp h1).1,vs,v,hq',hv⟩,fun x H3 y=>?_⟩
  obtain ⟨T,c',v',rfl,hT,hc',rfl,h5⟩:=y
  have hx:=h5 vs hq'
  rw [hv] at hx
  cases hx
  rw [h1] at hc'
  cases hc'
  exact ⟨dJ hT,zU own hT (.cons (bJ.mpr rfl) (.cons (rv.mono (Le.app le)) .nil))⟩
 ·rw [aG6] at hl
  rw [r.length]
  omega
theorem aVq{elts:List Expr}{x1}{tp p:Pos}(hm:X.mg "zip" = none)(ha:PE X a (tI X.K B f))(hb:PE X b (tI X.K B g))(hg:Gl X "zip" := by rfl)(hs:starEach [a,b] X.env=(false,eval a X.env) :: starEach [b] X.env:=by rfl)(hs2:starEach [b] X.env=[(false,eval b X.env)]:=by rfl):L2.PI X (.Tuple elts x1 tp) (.Call (.Name "zip" p) [a,b] [] pos) (tIt X.K B (aSu f g)):=by
 intro pins s σ H Rq I ⟨A,st,ds,rs,hd,q⟩
 obtain ⟨x,hx,h2⟩:=R.ok_of hd
 obtain ⟨y,hy,h3⟩:=R.ok_of h2
 split at h3
 rotate_left
 ·cases h3
 rename_i zs ws
 cases h3
 refine Call_ (xR I hg hm boot_zip (PyProof.Rows.callWith_type1 (thn ((fW ha (fW hb mR hs2) hs) pos pins s σ H (fun vs H1=>∃ v w,vs=[v,w]/\aZ H H1/\Rep X.K (hide (A++B) H1) (.str zs) v/\Rep X.K (hide (A++B) H1) (.lst ws) w) I ⟨A,st,_,rs,hx,fun v H1 s1 r1=>⟨A,st,_,rs.mono s1,hy,fun w H2 s2 r2=>⟨v,w,rfl,s1.trans s2,r1.mono (aZ.hide s2),r2⟩⟩⟩) fun us s1 ⟨vs,H1,I1,r1,v,w,hv,sm,rv,rw'⟩=>?_) hs (by rw [hs2];rfl)))
 subst hv
 obtain ⟨u1,u2,rfl,ra,rb⟩:∃ u1 u2,us=[u1,u2]/\L2.RelV v u1/\L2.RelV w u2:=by
  cases r1 with
  | cons ra rb =>
   cases rb with
   | cons rb rc =>
    cases rc
    exact ⟨_,_,rfl,ra,rb⟩
 obtain ⟨l,ts,rfl,hq,rr⟩:=bQ.mp rw'
 have ev:=bJ.mp rv
 subst ev
 obtain ⟨t,rfl⟩:=(show ∃ t,u1=Value.str ⟨zs.toArray⟩ t from ra)
 have eu:u2=Value.ref l:=rb
 subst eu
 obtain ⟨its,rvv,pl,hz⟩:=I1.list ((bM _ _).seq hq)
 have hlt:l < s1.heap.objs.size:=by
  obtain ⟨o,e,_⟩:=pl.isList
  exact Heap.lt_size e
 refine aL8 pl.isList fun h' hz' hTI hTO hit1 hit2 hsz hk=>?_
 refine wpAny_pyIter_zip hz' ⟨s1.heap.objs.size+4,[s1.heap.objs.size+4,s1.heap.objs.size+2,s1.heap.objs.size+3,s1.heap.objs.size,s1.heap.objs.size+1],_,Itz X.K zs l,H1,rfl,I1.kept (t':=s1.toks) hk,aOk (t:=t) (aCf ⟨zs.toArray⟩) l (s1.heap.objs.size+4) (s1.heap.objs.size+2) (s1.heap.objs.size+3) s1.heap.objs.size (s1.heap.objs.size+1) (fun l' e=>?_),⟨hz',hTI,⟨_,_,hTO⟩,hit1,hit2⟩,fun b hb=>?_,q _ H1 sm (aVp hq rr)⟩
 ·subst e
  exact aHx hlt
 ·simp only [List.mem_cons,List.not_mem_nil,or_false] at hb
  rcases hb with rfl | rfl | rfl | rfl | rfl<;>exact I1.fpOk (by simp) (I1.hok.fresh (by simp))
end
end Pu
namespace Pu
open PySem PySem.Spec PyProof.Rows L2
section
variable{X:Cx}{B:List Addr}{a b e:Expr}{f g:Ex}{pos p0 p1 q:Pos}
theorem aJp(i:Nat){x:Str}{pos' dp:Pos}(hk:PE X a (tI X.K B g))(hv:PE X b (tI X.K B f))(hN:X.N.Nodup)(hi:X.N[i]?=some x:=by rfl)(hx:Loc X.env.scope x:=by first | exact Or.inl rfl | exact Or.inr rfl)(hs:swapsWith (.Dict [some a] [b] dp) (some (.Name x pos')) pos.line X.env=pure false:=by rfl)
  (hf:X.fn x=true\/X.env.scope.names.lookup x=some .local:=by first | exact .inl rfl | exact .inr rfl | assumption):PS X (.Assign [.Name x pos'] (.Dict [some a] [b] dp) pos) (tS X.K B (yE i g f)):=fD (aAm hN hi hx (aPt (aMb hk hv aPs) rfl rfl (by simp) (show 1<=15 by omega)) hs hf) (by
 rintro Dn σ H ⟨A,st,r,rs,hr,p⟩
 obtain ⟨k,hk,h2⟩:=R.ok_of hr
 obtain ⟨d,hd,h3⟩:=R.ok_of h2
 obtain ⟨⟨c1,c2⟩,h4⟩:=aJ h3
 cases h4
 intro a ha
 refine ⟨A,st,k,rs.mono (dJ ha),hk,fun u H1 s1 r1=>⟨A,st,d,(rs.mono (dJ ha)).mono s1,hd,fun v H2 s2 r2=>?_⟩⟩
 have e2:H2 a=some (.dK []):=s2 _ _ (s1 _ _ cL)
 obtain ⟨kk,ek,ev⟩:∃ kk:Key,jU kk=k/\u=kV kk:=by
  cases k<;>first | (cases c1;done) | skip
  ·exact ⟨.inl _,rfl,aQ.mp r1⟩
  ·refine ⟨.inr ⟨_⟩,?_,bJ.mp r1⟩
   simp [jU]
 refine ⟨e2,[(kk,v)],by rw [ev];rfl,(show 1<=15 by omega),?_⟩
 let G:Hp:=fun b=>if b=a then none else H2 b
 have sG:aZ H G:=fun b o z=>by
  have hb:b≠a:=bK z ha
  show (if b=a then none else H2 b)=_
  rw [if_neg hb]
  exact s2 _ _ (s1 _ _ (by rw [bT hb];exact z))
 have gN:G a=none:=if_pos rfl
 have eG:upd H2 a (.dK (xX [] [(kk,v)]))=upd G a (.dK [(kk,v)]):=by
  funext b
  by_cases hb:b=a
  ·subst hb;rw [cL,cL];rfl
  ·rw [bT hb,bT hb]
   exact (if_neg hb).symm
 rw [eG]
 exact p (a :: A) _ _ ((Le.of sG).trans (aEb gN)) ((rs.mono sG).setO (kk := .d false [k]) i gN (.inl ⟨rfl,[(kk,v)],rfl,by rw [<-ek];rfl,rfl⟩) (.cons ((aOi c2 r2).mono aRc) .nil)))
end
end Pu
namespace Pu
open PySem PySem.Spec PyProof.Rows L2
theorem bitAnd_nn{i j:Int}(h1:0<=i)(h2:0<=j):Builtin.bitAnd i j=((i.toNat &&& j.toNat:Nat):Int):=by
 unfold Builtin.bitAnd
 rw [decide_eq_true h1,decide_eq_true h2]
theorem aOl{i j:Int}(h1:0<=i)(h2:0<=j):Builtin.bitOr i j=((i.toNat ||| j.toNat:Nat):Int):=by
 unfold Builtin.bitOr Builtin.bitAnd
 have a1:¬ 0<=Builtin.bitNot i:=by unfold Builtin.bitNot;omega
 have a2:¬ 0<=Builtin.bitNot j:=by unfold Builtin.bitNot;omega
 rw [decide_eq_false a1,decide_eq_false a2]
 have e1:Builtin.bitNot (Builtin.bitNot i)=i:=by unfold Builtin.bitNot;omega
 have e2:Builtin.bitNot (Builtin.bitNot j)=j:=by unfold Builtin.bitNot;omega
 show Builtin.bitNot (Builtin.bitNot _)=_
 rw [e1,e2]
 unfold Builtin.bitNot
 omega
section
variable{X:Cx}{B:List Addr}{a b e o:Expr}{f g:Ex}{pos apos cpos:Pos}
theorem aDd(ha:PE X a (tP X.K B f))(hb:PE X b (tP X.K B g)):PE X (.BinOp a .LShift b pos) (tI X.K B (e2 uT f g)) :=
 aCd aTr (aBh (g:=fun i j => .int (i * 2 ^ j.toNat)) (fun _ _ _=>aQ.mpr rfl) fun x y d e=>by
  unfold uT at e
  split at e
  ·obtain ⟨c,e⟩:=aJ e;cases e;exact ⟨_,_,rfl,rfl,c,rfl⟩
  ·cases e) ha hb
theorem zW(ha:PE X a (tP X.K B f))(hb:PE X b (tP X.K B g)):PE X (.BinOp a .RShift b pos) (tI X.K B (e2 pA f g)) :=
 aCd aTs (aBh (g:=fun i j => .int (i / 2 ^ j.toNat)) (fun _ _ _=>aQ.mpr rfl) fun x y d e=>by
  unfold pA at e
  split at e
  ·obtain ⟨c,e⟩:=aJ e;cases e;exact ⟨_,_,rfl,rfl,c,rfl⟩
  ·cases e) ha hb
theorem qW(ha:PE X a (tP X.K B f))(hb:PE X b (tP X.K B g)):PE X (.BinOp a .BitAnd b pos) (tI X.K B (e2 pB f g)) :=
 aCd aTt (qL (g:=fun i j => .int (Builtin.bitAnd i j)) (fun _ _ _=>aQ.mpr rfl) fun x y d e=>by
  unfold pB at e
  split at e
  ·obtain ⟨c,e⟩:=aJ e;cases e;exact ⟨_,_,rfl,rfl,by rw [bitAnd_nn c.1 c.2]⟩
  ·cases e) ha hb
theorem aOm(ha:PE X a (tP X.K B f))(hb:PE X b (tP X.K B g)):PE X (.BinOp a .BitOr b pos) (tI X.K B (e2 dOr f g)) :=
 aCd aWy (qL (g:=fun i j => .int (Builtin.bitOr i j)) (fun _ _ _=>aQ.mpr rfl) fun x y d e=>by
  unfold dOr at e
  split at e
  ·obtain ⟨c,e⟩:=aJ e;cases e;exact ⟨_,_,rfl,rfl,by rw [aOl c.1 c.2]⟩
  ·cases e) ha hb
theorem aC0{K:PySem.W.Frag}{H:Hp}:∀ {l:List Int} {vs:List V},bH K H (l.map D.int) vs->vs=l.map V.int
 | [],vs,h=>cP.mp h
 | i :: l,vs,h=>by
  obtain ⟨v,r,rfl,h1,h2⟩:=bV.mp h
  rw [aQ.mp h1,aC0 h2];rfl
theorem vals_ints:∀ {l:List Int} {us:List Value},Vals (l.map V.int) us->∀ (j:Nat) (h:j < us.length),∃ i t,l[j]?=some i/\us[j] = .int i t
 | [],us,r,j,h=>by cases r;simp at h
 | i :: l,us,r,j,h=>by
  cases r with
  | cons ra rb =>
   obtain ⟨t,rfl⟩:=ra
   cases j with
   | zero=>exact ⟨i,t,rfl,rfl⟩
   | succ j =>
    obtain ⟨i',t',h1,h2⟩:=vals_ints rb j (by simpa using h)
    exact ⟨i',t',by simpa using h1,by simpa using h2⟩
theorem aL9:MtR X "list.index" (fun x vs H Q=>∃ (p:Addr) (l:List Int) (k:Int) (n:Nat),x=V.ref p/\vs=[.int k]/\SqL X.K H p (l.map V.int)/\l.findIdx? (fun i=>i==k)=some n/\l.length<=10000000/\Q (.int (n:Int)) H):=by
 intro pins s σ H x vs v us Q I rx rv h
 obtain ⟨p,l,k,n,rfl,rfl,hq,hn,hl,q⟩:=h
 obtain ⟨u,rfl,ru⟩:=rv.one
 obtain ⟨t,rfl⟩:=(show ∃ t,u=Value.int k t from ru)
 have ep:v=Value.ref p:=rx
 subst ep
 obtain ⟨its,rr,⟨⟨cls,dd,data,sl⟩,n0,ho,hc,_,hd⟩,hz⟩:=I.list hq
 have hlen:=rr.length
 rw [List.length_map] at hlen
 obtain ⟨h1,h2,h3⟩:=List.findIdx?_eq_some_iff_getElem.mp hn
 dsimp only at hc hd
 subst hc hd
 have hnu:n < its.length:=by omega
 refine call_meets PySem.F.slot_list_index ⟨_,ho,rfl⟩ PySem.F.entry_list_index (PySem.F.args_list_index_2 _ _) (PySem.SeqAt.list_indexAt p its.toArray n0 dd sl (.int k t) (fun y=>match y with | .int i _=>i==k | _=>false) n (by simpa using hnu) (by omega) ?_ fun m hm hmn=>?_) ⟨ho,fun y hy=>?_,?_⟩
 ·obtain ⟨i,t',e1,e2⟩:=vals_ints rr n hnu
  rw [List.getElem_toArray,e2]
  rw [List.getElem?_eq_getElem h1] at e1
  cases e1
  exact h2
 ·have hm':m < its.length:=by simpa using hm
  obtain ⟨i,t',e1,e2⟩:=vals_ints rr m hm'
  rw [List.getElem_toArray,e2]
  rw [List.getElem?_eq_getElem (by omega)] at e1
  cases e1
  have:=h3 m hmn
  simpa using this
 ·obtain ⟨m,hm,rfl⟩:=List.mem_iff_getElem.mp (show y∈its by simpa using hy)
  obtain ⟨i,t',e1,e2⟩:=vals_ints rr m hm
  rw [e2]
  exact (PySem.MeetsSeq.EqGives.int i k t' t).at _ _
 ·exact ⟨.int (n:Int),H,I.tok _,⟨_,rfl⟩,q⟩
theorem aOn{r:Exs}(ho:PE X o (tP X.K B f))(ha:PA X [e] (tA X.K B r))(hbase:attributeBase o "index" X.env (eval o X.env)=eval o X.env:=by rfl)
  (hfew:((backTo cpos (starEach [e] X.env)).all (fun x => !x.1)&&(backToKw cpos (keywordEach [] X.env)).all (fun x=>x.1.isSome)
   && decide (([e]:List Expr).length+([]:List Keyword).length+(if ([]:List Keyword).isEmpty then 0 else 1) < 30))=true:=by rfl)
  (hline:(apos.endLine==cpos.line)=true:=by rfl) (hs:starEach [e] X.env=(false,eval e X.env) :: starEach [] X.env:=by rfl) :
  PE X (.Call (.Attribute o "index" apos) [e] [] cpos) (tI X.K B (eMt aIp f r)):=by
 refine cT (aM6 PySem.F.plainAttrs_list PySem.F.slot_list_index PySem.F.type_list_index aL9 ho ha hbase hfew hline hs rfl) ?_
 rintro σ H Q ⟨A,st,d,rs,hd,k⟩
 obtain ⟨x,hx,h2⟩:=R.ok_of hd
 obtain ⟨xs,hxs,h3⟩:=R.ok_of h2
 unfold aIp at h3
 split at h3
 ·rename_i ys j
  obtain ⟨l,hl,h4⟩:=R.ok_of h3
  obtain ⟨n,hn,h5⟩:=R.ok_of h4
  obtain ⟨c,h6⟩:=aJ h5
  cases h6
  have ey:=aAt hl
  subst ey
  refine ⟨A,st,_,rs,hx,fun v H1 s1 r1=>?_⟩
  obtain ⟨p,vs,e1,hq,rr⟩:=r1.lst
  have ev:=aC0 rr
  subst ev
  refine ⟨by rw [e1];exact .inl ⟨rfl,_,hq⟩,A,st,_,rs.mono s1,hxs,fun ws H2 s2 r2=>?_⟩
  obtain ⟨w,rfl,rw'⟩:=aJf r2
  rw [mU,List.length_map] at c
  exact ⟨p,l,j,n,e1,by rw [aQ.mp rw'],s2.seq hq,qM hn,c,k _ H2 (s1.trans s2) (aQ.mpr rfl)⟩
 ·cases h3
theorem aRf:MtR X "int.bit_length" (fun x vs H Q=>∃ i:Int,x = .int i/\vs=[]/\Q (.int ((Builtin.Int.intBits i:Nat):Int)) H):=by
 intro pins s σ H x vs v us Q I rx rv h
 obtain ⟨i,rfl,rfl,q⟩:=h
 obtain ⟨t,rfl⟩:=(show ∃ t,v=Value.int i t from rx)
 have hus:=rv.zero
 subst hus
 exact call_int_bit_length ⟨.int _,H,I.tok _,⟨_,rfl⟩,q⟩
theorem aRg(i:Int):Builtin.Int.intBits i=lV i:=by
 unfold Builtin.Int.intBits lV
 by_cases h:i=0
 ·rw [if_pos h,if_pos (by rw [h];rfl)]
 ·rw [if_neg h,if_neg (by simpa using h)]
theorem aVr(ho:PE X o (tP X.K B f))(hbase:attributeBase o "bit_length" X.env (eval o X.env)=eval o X.env:=by rfl)(hline:(apos.endLine==cpos.line)=true:=by rfl) :
  PE X (.Call (.Attribute o "bit_length" apos) [] [] cpos) (tI X.K B (e1 aA7 f)):=by
 refine cT (aU1 PySem.F.plainAttrs_int PySem.F.slot_int_bit_length PySem.F.type_int_bit_length aRf ho hbase hline) ?_
 rintro σ H Q ⟨A,st,d,rs,hd,k⟩
 obtain ⟨x,hx,h2⟩:=R.ok_of hd
 cases x<;>first | (cases h2;done) | skip
 cases h2
 refine ⟨A,st,_,rs,hx,fun v H1 s1 r1=>⟨by rw [r1.int];rfl,_,r1.int,rfl,?_⟩⟩
 rw [aRg]
 exact k _ H1 s1 (aQ.mpr rfl)
end
end Pu
namespace Pu
open PySem PySem.Spec PyProof.Rows L2
section
open PySem.SeqAt
open PySem.AutoSeq1 (wpAny_loadPart')
open PySem.MeetsSeq PySem.MeetsSeq2 PySem.MeetsSeq3
inductive LexW (A:Around) (s:Shared):List Value->List Value->Bool->Prop where
 | nn:LexW A s [] [] true
 | nc {w:Value} {ws:List Value}:LexW A s [] (w :: ws) true
 | cn {v:Value} {vs:List Value}:LexW A s (v :: vs) [] false
 | eq {v w:Value} {vs ws:List Value} {b:Bool}:EqAt A s v w true->LexW A s vs ws b->LexW A s (v :: vs) (w :: ws) b
 | lt {v w:Value} {vs ws:List Value} {b:Bool}:EqAt A s v w false->(∀ (prog:Program) (wd:World) (E Q:Value->Shared->Prop),Q (.bool b) s->wpAny (model prog wd) A (richCompare .LtE v w) Q E s)->LexW A s (v :: vs) (w :: ws) b
end
section
variable{X:Cx}
end
end Pu
namespace Pu
open PySem PySem.Spec PyProof.Rows L2
section
variable{X:Cx}{B:List Addr}{a:Expr}{f:Ex}{pos p0:Pos}
end
section
variable{X:Cx}{B:List Addr}{scope:Scope}{elt tg iter c:Expr}{pos:Pos}{t:Tg}{it:ItE}{f u:Ex}
theorem aOo{K:PySem.W.Frag}{A:List Addr}{H H1 H':Hp}{st:PSt}{σ:LSt}{p:Addr}{vs:List V}{ys:List D}(rs:RS K B A H st σ)(i:Nat)(s1:aZ H H1)(hp:H1 p=none)(s2:aZ H1 H')(hv:H' p=some (.lst vs))(r:bH K (hide (A++p :: B) H') ys vs) :
  RS K B (p :: A) H' (st.set i (some (.o .l ys))) (σ.set i (some (.ref p)))/\Le A H (p :: A) H':=by
 let G:Hp:=fun b=>if b=p then none else H' b
 have hpH:H p=none:=by
  cases h:H p with
  | none=>rfl
  | some o=>rw [s1 _ _ h] at hp;cases hp
 have sG:aZ H G:=fun b o z=>by
  have hb:b≠p:=bK z hpH
  show (if b=p then none else H' b)=_
  rw [if_neg hb]
  exact s2 _ _ (s1 _ _ z)
 have gN:G p=none:=if_pos rfl
 have eG:upd G p (.lst vs)=H':=by
  funext b
  by_cases hb:b=p
  ·subst hb;rw [cL,hv]
  ·rw [bT hb];exact if_neg hb
 have eh:hide (A++p :: B) H'=hide (A++B) G:=by
  funext b
  by_cases hb:b∈A++p :: B
  ·rw [gC hb]
   rcases mem_mid.mp hb with e | e
   ·subst e
    by_cases hb2:b∈A++B
    ·rw [gC hb2]
    ·rw [cF hb2];exact gN.symm
   ·rw [gC e]
  ·have h2:b ∉ A++B:=fun z=>hb (mem_mid.mpr (.inr z))
   have h3:b≠p:=fun z=>hb (mem_mid.mpr (.inl z))
   rw [cF hb,cF h2]
   exact (if_neg h3).symm
 rw [eh] at r
 have z:=(rs.mono sG).setO (kk := .l) (o := .lst vs) i gN rfl r
 have l:=(Le.of (A:=A) sG).trans (aEb (o := .lst vs) gN)
 rw [eG] at z l
 exact ⟨z,l⟩
theorem aJq(i:Nat){x:Str}{px spos:Pos}(is:List Nat)(hsub:aD8 is t)(S:CScope X scope is)(hi:L2.PI X tg iter (tIt X.K B it))(hg:∀ (B:List Addr) (C:Addr) (s₀:Shared) (H₀:Hp) (fp:List Addr),PG (cG X scope C s₀ H₀ fp) tg (tG X.K B t))
  (he:∀ (B:List Addr) (C:Addr) (s₀:Shared) (H₀:Hp) (fp:List Addr),PE (cG X scope C s₀ H₀ fp) elt (tI X.K B f)) (hc:X.calm=true) (hN:X.N.Nodup) (hi':X.N[i]?=some x:=by rfl) (hx:Loc X.env.scope x:=by first | exact Or.inl rfl | exact Or.inr rfl)
  (hsw:swapsWith (.ListComp elt [⟨tg,iter,[],0⟩] scope pos) (some (.Name x px)) spos.line X.env=pure true:=by rfl)
  (hf:X.fn x=true\/X.env.scope.names.lookup x=some .local:=by first | exact .inl rfl | exact .inr rfl | assumption) (hs:∀ x,foldedSetIterable iter X.env x=pure x:=by intro _;rfl) :
  PS X (.Assign [.Name x px] (.ListComp elt [⟨tg,iter,[],0⟩] scope pos) spos) (tS X.K B (nU i (fK is t it jL f))):=by
 intro pins s σ H Dn I h
 obtain ⟨A,st,r,rs,hr,q⟩:=h
 obtain ⟨d,hd,h3⟩:=R.ok_of hr
 obtain ⟨xs,hx',h2⟩:=R.ok_of hd
 obtain ⟨hl,h5⟩:=aJ h2
 obtain ⟨ys,hy,h4⟩:=R.ok_of h5
 cases h4
 cases h3
 rw [exec_Assign_Name_used _ _ _ _ hsw]
 refine wpAny_bind (wpAny_standAt (wpAny_bind ?_))
 show wpAny _ X.A (do let _ <- comprehension (.ListComp elt [⟨tg,iter,[],0⟩] scope pos) scope X.env _ (newList []) false (eval iter X.env) (some (assign (.Name x px) X.env))) _ _ s
 refine wpAny_bind (wpAny_mono (Q:=fun _ s'=>SP X pins Dn .next s') ?_ (fun _ s' hq=>wpAny_pure (wpAny_pure hq)) fun _ _ e=>e)
 refine tY (use:=some (assign (.Name x px) X.env)) (Qf:=fun _ s'=>SP X pins Dn .next s') (Q:=fun v H'=>Dn.nx (σ.set i (some v)) H') (tt:=aEg) (te:=tIx X.K f) (rest:=fun env it p=>eval elt env >>= fun x=>call (.builtin "list.append") [p,x] >>= fun _=>again (.compLoop (.ListComp elt [⟨tg,iter,[],0⟩] scope pos) 0 it p env)) S hc hi (fun C s₀ H₀ fp=>aQw fun B=>hg B C s₀ H₀ fp) (fun _ _ _=>qO)
  (fun C s₀ H₀ fp it p s Q h=>aYo (Y:=cG X scope C s₀ H₀ fp) h) (fun C s₀ H₀ fp it p τ H s pins vs N Q I h q=>aT3 (Y:=cG X scope C s₀ H₀ fp) rfl (aQv fun B=>he B C s₀ H₀ fp) τ H s pins vs N Q I h (fun Q Q' m h=>wY Q Q' m h) q) hs I
  (aJd hsub (fun τ H Q ⟨B,A,st,k,rs,hk,q⟩=>?_) rs hx' hl hy fun p vs H1 H' s1 hp s2 hv r=>?_) fun C p H5 s5 m5 s3 H3 fp τ hC I3 hfp I5 hn5 q5=>aD9 hN hi' hx hf hC I3 hfp I5 hn5 fun s' I'=>⟨_,_,I',q5⟩
 ·obtain ⟨z,l⟩:=aOo rs i s1 hp s2 hv r
  exact q _ _ _ l z
 ·cases hk
  exact q H (aZ.refl _)
end
end Pu
namespace Pu
open PySem PySem.Spec PyProof.Rows L2
section
variable{X:Cx}{B:List Addr}{a:Expr}{f:Ex}{pos:Pos}
end
end Pu
namespace Pu
open PySem PySem.Spec PyProof.Rows L2
section
variable{X:Cx}{B:List Addr}{a b:Expr}{f g:Ex}{pos:Pos}{W:XW}
end
end Pu
namespace Pu
section
open PySem PySem.Spec PyProof.Rows L2
variable{X:Cx}{B:List Addr}{a b:Expr}{f g:Ex}{pos:Pos}
theorem aAj{K:PySem.W.Frag}:uB K (rI0 fun i j => .bl (decide (i < j))) aH4:=qL (g:=fun i j => .bl (decide (i < j))) (fun _ _ _=>bD.mpr rfl) fun x y d e=>by
 unfold aH4 at e
 split at e
 ·cases e;exact ⟨_,_,rfl,rfl,rfl⟩
 ·cases e
theorem aOp{i j:Int}(c:(-18446744073709551616 < i/\i < 18446744073709551616)\/(-18446744073709551616 < j/\j < 18446744073709551616)):aLw i j:=by
 unfold aLw
 omega
theorem nJ(ha:PE X a (tP X.K B f))(hb:PE X b (tP X.K B g)):PE X (.BinOp a .Mult b pos) (tI X.K B (e2 iG f g)):=by
 refine aCd aTo ?_ ha hb
 intro A H x y d v u Q w rx ry e q
 unfold iG at e
 split at e
 ·obtain ⟨c,e⟩:=aJ e
  cases e
  exact ⟨_,_,rx.int,ry.int,aOp c,q _ H (aZ.refl _) (aQ.mpr rfl)⟩
 ·cases e
end
end Pu
namespace Pu
open PySem PySem.Spec PyProof.Rows L2
section
variable{X:Cx}{B:List Addr}{scope:Scope}{elt tg iter:Expr}{pos:Pos}{t:Tg}{it:ItE}{f g h:Ex}{rest:List Stmt}{i:Nat}{nb:NB}
end
end Pu
namespace Pu
open PySem PySem.Spec PyProof.Rows L2
section
variable{X:Cx}{pins:List (Addr × Obj)}{σ:List (Option V)}{H H':Hp}{s:Shared}{h':Heap}
end
section
variable{X:Cx}{B:List Addr}{a e:Expr}{es:List Expr}{f:Ex}{pos p0 apos cpos:Pos}{sm:Stmt}{rest:List Stmt}{bd bd':Bd}{r:Exs}
end
section
variable{P:Program}{w:World}{K:PySem.W.Frag}{mg:Str->Option Value}{base:Heap}{x qual:Str}{st:Stmt}{dV:Value}{f:Addr}{fd:FuncData}{N ps:List Str}{k:Nat}
end
section
variable{X:Cx}{B:List Addr}{e:Expr}{es:List Expr}{r:Exs}{pos p0:Pos}
end
section
variable{X:Cx}{B:List Addr}{e:Expr}{pos:Pos}{f:Ex}
end
end Pu
namespace Pu
open PySem PySem.Spec PyProof.Rows L2 PySem.Calls Builtin Builtin.ObjectAttr
section
variable{prog:Program}{w:World}{A:Around}{E:Value->Shared->Prop}{R:Result->Shared->Prop}{s:Shared}{K:PySem.W.Frag}{x dx C:Addr}{mA:Str->Option Value}{name:Str}{v:Value}{ox:Obj}
end
section
variable{prog:Program}{w:World}{A:Around}{E:Value->Shared->Prop}{hp:Heap}{gs:Array GenState}{dn:Drawn}{tn:Nat}{os:OsState}
variable{n0 q:Str}{C N:Addr}{l0 l1 l2:List Value}{z0:Bool}{l3:List Str}{l4:List Value}{z1:Bool}{z2:Option Bool}{z3:Option Addr}{k0 k1 k2 k3 k5:Option Value}{B newId initId:String}
end
section
variable{X:Cx}{pins:List (Addr × Obj)}{σ:List (Option V)}{H:Hp}{s:Shared}{h':Heap}{x dx C:Addr}
end
section
variable{X:Cx}{B:List Addr}{o e value:Expr}{f:Str}{pos pos':Pos}{ta tv:TE}
end
section
variable{X:Cx}{B:List Addr}{e:Expr}{es:List Expr}{r:Exs}{pos p0:Pos}
end
section
variable{P:Program}{w:World}{K:PySem.W.Frag}{mg:Str->Option Value}{base:Heap}{x qual:Str}{st:Stmt}{dV:Value}{f:Addr}{fd:FuncData}{N ps:List Str}{k:Nat}
end
section
variable{X:Cx}{B:List Addr}{e:Expr}{es:List Expr}{r:Exs}{pos p0:Pos}
end
end Pu
namespace Pu
open PySem
structure TI(b:Bool)(t:SetTable):Prop where
 rise:t.place.toList.Pairwise (· < ·)
 dum:t.dummies = #[]
 led:t.led=b
theorem aC1(xs:Array Nat)(j:Nat)(hr:xs.toList.Pairwise (· < ·)):∀ (fuel lo hi:Nat),hi - lo<=fuel->lo<=hi->hi<=xs.size->(∀ (i:Nat) (a:Nat),i < lo->xs[i]?=some a->a < j)->(∀ (i:Nat) (a:Nat),hi<=i->xs[i]?=some a->j<=a) ->
  (∀ (i:Nat) (a:Nat),i < SetTable.below.go xs j fuel lo hi->xs[i]?=some a->a < j)/\(∀ (i:Nat) (a:Nat),SetTable.below.go xs j fuel lo hi<=i->xs[i]?=some a->j<=a)/\SetTable.below.go xs j fuel lo hi<=xs.size
 | 0,lo,hi,hf,hl,hs,h1,h2=>by
  have e:lo=hi:=by omega
  subst e
  exact ⟨h1,h2,hs⟩
 | fuel+1,lo,hi,hf,hl,hs,h1,h2=>by
  unfold SetTable.below.go
  have up:∀ (i k:Nat) (a b:Nat),i < k->xs[i]?=some a->xs[k]?=some b->a < b:=fun i k a b hik ha hb=>by
   rw [<-Array.getElem?_toList] at ha hb
   obtain ⟨hi',ei⟩:=List.getElem?_eq_some_iff.mp ha
   obtain ⟨hk',ek⟩:=List.getElem?_eq_some_iff.mp hb
   have:=List.pairwise_iff_getElem.mp hr i k hi' hk' hik
   rw [ei,ek] at this
   exact this
  by_cases hlt:lo < hi
  ·rw [if_pos hlt]
   have hm:(lo+hi) / 2 < xs.size:=by omega
   have hx:xs[(lo+hi) / 2]?=some xs[(lo+hi) / 2]:=Array.getElem?_eq_getElem hm
   have hg:xs.getD ((lo+hi) / 2) j=xs[(lo+hi) / 2]:=by rw [Array.getD_eq_getD_getElem?,hx];rfl
   dsimp only
   rw [hg]
   by_cases hc:xs[(lo+hi) / 2] < j
   ·rw [if_pos hc]
    refine aC1 xs j hr fuel _ _ (by omega) (by omega) hs (fun i a hi' ha=>?_) h2
    by_cases he:i=(lo+hi) / 2
    ·subst he;rw [hx] at ha;cases ha;exact hc
    ·exact Nat.lt_trans (up i _ a _ (by omega) ha hx) hc
   ·rw [if_neg hc]
    refine aC1 xs j hr fuel _ _ (by omega) (by omega) (by omega) h1 fun i a hi' ha=>?_
    by_cases he:i=(lo+hi) / 2
    ·subst he;rw [hx] at ha;cases ha;omega
    ·have:=up _ i _ a (by omega) hx ha;omega
  ·rw [if_neg hlt]
   have e:lo=hi:=by omega
   subst e
   exact ⟨h1,h2,hs⟩
theorem aC2(xs:Array Nat)(j:Nat)(hr:xs.toList.Pairwise (· < ·)):(∀ (i:Nat) (a:Nat),i < SetTable.below xs j->xs[i]?=some a->a < j)/\(∀ (i:Nat) (a:Nat),SetTable.below xs j<=i->xs[i]?=some a->j<=a)/\SetTable.below xs j<=xs.size :=
 aC1 xs j hr xs.size 0 xs.size (by omega) (Nat.zero_le _) (Nat.le_refl _) (fun i a h=>absurd h (Nat.not_lt_zero _)) fun i a h ha=>by
  have:=(Array.getElem?_eq_some_iff.mp ha).1
  omega
theorem aG8(xs:Array Nat)(j:Nat)(hr:xs.toList.Pairwise (· < ·))(hn:xs[SetTable.below xs j]?≠some j):(SetTable.insertAt xs (SetTable.below xs j) j).toList.Pairwise (· < ·):=by
 obtain ⟨h1,h2,h3⟩:=aC2 xs j hr
 have e:(SetTable.insertAt xs (SetTable.below xs j) j).toList=xs.toList.take (SetTable.below xs j)++j :: xs.toList.drop (SetTable.below xs j):=by
  unfold SetTable.insertAt
  simp only [Array.toList_append,Array.toList_push,Array.toList_extract]
  simp [List.extract_eq_drop_take,List.append_assoc]
  rw [List.take_of_length_le (by simp)]
 rw [e,List.pairwise_append]
 have ge:∀ a∈xs.toList.drop (SetTable.below xs j),j < a:=fun a ha=>by
  obtain ⟨k,hk⟩:=List.mem_iff_getElem?.mp ha
  rw [List.getElem?_drop,Array.getElem?_toList] at hk
  have:=h2 _ a (Nat.le_add_right _ _) hk
  rcases Nat.lt_or_eq_of_le this with h | h
  ·exact h
  ·subst h
   exfalso
   have hb:SetTable.below xs j < xs.size:=by have:=(Array.getElem?_eq_some_iff.mp hk).1;omega
   have hx:xs[SetTable.below xs j]?=some xs[SetTable.below xs j]:=Array.getElem?_eq_getElem hb
   have g1:=h2 _ _ (Nat.le_refl _) hx
   by_cases hz:k=0
   ·subst hz
    rw [Nat.add_zero] at hk
    exact hn hk
   ·have hk':=(Array.getElem?_eq_some_iff.mp hk)
    have:=List.pairwise_iff_getElem.mp hr (SetTable.below xs j) (SetTable.below xs j+k) (by simpa using hb) (by simpa using hk'.1) (by omega)
    rw [Array.getElem_toList,Array.getElem_toList,hk'.2] at this
    omega
 refine ⟨hr.sublist (List.take_sublist _ _),List.pairwise_cons.mpr ⟨ge,hr.sublist (List.drop_sublist _ _)⟩,fun a ha b hb=>?_⟩
 have la:a < j:=by
  obtain ⟨k,hk⟩:=List.mem_iff_getElem?.mp ha
  rw [List.getElem?_take] at hk
  split at hk
  ·rename_i hlt
   rw [Array.getElem?_toList] at hk
   exact h1 k a hlt hk
  ·cases hk
 rcases List.mem_cons.mp hb with rfl | hb
 ·exact la
 ·exact Nat.lt_trans la (ge b hb)
theorem aJr(j:Nat):SetTable.has #[] j=false:=rfl
theorem aG9(t:SetTable)(hashAt:Nat->Int)(h:Int)(hd:t.dummies = #[]):∀ (fuel:Nat) (p:SetTable.Probe) (j:Nat) (d:Option Nat),SetTable.probe.go t hashAt h fuel p=some (.empty j d)->t.slot j = .empty/\d=p.dummy
 | 0,p,j,d,e=>by cases e
 | fuel+1,p,j,d,e=>by
  unfold SetTable.probe.go at e
  cases hs:t.slot p.j with
  | empty=>rw [hs] at e;cases e;exact ⟨hs,rfl⟩
  | dummy =>
   exfalso
   unfold SetTable.slot at hs
   dsimp only at hs
   split at hs
   ·cases hs
   ·rw [hd,aJr] at hs
    cases hs
  | live i =>
   rw [hs] at e
   dsimp only at e
   have adv:(t.advance p).dummy=p.dummy:=by
    unfold SetTable.advance
    split<;>rfl
   split at e
   ·cases e
   ·obtain ⟨a,b⟩:=aG9 t hashAt h hd fuel _ j d e
    exact ⟨a,b.trans adv⟩
theorem aLa{t:SetTable}{h:Int}{j:Nat}{w:Bool}(hd:t.dummies = #[])(e:t.freeSlot h=some (j,w)):t.slot j = .empty:=by
 unfold SetTable.freeSlot at e
 split at e
 ·rename_i j' d hp
  obtain ⟨a,b⟩:=aG9 t _ h hd _ _ _ _ hp
  have:d=none:=b
  subst this
  cases e
  exact a
 ·cases e
theorem aLb{t:SetTable}{j:Nat}(h:t.slot j = .empty):t.place[SetTable.below t.place j]?≠some j:=fun e=>by
 unfold SetTable.slot at h
 dsimp only at h
 rw [if_pos (by rw [e];exact beq_self_eq_true _)] at h
 cases h
theorem TI.put{b:Bool}{t:SetTable}{j:Nat}(x:TI b t)(h:t.slot j = .empty):TI b (t.put j).1:=by
 refine ⟨aG8 t.place j x.rise (aLb h),?_,x.led⟩
 show (if SetTable.has t.dummies j then _ else t.dummies)=_
 rw [x.dum,aJr]
 rfl
theorem aHz(n:Nat):(Array.range n).toList.Pairwise (· < ·):=by
 rw [Array.toList_range]
 exact List.pairwise_lt_range
theorem TI.stand{b:Bool}{t:SetTable}(x:TI b t)(n:Nat):TI b (t.standIn n):=⟨aHz n,rfl,x.led⟩
theorem TI.orStand{b:Bool}{t:SetTable}(x:TI b t)(n:Nat):TI b (t.orStandIn n):=by
 unfold SetTable.orStandIn
 split
 ·exact x
 ·exact x.stand n
theorem TI.lay{b:Bool}{t:SetTable}(x:TI b t)(es:Array (Int × Value))(h:Int)(v:Value):TI b (layNew t es h v).2.1:=by
 unfold layNew
 split
 ·rename_i j w e
  exact (x.put (aLa x.dum e)).orStand _
 ·exact x.stand _
theorem TI.relay{b:Bool}{t:SetTable}(x:TI b t)(es:Array (Int × Value))(n:Nat):TI b (relayAll t es n).2.1:=by
 unfold relayAll
 split
 ·rename_i t' order e
  have y:TI b t':=by
   unfold SetTable.relaid SetTable.laid at e
   obtain ⟨owner,_,e2⟩:=Option.bind_eq_some_iff.mp e
   cases e2
   refine ⟨?_,rfl,x.led⟩
   show ((List.map (fun x:Nat × Nat=>x.1) (List.filterMap (fun j=>Option.map (fun x=>(j,x)) (owner.getD j Option.none)) (List.range (SetTable.sizeAbove n - 1+1)))).toArray).toList.Pairwise (· < ·)
   rw [List.toList_toArray,List.map_filterMap]
   refine (List.pairwise_lt_range (n:=_)).filterMap _ fun a a' haa c hc c' hc' => ?_
   have h1:c=a:=by
    cases ho:(owner.getD a none) with
    | none=>rw [ho] at hc;cases hc
    | some k=>rw [ho] at hc;cases hc;rfl
   have h2:c'=a':=by
    cases ho:(owner.getD a' none) with
    | none=>rw [ho] at hc';cases hc'
    | some k=>rw [ho] at hc';cases hc';rfl
   rw [h1,h2]
   exact haa
  dsimp only
  split
  ·exact y
  ·exact x.stand _
 ·exact x.stand _
theorem TI.fresh(b:Bool):TI b (.fresh 0 0 b):=⟨List.Pairwise.nil,rfl,rfl⟩
end Pu
namespace Pu
open PySem
theorem aGa(t:SetTable)(es:Array (Int × Value))(h:Int)(v:Value):(layNew t es h v).1.toList.Perm (es.toList++[(h,v)]):=by
 have p:=layNew_perm t es h v
 rw [Array.toList_push] at p
 exact p
def numOf:Value->Int
 | .int n _=>n
 | _=>0
def aLc(e:Int × Value):Prop:=∃ (n:Int) (t:Tok),e=(hashInt n,.int n t)
structure SetIs(b:Bool)(a:Addr)(ns:List Int)(es:Array (Int × Value))(ep:Nat)(t:SetTable)(h:Heap):Prop where
 obj:h.get? a=some { cls := .type "set", dict:=none,data := .set es ep t,slots := #[] }
 fit:t.fits es.size=true
 ti:TI b t
 perm:(es.toList.map fun e=>numOf e.2).Perm ns
 nums:∀ e∈es.toList,aLc e
theorem SetIs.keep{b:Bool}{a:Addr}{ns:List Int}{es:Array (Int × Value)}{ep:Nat}{t:SetTable}{h h':Heap}(x:SetIs b a ns es ep t h)(k:∀ o,h.get? a=some o->h'.get? a=some o):SetIs b a ns es ep t h' :=
 ⟨k _ x.obj,x.fit,x.ti,x.perm,x.nums⟩
theorem SetIs.size{b:Bool}{a:Addr}{ns:List Int}{es:Array (Int × Value)}{ep:Nat}{t:SetTable}{h:Heap}(x:SetIs b a ns es ep t h):es.size=ns.length:=by
 have:=x.perm.length_eq
 simpa using this
theorem SetIs.put{b:Bool}{a:Addr}{ns ns':List Int}{es es':Array (Int × Value)}{ep:Nat}{t t':SetTable}{h:Heap}(x:SetIs b a ns es ep t h)(fit:t'.fits es'.size=true)(ti:TI b t')(perm:(es'.toList.map fun e=>numOf e.2).Perm ns')(nums:∀ e∈es'.toList,aLc e) :
  SetIs b a ns' es' (ep+1) t' (h.update a (Obj.putSet es' t')):=by
 refine ⟨?_,fit,ti,perm,nums⟩
 rw [Heap.get?_update_self (Obj.putSet es' t') x.obj rfl]
 rfl
def aEp(ns:List Int)(k:Int):List Int:=if ns.any (· == k) then ns else ns++[k]
theorem aRh(ns:List Int)(k:Int):(aEp ns k).length<=ns.length+1:=by
 unfold aEp
 split
 ·exact Nat.le_succ _
 ·simp
section
variable{prog:Program}{w:World}{A:Around}{E:Value->Shared->Prop}{s:Shared}
theorem aRi{es:List (Int × Value)}(nums:∀ e∈es,aLc e):ElemsOf (intKind prog w) es:=fun e he=>by
 obtain ⟨n,t,rfl⟩:=nums e he
 exact ⟨⟨n,intKind_is prog w n t,rfl⟩,rfl⟩
theorem aRj{es:List (Int × Value)}{ns:List Int}(nums:∀ e∈es,aLc e)(perm:(es.map fun e=>numOf e.2).Perm ns)(k:Int):(es.findIdx? (fun e=>(intKind prog w).is k e.2)).isSome=ns.any (· == k):=by
 rw [List.findIdx?_isSome,Bool.eq_iff_iff,List.any_eq_true,List.any_eq_true]
 constructor
 ·rintro ⟨e,he,hp⟩
  obtain ⟨n,t,rfl⟩:=nums e he
  have en:n=k:=(intKind prog w).inj _ n k (intKind_is prog w n t) hp
  exact ⟨n,perm.mem_iff.mp (List.mem_map.mpr ⟨_,he,rfl⟩),beq_iff_eq.mpr en⟩
 ·rintro ⟨n,hn,hp⟩
  obtain ⟨e,he,hv⟩:=List.mem_map.mp (perm.mem_iff.mpr hn)
  obtain ⟨n',t,rfl⟩:=nums e he
  have e1:n'=n:=hv
  have e2:n=k:=beq_iff_eq.mp hp
  refine ⟨_,he,?_⟩
  rw [<-e2,<-e1]
  exact intKind_is prog w n' t
theorem aEq{Q:Unit->Shared->Prop}(c:Bool)(q:Q () s):wpAny (model prog w) A (match c with | true=>rule "set.scan.the-table-gave-way" | false=>pure ()) Q E s:=by
 cases c with
 | true=>exact wpAny_rule q
 | false=>exact wpAny_pure q
theorem store_ok{a:Addr}{b:Bool}{ns ns':List Int}{es es':Array (Int × Value)}{ep:Nat}{t t':SetTable}{d:Bool}{R:Option Bool->Shared->Prop}{g:Bool->Sem Unit}
  (hg:∀ (c:Bool) (s₁:Shared) (Q:Unit->Shared->Prop),Q () s₁->wpAny (model prog w) A (g c) Q E s₁) (x:SetIs b a ns es ep t s.heap)
  (few:es'.size < scanBound) (fit:t'.fits es'.size=true) (ti:TI b t') (perm:(es'.toList.map fun e=>numOf e.2).Perm ns') (nums:∀ e∈es'.toList,aLc e)
  (r:∀ (h':Heap) (es:Array (Int × Value)) (ep:Nat) (t:SetTable),Heap.SameBut a s.heap h'->SetIs b a ns' es ep t h'->R (some true) { s with heap:=h' }) :
  wpAny (model prog w) A (storeSet a es' t' >>= fun _=>if (!d&&t'.tooFull)=true then g (relayAll t' es' (SetTable.grown es'.size)).2.2 >>= fun _=>storeSet a (relayAll t' es' (SetTable.grown es'.size)).1 (relayAll t' es' (SetTable.grown es'.size)).2.1 >>= fun _=>pure (some true) else pure (some true)) R E s:=by
 have y:=x.put fit ti perm nums
 have o1:=Heap.SameBut.update s.heap a (Obj.putSet es' t')
 refine wpAny_bind (wpAny_storeSet_of x.obj rfl ?_ (fits_of_scanBound few))
 by_cases hc:(!d&&t'.tooFull)=true
 ·rw [if_pos hc]
  have p:=relayAll_perm t' es' (SetTable.grown es'.size)
  have sz:(relayAll t' es' (SetTable.grown es'.size)).1.size=es'.size:=by simpa using p.length_eq
  have z:=y.put (relayAll_fits t' es' (SetTable.grown es'.size)) (ti.relay es' _) ((p.map _).trans perm) fun e he=>nums e (p.mem_iff.mp he)
  exact wpAny_bind (hg _ _ _ (wpAny_bind (wpAny_storeSet_of y.obj rfl (wpAny_pure (r _ _ _ _ (o1.trans (Heap.SameBut.update _ a _)) z)) (fits_of_scanBound (by rw [sz];exact few)))))
 ·rw [if_neg hc]
  exact wpAny_pure (r _ _ _ _ o1 y)
theorem aVs{a:Addr}{b:Bool}{ns:List Int}{es:Array (Int × Value)}{ep:Nat}{t:SetTable}{k:Int}{tk:Tok}{Q:Bool->Shared->Prop}(x:SetIs b a ns es ep t s.heap)(few:ns.length+1 < scanBound)
  (q:∀ (c:Bool) (h':Heap) (es:Array (Int × Value)) (ep:Nat) (t:SetTable),Heap.SameBut a s.heap h'->SetIs b a (aEp ns k) es ep t h'->Q c { s with heap:=h' }) :
  wpAny (model prog w) A (setAddHashed a (.int k tk) (hashInt k)) Q E s:=by
 have el:ElemsOf (intKind prog w) es.toList:=aRi x.nums
 have fz:es.size < scanBound:=by rw [x.size];omega
 have fk:=aRj (prog:=prog) (w:=w) x.nums x.perm k
 have nadd:∀ e∈(layNew t es (hashInt k) (.int k tk)).1.toList,aLc e:=fun e he=>by
  rcases List.mem_append.mp ((aGa t es _ _).mem_iff.mp he) with he | he
  ·exact x.nums e he
  ·exact ⟨k,tk,List.mem_singleton.mp he⟩
 have padd:((layNew t es (hashInt k) (.int k tk)).1.toList.map fun e=>numOf e.2).Perm (ns++[k]):=by
  have:=(aGa t es (hashInt k) (.int k tk)).map fun e=>numOf e.2
  rw [List.map_append] at this
  exact this.trans (x.perm.append_right _)
 have sadd:(layNew t es (hashInt k) (.int k tk)).1.size < scanBound:=by
  have:=padd.length_eq
  simp at this
  omega
 unfold setAddHashed setAddHashedIn
 refine wpAny_holding (wpAny_bind (wpAny_setState_of x.obj rfl x.fit ?_))
 dsimp only
 rw [if_pos (byScan_of rfl fz el)]
 unfold setAddByScan
 refine wpAny_bind (wpAny_bind (wpAny_rule (wpAny_bind (wpAny_setScan_of (knd:=intKind prog w) (intKind_is prog w k tk) x.obj rfl x.fit el ?_))))
 cases hr:es.toList.findIdx? (fun e=>(intKind prog w).is k e.2) with
 | some j =>
  rw [hr] at fk
  have:aEp ns k=ns:=if_pos fk.symm
  rw [this] at q
  exact wpAny_pure (wpAny_pure (q false s.heap es ep t (Heap.SameBut.refl a s.heap) x))
 | none =>
  rw [hr] at fk
  have:aEp ns k=ns++[k]:=by unfold aEp;rw [<-fk];rfl
  rw [this] at q
  have tl:=x.ti.lay es (hashInt k) (.int k tk)
  have fl:=layNew_fits t es (hashInt k) (.int k tk)
  generalize layNew t es (hashInt k) (.int k tk)=L at padd nadd sadd tl fl ⊢
  obtain ⟨es1,t1,d,gv⟩:=L
  dsimp only at padd nadd sadd tl fl ⊢
  refine wpAny_bind (aEq _ ?_)
  by_cases hp:t1.plain=true
  ·rw [if_pos hp]
   refine wpAny_bind ?_
   rw [hashByValue_scannable 8 rfl]
   exact wpAny_pure (store_ok (fun c s₁ Q' h'=>aEq c h') x sadd fl tl padd nadd fun h' es ep t sb y=>wpAny_pure (q true h' es ep t sb y))
  ·rw [if_neg hp]
   exact wpAny_bind (wpAny_pure (store_ok (fun c s₁ Q' h'=>aEq c h') x sadd fl tl padd nadd fun h' es ep t sb y=>wpAny_pure (q true h' es ep t sb y)))
end
end Pu
namespace Pu
open PySem PyProof.Rows
section
variable{prog:Program}{w:World}{A:Around}{E:Value->Shared->Prop}{s:Shared}
def aEr(val:Nat->Int):Nat->List Int
 | 0=>[]
 | i+1=>aEp (aEr val i) (val i)
theorem aJs(val:Nat->Int):∀ i,(aEr val i).length<=i
 | 0=>Nat.le_refl _
 | i+1=>Nat.le_trans (aRh _ _) (Nat.succ_le_succ (aJs val i))
def fG(b:Bool)(a:Addr)(ns:List Int)(h:Heap):Prop:=∃ es ep t,SetIs b a ns es ep t h
theorem fG.keep{b:Bool}{a:Addr}{ns:List Int}{h h':Heap}(x:fG b a ns h)(k:∀ o,h.get? a=some o->h'.get? a=some o):fG b a ns h' :=
 let ⟨es,ep,t,y⟩:=x
 ⟨es,ep,t,y.keep k⟩
theorem aVt{b:Bool}{a:Addr}{ns:List Int}{k:Int}{t:Tok}{Q:Bool->Shared->Prop}(x:fG b a ns s.heap)(few:ns.length+1 < scanBound)
  (q:∀ (c:Bool) (h':Heap),Heap.SameBut a s.heap h'->fG b a (aEp ns k) h'->Q c { s with heap:=h',toks:=s.toks+1 }) :
  wpAny (model prog w) A (setAdd a (.int k t)) Q E s:=by
 obtain ⟨es,ep,tb,y⟩:=x
 unfold setAdd
 refine wpAny_holding (wpAny_bind ((intKind prog w).pyHash (k:=k) (intKind_is prog w k t) ?_))
 exact aVs (s:={ s with toks:=s.toks+1 }) y few fun c h' es' ep' t' sb z=>q c h' sb ⟨es',ep',t',z⟩
variable{I:Addr}{fp wr:List Addr}{G:Array GenState->Array GenState->Prop}{n:Nat}{P:Nat->Value->Prop}{St:Nat->Shared->Prop}
theorem aRk(W:WalksS prog w A.in1 I fp wr G n P St){R:Result->Shared->Prop}(a:Addr)(b:Bool)(out:a ∉ fp)(val:Nat->Int)(isN:∀ i v,P i v->∃ t,v = .int (val i) t)(few:n+1 < scanBound) :
  ∀ (m i:Nat) (s:Shared),i+m=n->St i s->fG b a (aEr val i) s.heap ->
   (∀ s',Moved (a :: wr) G s s'->fG b a (aEr val n) s'.heap->R (.ok (.ret .none)) s') ->
   codeAny (model prog w) A (.builtin "set.update.loop" ⟨[.ref a,.ref I],[]⟩) R s:=by
 have nw:a ∉ wr:=fun h=>out (W.sub _ h)
 have up:∀ c∈wr,c∈a :: wr:=fun c hc=>List.mem_cons_of_mem _ hc
 intro m
 induction m with
 | zero =>
  intro i s e st x r
  rw [Nat.add_zero] at e
  subst e
  refine codeAny_builtin F.entry_set_update_loop ?_
  rw [Around.under_plainId F.plain_set_update_loop _]
  show wpAny _ A.in1 (pyNext (.ref I) >>= _) _ _ s
  exact wpAny_bind (W.done s _ _ st fun s' mv=>wpAny_pure (r s' (mv.mono up) (x.keep fun o ho=>mv.heap a o nw ho)))
 | succ m ih =>
  intro i s e st x r
  refine codeAny_builtin F.entry_set_update_loop ?_
  rw [Around.under_plainId F.plain_set_update_loop _]
  show wpAny _ A.in1 (pyNext (.ref I) >>= _) _ _ s
  refine wpAny_bind (W.item i s _ _ (by omega) st fun v s' pv st' mv=>?_)
  obtain ⟨t,rfl⟩:=isN i v pv
  have fw:(aEr val i).length+1 < scanBound:=by have:=aJs val i;omega
  refine wpAny_bind (wpAny_holding (aVt (x.keep fun o ho=>mv.heap a o nw ho) fw fun c h' sb y=>wpAny_pure ⟨plainId_quiet F.plain_set_update_loop _,?_⟩))
  have other:∀ c,c≠a->h'.get? c=s'.heap.get? c:=fun c hc=>sb.2 c hc
  refine ih (i+1) _ (by omega) (W.frame _ s' _ _ st' (Nat.le_succ _) fun c hc o ho=>?_) y fun s2 mv2 z=>?_
  ·rw [other c fun h=>out (h ▸ hc)]
   exact ho
  ·refine r s2 (Moved.trans W.gtrans ((mv.mono up).then_heap (Nat.le_succ _) fun c o hc ho=>?_) mv2) z
   rw [other c fun h=>hc (h ▸ List.mem_cons_self)]
   exact ho
end
section
variable{prog:Program}{w:World}{A:Around}{E:Value->Shared->Prop}{s:Shared}
def pP(w:World):Bool:=w.params.followText "set-order"
def nM(w:World):Obj:={ cls := .type "set", dict:=none,data := .set #[] 0 (.fresh 0 0 (!pP w)),slots := #[] }
theorem aRl(a:Value){Q:Value->Shared->Prop}(q:Q (.ref s.heap.objs.size) { s with heap:=s.heap.push (nM w) }) :
  codeAny (model prog w) A (.call (.builtin "set.__new__") ⟨[.type "set", a],[]⟩) (wants Q E) s:=by
 refine codeAny_of_tree (?_:wpAny _ A.in1 (checkBuiltinCall "set.__new__" ⟨[.type "set", a],[]⟩ >>= fun _=>again (.builtin "set.__new__" ⟨[.type "set", a],[]⟩)) _ _ s)
 refine wpAny_bind (wpAny_of_eq (F.newCall_set_1 a) (wpAny_pure ⟨plainId_quiet F.plain_set_new _,codeAny_builtin F.entry_set_new ?_⟩))
 rw [Around.under_plainId F.plain_set_new _]
 unfold Builtin.«set.__new__» Builtin.Frozenset.newClass
 have sub:=sub_set_self
 obtain ⟨hp,g,d,tk,os⟩:=s
 dsimp only
 wp_walk
 refine wpAny_askSetting (wpAny_pure ?_)
 dsimp only
 simp only [newObj]
 exact wpAny_bind (wpAny_alloc (wpAny_pure (wpAny_pure q)))
theorem aLd(w:World){h:Heap}{a:Addr}(o:h.get? a=some (nM w)):fG (!pP w) a [] h :=
 ⟨#[],0,_,o,rfl,TI.fresh _,List.Perm.nil,fun e he=>nomatch he⟩
theorem aRm{l:Addr}{items:Array Value}{ns:List Int}{R:Result->Shared->Prop}(hh:A.handled=none)(o:s.heap.get? a=some (nM w))(ne:l≠a)(hl:s.heap.IsList l items)(isN:IntsAre items.toList ns)(few:items.size+1 < scanBound)
  (r:∀ (h':Heap) (tk:Nat),fG (!pP w) a (aEr (fun i=>ns.getD i 0) items.size) h'->(∀ b o,b≠a->s.heap.get? b=some o->h'.get? b=some o)->R (.ok (.ret .none)) { s with heap:=h',toks:=tk }) :
  wpAny (model prog w) A.in1 (Builtin.«set.__init__» ⟨[.ref a,.ref l],[]⟩) (fun fin s'=>match fin with | .done f=>R (.ok f) s' | .again c'=>c'.quiet=true/\codeAny (model prog w) A c' R s') (fun e s'=>R (.error e) s') s:=by
 have hT:s.TypeIs (.ref a) "set" := ⟨_,o,rfl⟩
 obtain ⟨ol,hol,hcl,nl,hdl⟩:=id hl
 obtain ⟨cl,di,da,sl⟩:=ol
 dsimp only at hcl hdl
 subst hcl
 subst hdl
 have o':s.heap.get? a=some { cls := .type "set", dict:=none,data := .set #[] 0 (.fresh 0 0 (!pP w)),slots := #[] }:=o
 have h1:=F.sub_list_set
 have h2:=F.sub_list_frozenset
 have h3:(Value.type "list" == Value.type "dict")=false:=by decide
 unfold Builtin.«set.__init__» noKeywords Builtin.Frozenset.updateFrom
 generalize hp:pyIter=it
 wp_walk
 subst hp
 refine wpAny_pyIter_list hl (wpAny_bind (wpAny_runValue ?_))
 have ia:a≠s.heap.objs.size:=Nat.ne_of_lt (Heap.lt_size o)
 have il:l≠s.heap.objs.size:=Nat.ne_of_lt (Heap.lt_size hol)
 have out:a ∉ [s.heap.objs.size,l]:=by
  intro h
  rcases List.mem_cons.mp h with h | h
  ·exact ia h
  ·exact ne (List.mem_singleton.mp h).symm
 refine aRk ((Walks.list (by simp [hh]) _ l il items).toS) a (!pP w) out (fun i=>ns.getD i 0) (fun i v hv=>IntsAre.int_at isN i v (by rw [Array.getElem?_toList];exact hv)) few items.size 0 _ (Nat.zero_add _)
  ⟨⟨_,Heap.get?_push_size _ rfl,rfl,rfl⟩,hl.push _⟩ (aLd w (Heap.get?_push_of_some _ o)) fun s' mv x=>?_
 rw [Moved.eq_with mv]
 refine wpAny_pure (wpAny_pure (r s'.heap s'.toks x fun b o hb ho=>mv.heap b o (fun hm=>?_) (Heap.get?_push_of_some _ ho)))
 rcases List.mem_cons.mp hm with h | h
 ·exact hb h
 ·exact absurd (List.mem_singleton.mp h) (Nat.ne_of_lt (Heap.lt_size ho))
theorem aRn{l:Addr}{items:Array Value}{ns:List Int}{Q:Value->Shared->Prop}(hh:A.handled=none)(hl:s.heap.IsList l items)(isN:IntsAre items.toList ns)(few:items.size+1 < scanBound)
  (q:∀ (h':Heap) (tk:Nat),fG (!pP w) s.heap.objs.size (aEr (fun i=>ns.getD i 0) items.size) h'->(∀ b o,s.heap.get? b=some o->h'.get? b=some o)->Q (.ref s.heap.objs.size) { s with heap:=h',toks:=tk }) :
  wpAny (model prog w) A (call (.type "set") [.ref l]) Q E s:=by
 obtain ⟨c,tl,hmro⟩:=F.called_set.mro
 have g1:=F.called_set.made
 have g2:=F.called_set.sub
 have g3:=F.called_set.notType
 have g4:=F.called_set.canCreate
 have g5:=F.typeCall_set_1 (.ref l)
 refine wpAny_call (codeAny_of_tree (?_:wpAny _ _ (callAny (.type "set") _) _ _ _))
 refine wpAny_pure ⟨Code.quiet_builtin _ (by decide +kernel),codeAny_builtin F.entry_type_call ?_⟩
 rw [Around.under_plain (weight_type_call_type "set" [.ref l] []) rfl]
 repeat (any_goals (first | assumption | wp_step))
 refine codeAny_mono (aRl (.ref l) (E:=E) (Q:=fun v s₁=>v = .ref s.heap.objs.size/\s₁={ s with heap:=s.heap.push (nM w) }) ⟨rfl,rfl⟩) fun res s₁ hres=>?_
 match res,hres with
 | .error e,he=>exact he
 | .ok (.ret v),⟨hv,hs⟩ =>
  subst hv
  subst hs
  have ob:(s.heap.push (nM w)).get? s.heap.objs.size=some (nM w):=Heap.get?_push_size _ rfl
  have hT:Shared.TypeIs { s with heap:=s.heap.push (nM w) } (.ref s.heap.objs.size) "set" := ⟨_,ob,rfl⟩
  have g6:=F.called_set.init.lookup
  have g7:=F.called_set.init.bind (.ref s.heap.objs.size)
  repeat (any_goals (first | assumption | wp_step))
  have ne:l≠s.heap.objs.size:=let ⟨_,h,_⟩:=hl;Nat.ne_of_lt (Heap.lt_size h)
  refine codeAny_mono (codeAny_call_builtin (R:=wants (fun r s₂=>r = .none/\Q (.ref s.heap.objs.size) s₂) E) F.called_set.init.plain F.entry_set_init (check_set_init_1 hT
   (aRm (by simp [hh]) ob ne (hl.push _) isN few fun h' tk x k=>⟨rfl,q h' tk x fun b o ho=>k b o (Nat.ne_of_lt (Heap.lt_size ho)) (Heap.get?_push_of_some _ ho)⟩))) fun r₂ s₂ hr₂=>?_
  match r₂,hr₂ with
  | .error e,he=>exact he
  | .ok (.ret _),⟨h0,hq⟩ =>
   subst h0
   repeat (any_goals (first | assumption | wp_step))
end
end Pu
namespace Pu
open PySem PyProof.Rows
theorem vO{α:Type}:∀ (xs:List α) (i:Nat) (x:α),xs[i]?=some x->(x :: xs.eraseIdx i).Perm xs
 | [],_,_,h=>nomatch h
 | y :: xs,0,x,h=>by cases h;exact List.Perm.refl _
 | y :: xs,i+1,x,h=>by
  have:=vO xs i x (by simpa using h)
  exact (List.Perm.swap y x _).trans (this.cons y)
theorem aDe{α:Type}(next:Nat->Nat):∀ (n k:Nat) (left:List α) (out:Array α),left.length=n->(pickOrder.go next n k left out).toList.Perm (out.toList++left)
 | 0,k,left,out,h=>by
  cases left with
  | nil=>rw [List.append_nil];exact List.Perm.refl _
  | cons _ _=>cases h
 | n+1,k,left,out,h=>by
  unfold pickOrder.go
  have hl:next k % left.length < left.length:=Nat.mod_lt _ (by omega)
  have e:left[next k % left.length]?=some left[next k % left.length]:=List.getElem?_eq_getElem hl
  rw [e]
  dsimp only
  refine (aDe next n (k+1) _ _ (by rw [List.length_eraseIdx_of_lt hl];omega)).trans ?_
  rw [Array.toList_push,List.append_assoc]
  exact (vO left _ _ e).append_left _
theorem aC3{α:Type}(next:Nat->Nat)(xs:Array α):(pickOrder next xs).toList.Perm xs.toList:=aDe next xs.size 0 xs.toList #[] (Array.length_toList)
section
variable{prog:Program}{w:World}{A:Around}{E:Value->Shared->Prop}
theorem aLe{s:Shared}{src:Source}{n:Nat}{Q:Nat->Shared->Prop}(hn:n≠0)(q:∀ i d,i < n->Q i { s with drawn:=d }):wpAny (model prog w) A (choose src n) Q E s :=
 fun _ _ _=>⟨hn,q _ _ (Nat.mod_lt _ (Nat.pos_of_ne_zero hn))⟩
theorem aRo{α:Type}(n:Nat):∀ (xs:List α) (s:Shared) (Q:List α->Shared->Prop),xs.length=n->(∀ ys d,ys.Perm xs->Q ys { s with drawn:=d })->wpAny (model prog w) A (drawOrder n xs) Q E s:=by
 induction n with
 | zero =>
  intro xs s Q h q
  have e:xs=[]:=List.length_eq_zero_iff.mp h
  subst e
  exact wpAny_pure (q [] s.drawn (List.Perm.refl _))
 | succ n ih =>
  intro xs s Q h q
  have ne:xs≠[]:=fun e=>by rw [e] at h;cases h
  obtain ⟨x,l,rfl⟩:=List.exists_cons_of_ne_nil ne
  refine (?_:wpAny (model prog w) A (choose .order (x :: l).length >>= fun i=>match (x :: l)[i]? with | some y=>drawOrder n ((x :: l).eraseIdx i) >>= fun r=>pure (y :: r) | none=>unsupported "internal:drawOrder") Q E s)
  refine wpAny_bind (aLe (by simp) fun i d hi=>?_)
  have e:(x :: l)[i]?=some (x :: l)[i]:=List.getElem?_eq_getElem hi
  rw [e]
  refine wpAny_bind (ih _ _ _ (by rw [List.length_eraseIdx_of_lt hi];omega) fun ys d' hy=>wpAny_pure (q _ d' ?_))
  exact (hy.cons _).trans (vO _ _ _ e)
end
theorem lK:Slot "set_iterator" "__next__" "set_iterator.__next__" :=
 .of (owner := "set_iterator") (n := "__next__") (by rw [typeLookup_type,builtinLookup_eq_fast];kernel_rfl) (by decide +kernel) (by decide +kernel) (by decide +kernel) (.inl (by decide +kernel)) (by rw [isSubtype_type];kernel_rfl)
theorem xH:entryFor table "set_iterator.__next__" = some Builtin.«set_iterator.__next__» := entryFor_of_tree (by kernel_rfl)
theorem aGb:Manifest.owners.lookup (String.ofList ['r', 'o', 't', 'a', 'r', 'e', 't', 'i', '_', 't', 'e', 's'].reverse)=some Manifest.sig_set_iterator:=by kernel_rfl
theorem aAk(a:Value):argsOk "set_iterator.__next__" ⟨[a],[]⟩:=by
 unfold argsOk
 rw [signature?_of (id := "set_iterator.__next__") (n:=['_', '_', 't', 'x', 'e', 'n', '_', '_']) (o:=['r', 'o', 't', 'a', 'r', 'e', 't', 'i', '_', 't', 'e', 's']) (by kernel_rfl) aGb]
 kernel_rfl
theorem aGc:Slot "set_iterator" "__iter__" "set_iterator.__iter__" :=
 .of (owner := "set_iterator") (n := "__iter__") (by rw [typeLookup_type,builtinLookup_eq_fast];kernel_rfl) (by decide +kernel) (by decide +kernel) (by decide +kernel) (.inl (by decide +kernel)) (by rw [isSubtype_type];kernel_rfl)
theorem aLf:entryFor table "set_iterator.__iter__" = some Builtin.«dict_keyiterator.__iter__» := entryFor_alias (id' := "dict_keyiterator.__iter__") (by kernel_rfl) rfl (by decide +kernel) (by kernel_rfl)
theorem aOq(a:Value):argsOk "set_iterator.__iter__" ⟨[a],[]⟩:=by
 unfold argsOk
 rw [signature?_of (id := "set_iterator.__iter__") (n:=['_', '_', 'r', 'e', 't', 'i', '_', '_']) (o:=['r', 'o', 't', 'a', 'r', 'e', 't', 'i', '_', 't', 'e', 's']) (by kernel_rfl) aGb]
 kernel_rfl
theorem aI0:entryFor table "set.__iter__" = some Builtin.«frozenset.__iter__» := entryFor_alias (id' := "frozenset.__iter__") (by kernel_rfl) rfl (by decide +kernel) (by kernel_rfl)
theorem aRp:typeLookup (.type "set") "__len__" = pure (some (.builtin "set.__len__")):=by rw [typeLookup_type,builtinLookup_eq_fast];kernel_rfl
end Pu
namespace Pu
open PySem PyProof.Rows
def aC4(first:Value)(i:Nat)(a:Addr)(n ep:Nat):Obj:={ cls := .type "set_iterator", dict:=none,data := .fields #[first,.int i 0,.ref a,.int n 0,.int ep 0],slots := #[] }
section
variable{prog:Program}{w:World}{A:Around}{E:Value->Shared->Prop}{s:Shared}
theorem aRq{I a:Addr}{b:Bool}{ns:List Int}{es:Array (Int × Value)}{ep:Nat}{t:SetTable}{c c' i:Nat}{v:Value}{Q:Option Value->Shared->Prop}
  (hI:s.heap.get? I=some (aC4 (.int c 0) i a es.size ep)) (x:SetIs b a ns es ep t s.heap)
  (nx:∀ (A:Around) (E:Value->Shared->Prop) (Q:Option (Value × Nat)->Shared->Prop),Q (some (v,c')) s->wpAny (model prog w) A (setNext a c i ep) Q E s)
  (q:∀ h',h'.get? I=some (aC4 (.int c' 0) (i+1) a es.size ep)->Heap.SameBut I s.heap h'->Q (some v) { s with heap:=h' }) :
  wpAny (model prog w) A (pyNext (.ref I)) Q E s:=by
 have hT:s.TypeIs (.ref I) "set_iterator" := ⟨_,hI,rfl⟩
 unfold pyNext
 refine wpAny_bind (wpAny_attempt (wpAny_callSpecial?_slot (name:=Str.ofString "__next__") hT lK (wpAny_call_entry lK hT xH ?_ (aAk _))))
 unfold Builtin.«set_iterator.__next__»
 refine wpAny_bind (wpAny_pure ?_)
 refine wpAny_bind (wpAny_fieldsOf hI rfl ?_)
 dsimp only
 refine wpAny_bind (wpAny_setEntries_of x.obj rfl x.fit ?_)
 rw [if_neg (by simp)]
 refine wpAny_bind (nx _ _ _ ?_)
 dsimp only
 refine wpAny_bind (wpAny_setField hI rfl (by simp) ?_)
 have h1:(s.heap.update I (Obj.mapFields (·.setIfInBounds 0 (rawInt c')))).get? I=some (aC4 (.int c' 0) i a es.size ep):=by
  rw [Heap.get?_update_self _ hI (Obj.isFreed_of_fields (Obj.data_mapFields rfl _))]
  rfl
 refine wpAny_bind (wpAny_setField h1 rfl (by simp) ?_)
 refine wpAny_pure ⟨v,rfl,wpAny_pure (q _ ?_ ((Heap.SameBut.update ..).trans (Heap.SameBut.update ..)))⟩
 rw [Heap.get?_update_self _ h1 (Obj.isFreed_of_fields (Obj.data_mapFields rfl _))]
 rfl
theorem aJt{R:Value->Shared->Prop}{Q:Fin->Shared->Prop}(hh:A.handled=none)(r:∀ (h':Heap) (e:Addr),(∀ b o,s.heap.get? b=some o->h'.get? b=some o)->(∃ o,h'.get? e=some o/\o.cls = .type "StopIteration")->R (.ref e) { s with heap:=h' }) :
  wpAny (model prog w) A (newExc (.type "StopIteration") [] >>= fun e=>raiseNew e) Q R s:=by
 refine wpAny_bind ?_
 simp only [newExc,newTuple]
 refine wpAny_bind (wpAny_newObj_type ?_ (by size_fits))
 refine wpAny_bind (m:=firstArgMember _ _) (wpAny_of_eq (a:=Value.none) (by first | rfl | (simp only [firstArgMember];rfl)) (wpAny_newObj_type ?_ (by size_fits)))
 simp only [raiseNew]
 refine wpAny_bind (wpAny_handled ?_)
 rw [hh]
 exact wpAny_bind (wpAny_pure (wpAny_throw (r _ _ (fun b o ho=>Heap.get?_push_of_some _ (Heap.get?_push_of_some _ ho)) ⟨_,Heap.get?_push_size _ rfl,rfl⟩)))
theorem aVu{I a:Addr}{b:Bool}{ns:List Int}{es:Array (Int × Value)}{ep:Nat}{t:SetTable}{c i:Nat}{Q:Option Value->Shared->Prop}(hh:A.handled=none)
  (hI:s.heap.get? I=some (aC4 (.int c 0) i a es.size ep)) (x:SetIs b a ns es ep t s.heap)
  (nx:∀ (A:Around) (E:Value->Shared->Prop) (Q:Option (Value × Nat)->Shared->Prop),Q none s->wpAny (model prog w) A (setNext a c i ep) Q E s)
  (q:∀ h',(∀ b o,b≠I->s.heap.get? b=some o->h'.get? b=some o)->Q none { s with heap:=h' }) :
  wpAny (model prog w) A (pyNext (.ref I)) Q E s:=by
 have hT:s.TypeIs (.ref I) "set_iterator" := ⟨_,hI,rfl⟩
 unfold pyNext
 refine wpAny_bind (wpAny_attempt (wpAny_callSpecial?_slot (name:=Str.ofString "__next__") hT lK (wpAny_call_entry lK hT xH ?_ (aAk _))))
 unfold Builtin.«set_iterator.__next__»
 refine wpAny_bind (wpAny_pure ?_)
 refine wpAny_bind (wpAny_fieldsOf hI rfl ?_)
 dsimp only
 refine wpAny_bind (wpAny_setEntries_of x.obj rfl x.fit ?_)
 rw [if_neg (by simp)]
 refine wpAny_bind (nx _ _ _ ?_)
 dsimp only
 refine wpAny_bind (wpAny_setField hI rfl (by simp) ?_)
 refine aJt hh fun h' e k o=>?_
 obtain ⟨o,ho,hc⟩:=o
 refine wpAny_bind (wpAny_isInstance (T := "StopIteration") (b:=true) ⟨o,ho,hc⟩ isSubtype_stop (wpAny_pure (q _ fun b o' hb ho'=>k b o' ?_)))
 rw [Heap.get?_update_other _ _ (Ne.symm hb)]
 exact ho'
theorem aLg{a:Addr}{b:Bool}{ns:List Int}{es:Array (Int × Value)}{ep:Nat}{t:SetTable}(x:SetIs b a ns es ep t s.heap)(hb:pP w=true)(c i:Nat){Q:Option (Value × Nat)->Shared->Prop}
  (q:Q (((pickOrder (w.params.setOrder a ep) es)[i]?).map fun e=>(e.2,c)) s):wpAny (model prog w) A (setNext a c i ep) Q E s:=by
 have hb':w.params.followText "set-order" = true:=hb
 unfold setNext
 refine wpAny_bind (wpAny_setState_of x.obj rfl x.fit ?_)
 dsimp only
 unfold setsByText
 refine wpAny_bind (wpAny_bind (wpAny_askSetting (wpAny_pure ?_)))
 refine wpAny_ite_split (fun _=>?_) fun h=>absurd hb' h
 rw [if_neg (by simp)]
 refine wpAny_bind ?_
 unfold setWalk
 refine wpAny_bind (wpAny_setState_of x.obj rfl x.fit ?_)
 dsimp only
 unfold setsByText
 refine wpAny_bind (wpAny_bind (wpAny_askSetting (wpAny_pure ?_)))
 refine wpAny_ite_split (fun _=>?_) fun h=>absurd hb' h
 exact wpAny_bind (wpAny_askSetting (wpAny_pure (wpAny_pure q)))
def qX(t:SetTable):Nat->Nat
 | 0=>0
 | i+1=>t.place.getD i 0+1
theorem below_at{b:Bool}{t:SetTable}(ti:TI b t)(i:Nat)(hi:i<=t.place.size):SetTable.below t.place (qX t i)=i:=by
 obtain ⟨h1,h2,h3⟩:=aC2 t.place (qX t i) ti.rise
 generalize hm:SetTable.below t.place (qX t i)=m at h1 h2 h3
 rcases Nat.lt_trichotomy m i with h | h | h
 ·exfalso
  have lt:i - 1 < t.place.size:=by omega
  have e:t.place[i - 1]?=some t.place[i - 1]:=Array.getElem?_eq_getElem lt
  have:=h2 (i - 1) _ (by omega) e
  have se:qX t i=t.place[i - 1]+1:=by
   cases i with
   | zero=>omega
   | succ k =>
    show t.place.getD k 0+1=_
    rw [Array.getD_eq_getD_getElem?,Array.getElem?_eq_getElem (by omega)]
    rfl
  omega
 ·exact h
 ·exfalso
  have lt:i < t.place.size:=by omega
  have e:t.place[i]?=some t.place[i]:=Array.getElem?_eq_getElem lt
  have g:=h1 i _ h e
  cases i with
  | zero=>exact absurd g (Nat.not_lt_zero _)
  | succ k =>
   have gk:t.place[k]?=some t.place[k]:=Array.getElem?_eq_getElem (by omega)
   have se:qX t (k+1)=t.place[k]+1:=by
    show t.place.getD k 0+1=_
    rw [Array.getD_eq_getD_getElem?,gk]
    rfl
   have r:=List.pairwise_iff_getElem.mp ti.rise k (k+1) (by simp;omega) (by simp;omega) (by omega)
   simp at r
   omega
theorem aOr{a:Addr}{ns:List Int}{es:Array (Int × Value)}{ep:Nat}{t:SetTable}(x:SetIs true a ns es ep t s.heap)(hb:pP w=false)(hd:(!t.plain&&decide (es.size > 1))=false)(i:Nat)(hi:i<=es.size){Q:Option (Value × Nat)->Shared->Prop}
  (q:Q ((es[i]?).map fun e=>(e.2,qX t (i+1))) s):wpAny (model prog w) A (setNext a (qX t i) i ep) Q E s:=by
 have hb':w.params.followText "set-order" = false:=hb
 have sz:t.place.size=es.size:=by
  have:=x.fit
  simp only [SetTable.fits,Bool.and_eq_true,beq_iff_eq] at this
  exact this.1
 unfold setNext
 refine wpAny_bind (wpAny_setState_of x.obj rfl x.fit ?_)
 dsimp only
 unfold setsByText
 refine wpAny_bind (wpAny_bind (wpAny_askSetting (wpAny_pure ?_)))
 refine wpAny_ite_split (fun h=>absurd (hb'.symm.trans h) Bool.false_ne_true) fun _=>?_
 refine wpAny_ite_split (fun h=>absurd (hd.symm.trans h) Bool.false_ne_true) fun _=>?_
 refine wpAny_bind (m:=(if (!t.led && !es.isEmpty)=true then unsupported "set:maker-not-led" else pure ())) ?_
 rw [if_neg (by rw [x.ti.led];exact Bool.false_ne_true)]
 refine wpAny_pure ?_
 rw [below_at x.ti i (by rw [sz];exact hi)]
 by_cases hlt:i < es.size
 ·rw [Array.getElem?_eq_getElem hlt] at q
  rw [Array.getElem?_eq_getElem hlt,Array.getElem?_eq_getElem (by rw [sz];exact hlt)]
  refine wpAny_pure ?_
  have:qX t (i+1)=t.place[i]+1:=by
   show t.place.getD i 0+1=_
   rw [Array.getD_eq_getD_getElem?,Array.getElem?_eq_getElem (by rw [sz];exact hlt)]
   rfl
  rw [this] at q
  exact q
 ·have hn:es[i]?=none:=Array.getElem?_eq_none (by omega)
  rw [hn] at q ⊢
  exact wpAny_pure q
theorem aRr{I a T:Addr}{b:Bool}{ns:List Int}{es:Array (Int × Value)}{ep:Nat}{t:SetTable}{i:Nat}{ys:List Nat}{e:Int × Value}{y:Nat}{Q:Option Value->Shared->Prop}
  (hI:s.heap.get? I=some (aC4 (.ref T) i a es.size ep)) (x:SetIs b a ns es ep t s.heap) (hy:s.heap.get? T=some { cls := .type "tuple", data := .seq (ys.map fun (n:Nat)=>rawInt n).toArray })
  (hi:ys[i]?=some y) (he:es[y]?=some e)
  (q:∀ h',h'.get? I=some (aC4 (.ref T) (i+1) a es.size ep)->Heap.SameBut I s.heap h'->Q (some e.2) { s with heap:=h' }) :
  wpAny (model prog w) A (pyNext (.ref I)) Q E s:=by
 have hT:s.TypeIs (.ref I) "set_iterator" := ⟨_,hI,rfl⟩
 unfold pyNext
 refine wpAny_bind (wpAny_attempt (wpAny_callSpecial?_slot (name:=Str.ofString "__next__") hT lK (wpAny_call_entry lK hT xH ?_ (aAk _))))
 unfold Builtin.«set_iterator.__next__»
 refine wpAny_bind (wpAny_pure ?_)
 refine wpAny_bind (wpAny_fieldsOf hI rfl ?_)
 dsimp only
 refine wpAny_bind (wpAny_setEntries_of x.obj rfl x.fit ?_)
 rw [if_neg (by simp)]
 refine wpAny_bind (wpAny_seqItems hy rfl ?_)
 dsimp only
 have ei:((ys.map fun (n:Nat)=>rawInt n).toArray)[(i:Int).toNat]?=some (.int y 0):=by
  rw [Int.toNat_natCast,List.getElem?_toArray,List.getElem?_map,hi]
  rfl
 rw [ei]
 dsimp only
 unfold setNextDrawn
 refine wpAny_bind (wpAny_bind (wpAny_setState_of x.obj rfl x.fit ?_))
 dsimp only
 rw [if_neg (by simp),Int.toNat_natCast,he]
 refine wpAny_pure ?_
 refine wpAny_bind (wpAny_setField hI rfl (by simp) ?_)
 refine wpAny_pure ⟨e.2,rfl,wpAny_pure (q _ ?_ (Heap.SameBut.update ..))⟩
 rw [Heap.get?_update_self _ hI (Obj.isFreed_of_fields (Obj.data_mapFields rfl _))]
 rfl
theorem aVv{I a T:Addr}{b:Bool}{ns:List Int}{es:Array (Int × Value)}{ep:Nat}{t:SetTable}{i:Nat}{ys:List Nat}{Q:Option Value->Shared->Prop}(hh:A.handled=none)
  (hI:s.heap.get? I=some (aC4 (.ref T) i a es.size ep)) (x:SetIs b a ns es ep t s.heap) (hy:s.heap.get? T=some { cls := .type "tuple", data := .seq (ys.map fun (n:Nat)=>rawInt n).toArray })
  (hi:ys[i]?=none)
  (q:∀ h',(∀ b o,b≠I->s.heap.get? b=some o->h'.get? b=some o)->Q none { s with heap:=h' }) :
  wpAny (model prog w) A (pyNext (.ref I)) Q E s:=by
 have hT:s.TypeIs (.ref I) "set_iterator" := ⟨_,hI,rfl⟩
 unfold pyNext
 refine wpAny_bind (wpAny_attempt (wpAny_callSpecial?_slot (name:=Str.ofString "__next__") hT lK (wpAny_call_entry lK hT xH ?_ (aAk _))))
 unfold Builtin.«set_iterator.__next__»
 refine wpAny_bind (wpAny_pure ?_)
 refine wpAny_bind (wpAny_fieldsOf hI rfl ?_)
 dsimp only
 refine wpAny_bind (wpAny_setEntries_of x.obj rfl x.fit ?_)
 rw [if_neg (by simp)]
 refine wpAny_bind (wpAny_seqItems hy rfl ?_)
 dsimp only
 have ei:((ys.map fun (n:Nat)=>rawInt n).toArray)[(i:Int).toNat]?=none:=by
  rw [Int.toNat_natCast,List.getElem?_toArray,List.getElem?_map,hi]
  rfl
 rw [ei]
 dsimp only
 refine wpAny_bind (wpAny_setField hI rfl (by simp) ?_)
 have h1:(s.heap.update I (Obj.mapFields (·.setIfInBounds 0 (rawInt 0)))).get? I=some (aC4 (.int 0 0) i a es.size ep):=by
  rw [Heap.get?_update_self _ hI (Obj.isFreed_of_fields (Obj.data_mapFields rfl _))]
  rfl
 refine wpAny_bind (wpAny_setField h1 rfl (by simp) ?_)
 refine aJt hh fun h' e k o=>?_
 obtain ⟨o,ho,hc⟩:=o
 refine wpAny_bind (wpAny_isInstance (T := "StopIteration") (b:=true) ⟨o,ho,hc⟩ isSubtype_stop (wpAny_pure (q _ fun b o' hb ho'=>k b o' ?_)))
 rw [Heap.get?_update_other _ _ (Ne.symm hb),Heap.get?_update_other _ _ (Ne.symm hb)]
 exact ho'
end
end Pu
namespace Pu
open PySem PyProof.Rows
section
variable{prog:Program}{w:World}{A:Around}{E:Value->Shared->Prop}{s:Shared}
theorem aJu{I:Addr}{o:Obj}{Q:Value->Shared->Prop}(hI:s.heap.get? I=some o)(hc:o.cls = .type "set_iterator")(q:Q (.ref I) s):wpAny (model prog w) A (pyIter (.ref I)) Q E s:=by
 have hT:s.TypeIs (.ref I) "set_iterator" := ⟨o,hI,hc⟩
 refine wpAny_pyIter_slot hT aGc (wpAny_call_entry aGc hT aLf (?_:wpAny _ _ (ret (.ref I)) _ _ s) (aOq _))
 exact wpAny_pure ⟨_,rfl, "set_iterator", _,hT,lK.lookup,q⟩
theorem aGd(hh:A.handled=none){I a:Addr}(ne:a≠I){b:Bool}{ns:List Int}{es:Array (Int × Value)}{ep:Nat}{t:SetTable}(c:Nat->Nat)(vs:List Value)
  (nx:∀ (s:Shared) (i:Nat),i<=vs.length->SetIs b a ns es ep t s.heap->∀ (A:Around) (E:Value->Shared->Prop) (Q:Option (Value × Nat)->Shared->Prop),Q ((vs[i]?).map fun v=>(v,c (i+1))) s->wpAny (model prog w) A (setNext a (c i) i ep) Q E s) :
  Walks prog w A I [I,a] [I] vs.length (fun i v=>vs[i]?=some v) (fun i h=>h.get? I=some (aC4 (.int (c i) 0) i a es.size ep)/\SetIs b a ns es ep t h) where
 sub:=fun b hb=>by rw [List.mem_singleton.mp hb];exact List.mem_cons_self
 frame:=fun _ _ _ st k=>⟨k I List.mem_cons_self _ st.1,st.2.keep fun o ho=>k a (List.mem_cons_of_mem _ List.mem_cons_self) o ho⟩
 item:=fun i s Q E hi st q=>by
  have e:vs[i]?=some vs[i]:=List.getElem?_eq_getElem hi
  refine aRq (v:=vs[i]) (c':=c (i+1)) st.1 st.2 (fun A E Q' h=>nx s i (Nat.le_of_lt hi) st.2 A E Q' (by rw [e];exact h)) fun h' hI sb=>?_
  have k:∀ b o,b≠I->s.heap.get? b=some o->h'.get? b=some o:=fun b o hb ho=>by rw [sb.2 b hb];exact ho
  exact q _ h' s.toks e ⟨hI,st.2.keep fun o ho=>k a o ne ho⟩ fun b o hb ho=>k b o (fun h=>hb (List.mem_singleton.mpr h)) ho
 done:=fun s Q E st q =>
  aVu hh st.1 st.2 (fun A E Q' h=>nx s _ (Nat.le_refl _) st.2 A E Q' (by rw [List.getElem?_eq_none (Nat.le_refl _)];exact h)) fun h' k=>q h' s.toks fun b o hb ho=>k b o (fun h=>hb (List.mem_singleton.mpr h)) ho
 self:=fun _ _ _ _ st q=>aJu st.1 rfl q
theorem aRs(hh:A.handled=none){I a T:Addr}(ne:a≠I)(nT:T≠I){b:Bool}{ns:List Int}{es:Array (Int × Value)}{ep:Nat}{t:SetTable}(ys:List Nat)(lt:∀ y∈ys,y < es.size) :
  Walks prog w A I [I,a,T] [I] (ys.map fun y=>(es.getD y (0,.none)).2).length (fun i v=>(ys.map fun y=>(es.getD y (0,.none)).2)[i]?=some v)
   (fun i h=>h.get? I=some (aC4 (.ref T) i a es.size ep)/\SetIs b a ns es ep t h/\h.get? T=some { cls := .type "tuple", data := .seq (ys.map fun (n:Nat)=>rawInt n).toArray }) where
 sub:=fun b hb=>by rw [List.mem_singleton.mp hb];exact List.mem_cons_self
 frame:=fun _ _ _ st k=>⟨k I List.mem_cons_self _ st.1,st.2.1.keep fun o ho=>k a (List.mem_cons_of_mem _ List.mem_cons_self) o ho,k T (List.mem_cons_of_mem _ (List.mem_cons_of_mem _ List.mem_cons_self)) _ st.2.2⟩
 item:=fun i s Q E hi st q=>by
  rw [List.length_map] at hi
  have e:ys[i]?=some ys[i]:=List.getElem?_eq_getElem hi
  have l:=lt _ (List.getElem_mem hi)
  have eg:es[ys[i]]?=some es[ys[i]]:=Array.getElem?_eq_getElem l
  refine aRr (e:=es[ys[i]]) st.1 st.2.1 st.2.2 e eg fun h' hI sb=>?_
  have k:∀ b o,b≠I->s.heap.get? b=some o->h'.get? b=some o:=fun b o hb ho=>by rw [sb.2 b hb];exact ho
  refine q _ h' s.toks ?_ ⟨hI,st.2.1.keep fun o ho=>k a o ne ho,k T _ nT st.2.2⟩ fun b o hb ho=>k b o (fun h=>hb (List.mem_singleton.mpr h)) ho
  rw [List.getElem?_map,e]
  simp [Array.getD_eq_getD_getElem?,eg]
 done:=fun s Q E st q=>by
  rw [List.length_map] at st
  exact aVv hh st.1 st.2.1 st.2.2 (List.getElem?_eq_none (Nat.le_refl _)) fun h' k=>q h' s.toks fun b o hb ho=>k b o (fun h=>hb (List.mem_singleton.mpr h)) ho
 self:=fun _ _ _ _ st q=>aJu st.1 rfl q
def Nums(vs:List Value)(ns:List Int):Prop:=(vs.map numOf).Perm ns/\∀ v∈vs,∃ n t,v = .int n t
theorem SetIs.nums_of{b:Bool}{a:Addr}{ns:List Int}{es:Array (Int × Value)}{ep:Nat}{t:SetTable}{h:Heap}(x:SetIs b a ns es ep t h){l:List (Int × Value)}(p:l.Perm es.toList):Nums (l.map (·.2)) ns:=by
 refine ⟨?_,fun v hv=>?_⟩
 ·rw [List.map_map]
  exact (p.map fun e=>numOf e.2).trans x.perm
 ·obtain ⟨e,he,rfl⟩:=List.mem_map.mp hv
  obtain ⟨n,tk,rfl⟩:=x.nums e (p.mem_iff.mp he)
  exact ⟨n,tk,rfl⟩
theorem aRt(hh:A.handled=none){a:Addr}{ns:List Int}{Q:Value->Shared->Prop}(x:fG (!pP w) a ns s.heap)(few:ns.length < scanBound)
  (q:∀ (I:Addr) (h':Heap) (d:_) (vs:List Value) (fp:List Addr) (St:Nat->Heap->Prop),Nums vs ns->(∀ b o,s.heap.get? b=some o->h'.get? b=some o)->s.heap.objs.size<=I->(∀ f∈fp,f=a\/s.heap.objs.size<=f) ->
   Walks prog w A I fp [I] vs.length (fun i v=>vs[i]?=some v) St->St 0 h'->Q (.ref I) { s with heap:=h',drawn:=d }) :
  wpAny (model prog w) A (pyIter (.ref a)) Q E s:=by
 obtain ⟨es,ep,t,x⟩:=x
 have hT:s.TypeIs (.ref a) "set" := ⟨_,x.obj,rfl⟩
 have la:a < s.heap.objs.size:=Heap.lt_size x.obj
 refine wpAny_pyIter_slot hT F.slot_set_iter (wpAny_call_entry F.slot_set_iter hT aI0 ?_ (F.args_set_iter_1 _))
 unfold Builtin.«frozenset.__iter__» Builtin.Frozenset.slot0
 refine wpAny_bind (wpAny_bind (wpAny_pure (?_:wpAny _ _ (pure a) _ _ s)))
 refine wpAny_pure ?_
 unfold Builtin.Frozenset.sizeOf
 refine wpAny_bind (wpAny_bind (wpAny_setEntries_of x.obj rfl x.fit (wpAny_pure ?_)))
 unfold setDrawn
 refine wpAny_bind (wpAny_bind (wpAny_setState_of x.obj rfl x.fit ?_))
 dsimp only
 unfold setsByText
 refine wpAny_bind (wpAny_bind (wpAny_askSetting (wpAny_pure (wpAny_pure ?_))))
 have fin:∀ (s':Shared) (first:Value),SetIs (!pP w) a ns es ep t s'.heap->Q (.ref s'.heap.objs.size) { s' with heap:=s'.heap.push (aC4 first 0 a es.size ep) }->wpAny (model prog w) A.in1 (setEpoch a >>= fun e=>newFields "set_iterator" [first,rawInt 0,.ref a,rawInt es.size,rawInt e] >>= fun r=>ret r)
   (fun fin s'=>∃ r,fin = .done (.ret r)/\∃ T' r',s'.TypeIs r T'/\typeLookup (.type T') "__next__" = pure (some r')/\Q r s') E s':=fun s' first y q'=>by
  refine wpAny_bind (wpAny_setEpoch_of y.obj rfl y.fit ?_)
  unfold newFields
  refine wpAny_bind (wpAny_newObj_type (wpAny_pure ⟨_,rfl, "set_iterator", _,⟨_,Heap.get?_push_size _ rfl,rfl⟩,lK.lookup,?_⟩))
  exact q'
 by_cases hd:(!pP w&&(!t.plain&&decide (es.size > 1)))=true
 ·refine wpAny_ite_split (fun _=>?_) fun h=>absurd hd h
  refine wpAny_bind (aRo es.size (List.range es.size) s _ List.length_range fun ys d py=>?_)
  have lt:∀ y∈ys,y < es.size:=fun y hy=>List.mem_range.mp (py.mem_iff.mp hy)
  have sz:ys.length<=sizeLine:=fits_of_scanBound (by rw [py.length_eq,List.length_range,x.size];exact few)
  simp only [newTuple]
  refine wpAny_bind (wpAny_newObj_type ?_ (by show (List.map _ ys).toArray.size<=sizeLine;rw [List.size_toArray,List.length_map];exact sz))
  refine fin _ _ (x.keep fun o ho=>Heap.get?_push_of_some _ ho) ?_
  refine q _ _ d (ys.map fun y=>(es.getD y (0,.none)).2) _ _ ?_ (fun b o ho=>Heap.get?_push_of_some _ (Heap.get?_push_of_some _ ho)) ?_ (fun f hf=>?_)
   (aRs hh (T:=s.heap.objs.size) ?_ ?_ ys lt) ⟨Heap.get?_push_size _ rfl,x.keep fun o ho=>Heap.get?_push_of_some _ (Heap.get?_push_of_some _ ho),Heap.get?_push_of_some _ (Heap.get?_push_size _ rfl)⟩
  ·have e:(ys.map fun y=>(es.getD y (0,.none)).2)=(ys.map fun y=>es.getD y (0,.none)).map (·.2):=by rw [List.map_map];rfl
   rw [e]
   refine x.nums_of ((py.map _).trans (List.Perm.of_eq ?_))
   refine List.ext_getElem? fun i=>?_
   by_cases hi:i < es.size
   ·simp [List.getElem?_map,List.getElem?_range hi,Array.getD_eq_getD_getElem?,hi]
   ·simp [hi]
  ·rw [Heap.size_push];exact Nat.le_succ _
  ·rcases List.mem_cons.mp hf with h | h
   ·exact .inr (by rw [h,Heap.size_push];exact Nat.le_succ _)
   ·rcases List.mem_cons.mp h with h | h
    ·exact .inl h
    ·exact .inr (Nat.le_of_eq (List.mem_singleton.mp h).symm)
  ·rw [Heap.size_push];exact Nat.ne_of_lt (Nat.lt_succ_of_lt la)
  ·rw [Heap.size_push];exact Nat.ne_of_lt (Nat.lt_succ_self _)
 ·refine wpAny_ite_split (fun h=>absurd h hd) fun _=>wpAny_bind (wpAny_pure ?_)
  refine fin s (.int 0 0) x ?_
  by_cases hb:pP w=true
  ·refine q s.heap.objs.size _ s.drawn ((pickOrder (w.params.setOrder a ep) es).toList.map (·.2)) _ _ (x.nums_of (aC3 _ es)) (fun b o ho=>Heap.get?_push_of_some _ ho) (Nat.le_refl _) (fun f hf=>?_)
    (aGd hh (Nat.ne_of_lt la) (fun _=>0) _ fun s i hi y A E Q' h=>aLg y hb 0 i ?_) ⟨Heap.get?_push_size _ rfl,x.keep fun o ho=>Heap.get?_push_of_some _ ho⟩
   ·rcases List.mem_cons.mp hf with h | h
    ·exact .inr (Nat.le_of_eq h.symm)
    ·exact .inl (List.mem_singleton.mp h)
   ·rw [List.getElem?_map,Option.map_map,Array.getElem?_toList] at h
    exact h
  ·have hb0:pP w=false:=by revert hb;cases pP w<;>intro h<;>first | rfl | exact absurd rfl h
   have hd0:(!t.plain&&decide (es.size > 1))=false:=by
    rw [hb0] at hd
    revert hd
    cases (!t.plain&&decide (es.size > 1)) <;> intro h<;>first | rfl | exact absurd rfl h
   have x':SetIs true a ns es ep t s.heap:=by rw [hb0] at x;exact x
   refine q s.heap.objs.size _ s.drawn (es.toList.map (·.2)) _ _ (x.nums_of (List.Perm.refl _)) (fun b o ho=>Heap.get?_push_of_some _ ho) (Nat.le_refl _) (fun f hf=>?_)
    (aGd hh (b:=true) (t:=t) (ns:=ns) (Nat.ne_of_lt la) (qX t) _ fun s i hi y A E Q' h=>aOr y hb0 hd0 i (by simpa using hi) ?_) ⟨Heap.get?_push_size _ rfl,x'.keep fun o ho=>Heap.get?_push_of_some _ ho⟩
   ·rcases List.mem_cons.mp hf with h | h
    ·exact .inr (Nat.le_of_eq h.symm)
    ·exact .inl (List.mem_singleton.mp h)
   ·rw [List.getElem?_map,Option.map_map,Array.getElem?_toList] at h
    exact h
end
end Pu
namespace Pu
open PySem PyProof.Rows
section
variable{prog:Program}{w:World}{A:Around}{E:Value->Shared->Prop}{s:Shared}
theorem aOs{r:Addr}{Q:Bool->Shared->Prop}(hT:s.TypeIs (.ref r) "set")(q:Q false s):wpAny (model prog w) A (Builtin.List.listLengthHint (.ref r)) Q E s:=by
 unfold Builtin.List.listLengthHint
 refine wpAny_bind (wpAny_specialOf hT aRp ?_)
 generalize hid:("set.__len__" : String)=id0
 wp_delta
 rw [show splitId id0=some ("set", "__len__") from by subst hid;decide +kernel]
 subst hid
 refine wpAny_bind (wpAny_isInstance (T := "set") (b:=true) hT sub_set_self ?_)
 refine wpAny_ite_split (fun h=>absurd h (by decide)) fun _=>wpAny_ite_split (fun _=>?_) fun h=>absurd (by decide +kernel) h
 exact wpAny_bind (wpAny_typeOf hT (wpAny_pure q))
theorem fG.typeIs{b:Bool}{a:Addr}{ns:List Int}(x:fG b a ns s.heap):s.TypeIs (.ref a) "set" := let ⟨_,_,_,y⟩:=x;⟨_,y.obj,rfl⟩
theorem Nums.len{vs:List Value}{ns:List Int}(h:Nums vs ns):vs.length=ns.length:=by
 have:=h.1.length_eq
 simpa using this
theorem aVw{a S:Addr}{ns:List Int}{res:Value}{R:Result->Shared->Prop}(hh:A.handled=none)(x:fG (!pP w) a ns s.heap)(few:ns.length < scanBound)(hS:s.heap.get? S=some { cls := .type "list", data := .seq #[] 0 })(ne:S≠a)
  (r:∀ (h':Heap) (d:_) (tk:Nat) (vs:List Value) (c:Nat),Nums vs ns->(∀ b o,b≠S->s.heap.get? b=some o->h'.get? b=some o)->h'.get? S=some { cls := .type "list", dict:=none,data := .seq vs.toArray c,slots := #[] }->R (.ok (.ret res)) { s with heap:=h',drawn:=d,toks:=tk }) :
  wpAny (model prog w) A.in1 (Builtin.List.listExtendWith (.ref S) (.ref a) res) (fun fin s'=>match fin with | .done f=>R (.ok f) s' | .again c'=>c'.quiet=true/\codeAny (model prog w) A c' R s') (fun e s'=>R (.error e) s') s:=by
 unfold Builtin.List.listExtendWith
 refine wpAny_bind (wpAny_typeOf (T := "set") x.typeIs ?_)
 rw [if_neg (by simp [Builtin.List.listSameRef,ne])]
 refine wpAny_bind (aRt (A:=A.in1) hh x few fun I h' d vs fp St nv k lI lf W st=>?_)
 refine wpAny_bind (wpAny_holding (aOs (fG.typeIs (s:={ s with heap:=h',drawn:=d }) (x.keep fun o ho=>k a o ho)) ?_))
 have lS:S < s.heap.objs.size:=Heap.lt_size hS
 have nS:S ∉ fp:=fun h=>by
  rcases lf S h with e | e
  ·exact ne e
  ·exact absurd lS (Nat.not_lt.mpr e)
 have go:∀ (h1:Heap) (c₁:Nat),St 0 h1->(∀ b o,b≠S->s.heap.get? b=some o->h1.get? b=some o)->h1.get? S=some { cls := .type "list", data := .seq #[] c₁ } ->
   codeAny (model prog w) A (.builtin "list.extend.loop" ⟨[.ref S,.ref I,res],[]⟩) R { s with heap:=h1,drawn:=d }:=fun h1 c₁ st1 k1 hS1=>by
  refine codeAny_extend_loopS W.toS (fits_of_scanBound (by rw [nv.len];exact few)) S nS res vs.length 0 _ #[] c₁ rfl (Nat.zero_le _) st1 hS1 (ItemsOf.nil _) fun s' acc c' mv hS' it=>?_
  have ev:acc=vs.toArray:=by
   apply Array.ext'
   refine List.ext_getElem? fun i=>?_
   rw [Array.getElem?_toList,List.toList_toArray]
   cases ha:acc[i]? with
   | some v=>exact (it.2 i v ha).symm
   | none=>exact (List.getElem?_eq_none (by rw [<-it.1];exact Array.getElem?_eq_none_iff.mp ha)).symm
  subst ev
  rw [Moved.eq_with mv]
  refine r s'.heap d s'.toks vs c' nv (fun b o hb ho=>mv.heap b o (fun hm=>?_) (k1 b o hb ho)) hS'
  rcases List.mem_cons.mp hm with h | h
  ·exact hb h
  ·exact absurd (Heap.lt_size ho) (by rw [List.mem_singleton.mp h];exact Nat.not_lt.mpr lI)
 refine wpAny_ite_split (fun _=>?_) fun _=>wpAny_pure ⟨plainId_quiet PySem.F.plain_extend_loop _,go h' 0 st (fun b o _ ho=>k b o ho) (k S _ hS)⟩
 refine wpAny_bind (wpAny_rule (wpAny_bind (?_:wpAny _ _ (updateSeq S (·.push .none) >>= fun _=>updateSeq S (·.pop)) _ _ _)))
 have o1:=k S _ hS
 have o2:=Heap.get?_update_self (Obj.mapSeq (·.push Value.none)) o1 rfl
 have o3:=Heap.get?_update_self (Obj.mapSeq (·.pop)) o2 rfl
 have oth:∀ b o,b≠S->h'.get? b=some o->((h'.update S (Obj.mapSeq (·.push Value.none))).update S (Obj.mapSeq (·.pop))).get? b=some o:=fun b o hb ho=>by
  rw [Heap.get?_update_other _ _ (Ne.symm hb),Heap.get?_update_other _ _ (Ne.symm hb)]
  exact ho
 refine wpAny_bind (wpAny_updateSeq o1 rfl (wpAny_updateSeq (hz:=by seq_fits) o2 rfl ?_))
 exact wpAny_pure ⟨plainId_quiet PySem.F.plain_extend_loop _,go _ _ (W.frame 0 _ _ st fun b hb o ho=>oth b o (fun e=>nS (e ▸ hb)) ho) (fun b o hb ho=>oth b o hb (k b o ho)) o3⟩
theorem aRu{a:Addr}{ns:List Int}{R:List Value->Shared->Prop}(hh:A.handled=none)(x:fG (!pP w) a ns s.heap)(few:ns.length < scanBound)
  (r:∀ (h':Heap) (d:_) (tk:Nat) (vs:List Value),Nums vs ns->(∀ b o,s.heap.get? b=some o->h'.get? b=some o)->R vs { s with heap:=h',drawn:=d,toks:=tk }) :
  wpAny (model prog w) A (collect (.ref a)) R E s:=by
 unfold collect
 refine wpAny_bind (wpAny_runValue (codeAny_builtin entry_proto_collect' ?_))
 rw [Around.under_plainId PySem.F.plain_proto_collect _]
 refine (?_:wpAny _ A.in1 (newList [] >>= fun l=>again (.builtin "list.__iadd__" ⟨[l,.ref a],[]⟩)) _ _ s)
 refine wpAny_bind (wpAny_newObj_type (wpAny_pure ⟨plainId_quiet PySem.F.plain_list_iadd _,codeAny_builtin entry_list_iadd' ?_⟩))
 rw [Around.under_plainId PySem.F.plain_list_iadd _]
 have la:a < s.heap.objs.size:=let ⟨_,_,_,y⟩:=x;Heap.lt_size y.obj
 have hS:(s.heap.push { cls := .type "list", data := .seq ([]:List Value).toArray }).get? s.heap.objs.size=some { cls := .type "list", data := .seq #[] 0 }:=Heap.get?_push_size _ rfl
 have key:=aVw (A:=A) (s:={ s with heap:=s.heap.push { cls := .type "list", data := .seq ([]:List Value).toArray } }) (res := .ref s.heap.objs.size) (prog:=prog)
  (R:=fun (q:Result) (s':Shared)=>q = .ok (.ret (.ref s.heap.objs.size))/\∃ (h':Heap) (d:_) (tk:Nat) (vs:List Value) (c:Nat),s'={ s with heap:=h',drawn:=d,toks:=tk }/\Nums vs ns/\(∀ b o,s.heap.get? b=some o->h'.get? b=some o)/\h'.get? s.heap.objs.size=some { cls := .type "list", dict:=none,data := .seq vs.toArray c,slots := #[] })
  hh (x.keep fun o ho=>Heap.get?_push_of_some _ ho) few hS (Nat.ne_of_gt la)
  fun h' d tk vs c nv k o=>⟨rfl,h',d,tk,vs,c,rfl,nv,fun b o' ho=>k b o' (Nat.ne_of_lt (Heap.lt_size ho)) (Heap.get?_push_of_some _ ho),o⟩
 have last:∀ (h':Heap) (d:_) (tk:Nat) (vs:List Value) (c:Nat),Nums vs ns->(∀ b o,s.heap.get? b=some o->h'.get? b=some o)->h'.get? s.heap.objs.size=some { cls := .type "list", dict:=none,data := .seq vs.toArray c,slots := #[] } ->
   wpAny (model prog w) A (load s.heap.objs.size >>= fun o=>match o.data with | .seq xs _=>pure xs.toList | _=>unsupported "internal:collect") R E { s with heap:=h',drawn:=d,toks:=tk }:=fun h' d tk vs c nv k o=>by
  refine wpAny_bind (wpAny_load o ?_)
  exact wpAny_pure (r h' d tk vs nv k)
 refine wpAny_mono key (fun fin s' y=>?_) fun e s' y=>nomatch y.1
 cases fin with
 | done f =>
  obtain ⟨e,h',d,tk,vs,c,rfl,nv,k,o⟩:=y
  cases e
  exact last h' d tk vs c nv k o
 | again c₁ =>
  refine ⟨y.1,codeAny_mono y.2 fun q s₂ z=>?_⟩
  obtain ⟨rfl,h',d,tk,vs,c,rfl,nv,k,o⟩:=z
  exact last h' d tk vs c nv k o
theorem ints_of:∀ {vs:List Value},(∀ v∈vs,∃ n t,v=Value.int n t)->IntsAre vs (vs.map Pu.numOf)
 | [],_=>IntsAre.nil
 | v :: vs,h=>by
  obtain ⟨n,t,rfl⟩:=h v List.mem_cons_self
  exact IntsAre.cons _ _ (ints_of fun v hv=>h v (List.mem_cons_of_mem _ hv))
theorem aLh{a:Addr}{ns:List Int}{Q:Value->Shared->Prop}(hh:A.handled=none)(x:fG (!pP w) a ns s.heap)(few:ns.length < 64)
  (q:∀ (D:Addr) (h':Heap) (d:_) (tk:Nat) (out:Array Value) (ns':List Int) (c:Nat),IntsAre out.toList ns'->ns'.Perm ns->ns'.Pairwise (· <= ·)->(∀ b o,s.heap.get? b=some o->h'.get? b=some o)->(∀ b o,s.heap.get? b=some o->b < D)->h'.get? D=some (seqObj "list" out c)->Q (.ref D) { s with heap:=h',drawn:=d,toks:=tk }) :
  wpAny (model prog w) A (call (.builtin "sorted") [.ref a]) Q E s:=by
 refine Calls.call_function_entry kind_sorted plain_sorted entry_sorted (args_sorted1 _) ?_
 unfold Builtin.«sorted»
 have fb:ns.length < scanBound:=by unfold scanBound;omega
 refine wpAny_bind (m:=checkCount "sorted" 1 1 _) (wpAny_pure (wpAny_bind (aRu (A:=A.in1) hh x fb fun h' d tk vs nv k=>?_)))
 have l64:vs.length < 64:=by rw [nv.len];exact few
 refine wpAny_bind (wpAny_newList ?_ (by rw [sizeLine_eq];omega))
 have o:(h'.push (seqObj "list" vs.toArray 0)).get? h'.objs.size=some (seqObj "list" vs.toArray 0):=Heap.get?_push_size _ rfl
 refine wpAny_bind (wpAny_holding (wpAny_call_entry slot_list_sort ⟨_,o,rfl⟩ entry_list_sort (list_sort_tree o (ints_of nv.2) l64 fun out ns' e1 e2 e3=>⟨_,rfl,?_⟩) (args_list_sort _)))
 obtain ⟨c,oc⟩:=sortedHeap_at (out:=out) o
 refine wpAny_pure ⟨_,rfl,q _ _ d tk out ns' c e1 (e2.trans nv.1) e3 (fun b ob hb=>?_) (fun b ob hb=>Heap.lt_size (k b ob hb)) oc⟩
 have l:=Heap.lt_size (k b ob hb)
 rw [sortedHeap_old (Nat.ne_of_lt l) (by rw [Heap.size_push];exact Nat.lt_succ_of_lt l)]
 exact Heap.get?_push_of_some _ (k b ob hb)
end
end Pu
namespace Pu
open PySem PySem.Spec PyProof.Rows L2
theorem aDf(ns:List Int):∀ k,k<=ns.length->aEr (fun i=>ns.getD i 0) k=zN (ns.take k)
 | 0,_=>rfl
 | k+1,h=>by
  have e:ns.take (k+1)=ns.take k++[ns.getD k 0]:=by
   rw [List.take_add_one,List.getD_eq_getElem?_getD,List.getElem?_eq_getElem (show k < ns.length by omega)]
   rfl
  rw [e]
  show aEp (aEr _ k) _=_
  rw [aDf ns k (by omega)]
  unfold zN
  rw [List.foldl_append]
  rfl
theorem aVx{l m:List Int}(h:m.Perm l)(hw:m.Pairwise (· <= ·)):m=aDv l:=List.Perm.eq_of_pairwise (le:=(· <= ·)) (fun a b _ _ h1 h2=>Int.le_antisymm h1 h2) hw (aF8 l) (h.trans (aAu l).symm)
theorem aGe:∀ {us:List Value} {ns:List Int},IntsAre us ns->Vals (ns.map V.int) us
 | _,_,.nil => .nil
 | _,_,.cons n t h => .cons ⟨t,rfl⟩ (aGe h)
theorem aOt{P:Program}{w:World}{H:Hp}{h:Heap}{a:Addr}{o:HO}(x:iD P w H h a o):∃ u,h.get? a=some u:=by
 cases o with
 | lst xs=>obtain ⟨_,_,_,_,e⟩:=x;exact ⟨_,e⟩
 | tup xs=>obtain ⟨_,_,_,o,e,_⟩:=x;exact ⟨_,e⟩
 | dK kvs=>obtain ⟨_,_,_,_,o,_,_,e,_⟩:=x;exact ⟨_,e⟩
 | dT kvs=>obtain ⟨_,_,_,_,o,_,_,e,_⟩:=x;exact ⟨_,e⟩
 | set S n=>obtain ⟨o,_,_,_,e,_⟩:=x;exact ⟨_,e⟩
 | ins C dx fs=>obtain ⟨_,_,_,e,_⟩:=x;exact ⟨_,e⟩
 | own y=>obtain ⟨_,e⟩:=x;exact ⟨_,e⟩
 | xd fs=>obtain ⟨_,⟨_,_,_,e,_⟩,_⟩:=x;exact ⟨_,e⟩
 | rng lo hi=>obtain ⟨_,_,_,e⟩:=x;exact ⟨_,e⟩
 | frz ob u=>obtain ⟨e,_⟩:=x;exact ⟨_,e⟩
 | tbl ps=>exact ⟨_,(show h.get? a=some _ from x)⟩
 | met f y=>exact ⟨_,(show h.get? a=some _ from x)⟩
 | ext φ=>obtain ⟨_,⟨_,e⟩,_⟩:=x;exact ⟨_,e⟩
section
variable{X:Cx}{B:List Addr}{a e:Expr}{f:Ex}{pos:Pos}
theorem aLi(hc:X.calm=true):nR X (.type "set") (fun xs H Q=>∃ p ns,xs=[.ref p]/\SqL X.K H p (ns.map V.int)/\ns.length<=4000/\∀ l,H l=none->Q (.ref l) (upd H l (.ext (fG (!pP X.w) l (zN ns))))):=by
 intro pins s σ H xs us Q I r h
 obtain ⟨p,ns,rfl,hq,hl,q⟩:=h
 obtain ⟨u,rfl,rx⟩:=vals1 r
 cases rx
 obtain ⟨its,r',pl,hz⟩:=I.list hq
 have hlen:=r'.length
 rw [List.length_map] at hlen
 refine aRn (ns:=ns) (I.ok.hd hc) pl.isList (by simpa using aG5 r') (by rw [List.size_toArray,<-hlen];show ns.length+1 < 4096;omega) fun h' tk hS hk=>?_
 rw [show its.toArray.size=ns.length by rw [List.size_toArray,hlen],aDf ns _ (Nat.le_refl _),List.take_length] at hS
 obtain ⟨es,ep,t,hIs⟩:=id hS
 exact ⟨.ref s.heap.objs.size,_,I.laid (t':=tk) (o := .ext (fG (!pP X.w) s.heap.objs.size (zN ns))) hk (Nat.le_refl _) ⟨hS,⟨_,hIs.obj⟩,fun h1 h2 x k=>x.keep k⟩,rfl,q _ (I.hok.fresh (Nat.le_refl _))⟩
theorem aLj(hc:X.calm=true):nR X (.builtin "sorted") (fun xs H Q=>∃ p ns,xs=[.ref p]/\H p=some (.ext (fG (!pP X.w) p ns))/\ns.length < 64/\∀ l,H l=none->Q (.ref l) (upd H l (.lst ((aDv ns).map V.int)))):=by
 intro pins s σ H xs us Q I r h
 obtain ⟨p,ns,rfl,hq,hn,q⟩:=h
 obtain ⟨u,rfl,rx⟩:=vals1 r
 cases rx
 obtain ⟨hS,_,_⟩:=I.hok _ _ hq
 refine aLh (I.ok.hd hc) hS hn fun D h' d tk out ns' c ho hp hw hk hD hd=>?_
 obtain rfl:=aVx hp hw
 have hDn:H D=none:=by
  cases hH:H D with
  | none=>rfl
  | some o =>
   obtain ⟨u,e⟩:=aOt (I.hok D o hH)
   exact absurd (hD D u e) (Nat.lt_irrefl _)
 have sm:aZ H (upd H D (.lst ((aDv ns).map V.int))):=dJ hDn
 have hl:(aDv ns).length=ns.length:=(aAu ns).length_eq
 refine ⟨.ref D,upd H D (.lst ((aDv ns).map V.int)),I.step (g':=s.gens) (d':=d) (t':=tk) (ch:=[]) (fun _ z=>nomatch z) (fun b o _ _ _ e _=>hk b o e) (fun b o _ _ _ e _=>⟨o.slots,hk b o e⟩) (fun b o _ e n=>by rw [bT (Nat.ne_of_lt (hD b o e))];exact n) (fun b o _ e=>⟨o,hk b o e⟩) (fun b xs e=>sm _ _ e) (fun b o u e=>sm _ _ e) (fun b ps e=>⟨#[],by rw [sm _ _ e];simp⟩) (fun m ⟨o,es,ep,ho,r⟩=>⟨o,es,ep,hk _ o ho,r⟩) (fun b o e=>?_) I.bare,rfl,q _ hDn⟩
 by_cases hb:b=D
 ·subst hb
  rw [cL] at e
  cases e
  exact ⟨by rw [List.length_map,hl,sizeLine_eq];omega,out.toList,c,aGe ho,by simpa using hd⟩
 ·rw [bT hb] at e
  exact (I.hok b _ e).stay (fun b v _ q=>hk b v q) (fun b q=>sm _ _ q) fun b xs q=>sm _ _ q
theorem aGf{K:PySem.W.Frag}{H:Hp}:∀ (l:List Int),bH K H (l.map D.int) (l.map V.int)
 | [] => .nil
 | _ :: l => .cons (aQ.mpr rfl) (aGf l)
theorem aOu{p0 p1 p2:Pos}(hm:X.mg "sorted" = none)(hm2:X.mg "set" = none)(hc:X.calm=true)(ha:PE X a (tP X.K B f))(hg:Gl X "sorted" := by rfl)(hg2:Gl X "set" := by rfl)(hs:starEach [.Call (.Name "set" p1) [a] [] p2] X.env=(false,eval (.Call (.Name "set" p1) [a] [] p2) X.env) :: starEach [] X.env:=by rfl)
  (hs2:starEach [a] X.env=(false,eval a X.env) :: starEach [] X.env:=by rfl):PE X (.Call (.Name "sorted" p0) [.Call (.Name "set" p1) [a] [] p2] [] pos) (tI X.K B (e1 aA8 f)):=by
 refine cT (vR (aLj hc) hg hm PyProof.Rows.boot_sorted (fW (aCo (aLi hc) hg2 hm2 PyProof.Rows.boot_set (fW ha mR hs2) (he:=hs2)) mR hs) (he:=hs)) ?_
 rintro σ H Q ⟨A,st,d,rs,hd,q⟩
 obtain ⟨x,hx,h2⟩:=R.ok_of hd
 cases x<;>first | (cases h2;done) | skip
 rename_i xs
 obtain ⟨l,hl,h3⟩:=R.ok_of h2
 obtain ⟨c,h4⟩:=aJ h3
 cases h4
 refine ⟨A,st,_,rs,hx,fun v H1 s1 r1=>?_⟩
 obtain ⟨p,vs,e,h6,r6⟩:=r1.lst
 rw [aAt hl] at r6
 rw [aDb r6] at h6
 exact ⟨p,l,by rw [e],h6,c.1,fun n hn=>⟨n,_,rfl,cL,c.2,fun m hm'=>q _ _ (s1.trans ((dJ hn).trans (dJ hm'))) (jF (rs.own.mono (s1.trans (dJ hn))) hm' (aGf _))⟩⟩
end
section
variable{X:Cx}{B:List Addr}{scope:Scope}{elt tg iter c:Expr}{pos:Pos}{t:Tg}{it:ItE}{f u:Ex}
end
end Pu
namespace Pu
open PySem PySem.Spec PyProof.Rows L2
section
variable{X:Cx}{B:List Addr}{o e x:Expr}{f g h:Ex}{apos cpos:Pos}
theorem aOv{K:PySem.W.Frag}{A:List Addr}{H:Hp}{t:Bool}{ks ds:List D}{v:V}(rx:iJ K A H (.dct t ks ds) v):∃ a,v = .ref a/\IsD H a:=by
 rcases rx with h | ⟨a,kk,o,ds',vs,e,e2,h,ko,r⟩
 ·obtain ⟨a,vs,e,q,r⟩:=tV.mp h
  rcases q with ⟨_,kvs,q1,_,_⟩ | ⟨_,kvs,q1,_,_⟩
  ·exact ⟨a,e,.inl ⟨kvs,.inl (bM _ _ _ _ q1)⟩⟩
  ·exact ⟨a,e,.inr ⟨kvs,.inl (bM _ _ _ _ q1)⟩⟩
 ·cases kk<;>cases e
  rcases ko with ⟨_,kvs,q1,_⟩ | ⟨_,kvs,q1,_⟩
  ·subst q1;exact ⟨a,e2,.inl ⟨kvs,.inl h⟩⟩
  ·subst q1;exact ⟨a,e2,.inr ⟨kvs,.inl h⟩⟩
theorem aJv{K:PySem.W.Frag}{A:List Addr}{H:Hp}{d k z r:D}{v u y:V}{a:Addr}(hv:v = .ref a)(rx:iJ K A H d v)(ry:Rep K (hide A H) k u)(rz:Rep K (hide A H) z y)(hd:vZ d k z = .ok r):∃ ov,rG H a u ov/\Rep K (hide A H) r (ov.getD y):=by
 unfold vZ at hd
 split at hd
 ·obtain ⟨hk,h2⟩:=aJ hd
  obtain ⟨a',ov,e3,g,hs,g2⟩:=aAe rx (ry.mono (bM _ _)) hk
  rw [hv] at e3
  cases e3
  refine ⟨ov,g,?_⟩
  split at h2
  ·obtain ⟨w,rfl,rw'⟩:=g2 r (qM h2)
   exact rw'
  ·rename_i hn
   cases h2
   have:ov=none:=by
    cases ov with
    | none=>rfl
    | some w=>exact absurd (hs.symm.trans rfl) hn
   rw [this]
   exact rz
 ·cases hd
theorem aGg{d k z r:D}(hd:vZ d k z = .ok r):∃ t ks vs,d = .dct t ks vs:=by
 unfold vZ at hd
 split at hd
 ·exact ⟨_,_,_,rfl⟩
 ·cases hd
theorem aVy(hu:X.A.units+64 < cLine)(ho:PE X o (tP X.K B f))(he:PE X e (tI X.K B g))(m1:attributeBase o "get" X.env (eval o X.env)=eval o X.env:=by rfl)
  (m2:((backTo cpos (starEach [e] X.env)).all (fun x => !x.1)&&(backToKw cpos (keywordEach [] X.env)).all (fun x=>x.1.isSome)
   && decide (([e]:List Expr).length+([]:List Keyword).length+(if ([]:List Keyword).isEmpty then 0 else 1) < 30))=true:=by rfl)
  (m3:(apos.endLine==cpos.line)=true:=by rfl) (m4:backTo cpos (starEach [e] X.env)=[(false,eval e X.env)]:=by rfl):PE X (.Call (.Attribute o "get" apos) [e] [] cpos) (tI X.K B (aCb f g (eC .non))):=by
 refine cT (aMd (by omega) ho he ⟨m1,m2,m3,m4⟩) ?_
 rintro σ H Q ⟨A,st,r,rs,hr,q⟩
 obtain ⟨d,hd,h2⟩:=R.ok_of hr
 obtain ⟨k,hk,h3⟩:=R.ok_of h2
 have h4:vZ d k .non = .ok r:=h3
 refine ⟨A,st,d,rs,hd,fun v H1 s1 rx=>?_⟩
 obtain ⟨t,ks,vs,rfl⟩:=aGg h4
 obtain ⟨a,rfl,hD⟩:=aOv rx
 refine ⟨a,rfl,hD,A,st,k,rs.mono s1,hk,fun u H2 s2 ry=>?_⟩
 obtain ⟨ov,g1,g2⟩:=aJv rfl (rx.mono s2) ry (bW.mpr rfl) h4
 exact ⟨ov,g1,q _ H2 (s1.trans s2) g2⟩
theorem aOw(hu:X.A.units+64 < cLine)(ho:PE X o (tP X.K B f))(he:PE X e (tI X.K B g))(hx:PE X x (tI X.K B h))(m1:attributeBase o "get" X.env (eval o X.env)=eval o X.env:=by rfl)
  (m2:((backTo cpos (starEach [e,x] X.env)).all (fun x => !x.1)&&(backToKw cpos (keywordEach [] X.env)).all (fun x=>x.1.isSome)
   && decide (([e,x]:List Expr).length+([]:List Keyword).length+(if ([]:List Keyword).isEmpty then 0 else 1) < 30))=true:=by rfl)
  (m3:(apos.endLine==cpos.line)=true:=by rfl) (m4:backTo cpos (starEach [e,x] X.env)=[(false,eval e X.env),(false,eval x X.env)]:=by rfl):PE X (.Call (.Attribute o "get" apos) [e,x] [] cpos) (tI X.K B (aCb f g h)):=by
 refine cT (aMe (by omega) ho he hx ⟨m1,m2,m3,m4⟩) ?_
 rintro σ H Q ⟨A,st,r,rs,hr,q⟩
 obtain ⟨d,hd,h2⟩:=R.ok_of hr
 obtain ⟨k,hk,h3⟩:=R.ok_of h2
 obtain ⟨z,hz,h4⟩:=R.ok_of h3
 refine ⟨A,st,d,rs,hd,fun v H1 s1 rx=>?_⟩
 obtain ⟨t,ks,vs,rfl⟩:=aGg h4
 obtain ⟨a,rfl,hD⟩:=aOv rx
 refine ⟨a,rfl,hD,A,st,k,rs.mono s1,hk,fun u H2 s2 ry=>⟨A,st,z,rs.mono (s1.trans s2),hz,fun y H3 s3 rz=>?_⟩⟩
 obtain ⟨ov,g1,g2⟩:=aJv rfl (rx.mono (s2.trans s3)) (ry.mono (aZ.hide s3)) rz h4
 exact ⟨ov,g1,q _ H3 (s1.trans (s2.trans s3)) g2⟩
end
end Pu
set_option maxHeartbeats 4000000
namespace Pu
open PySem PySem.Spec PyProof.Rows L2
def top(i:Nat):Stmt:=PySem.Challenge.pw_looprank_k23_rounds_and_ways.main.body.getD i (.Pass ⟨0,0,0,0⟩)
def inCls(s:Stmt)(j:Nat):Stmt:=match s with
 | .ClassDef _ _ _ b _ _ _ _ _ _ _=>b.getD j (.Pass ⟨0,0,0,0⟩)
 | _ => .Pass ⟨0,0,0,0⟩
abbrev jG:Stmt:=top 30
abbrev kO:Stmt:=top 31
abbrev fH:Stmt:=top 32
abbrev gW:Stmt:=top 33
abbrev fJ:Stmt:=top 34
abbrev gY:Stmt:=top 35
abbrev kW:Stmt:=top 20
abbrev kY:Stmt:=top 21
abbrev mO:Stmt:=top 19
abbrev gZ:Stmt:=top 22
abbrev iB:Stmt:=top 23
abbrev fQ:Stmt:=top 24
abbrev iC:Stmt:=top 25
abbrev mQ:Stmt:=top 26
abbrev jH:Stmt:=top 17
abbrev pQ:Stmt:=top 27
abbrev cJ:Stmt:=inCls (top 15) 3
abbrev kZ:Stmt:=top 28
abbrev dF:Stmt:=top 38
abbrev fU:Stmt:=top 37
abbrev dG:Stmt:=top 39
abbrev dO:Stmt:=top 40
abbrev lA:Stmt:=top 41
abbrev dR:Stmt:=top 11
abbrev lB:Stmt:=top 9
abbrev lC:Stmt:=top 10
abbrev pR:Stmt:=top 12
abbrev jJ:Stmt:=top 13
abbrev jK:Stmt:=top 14
abbrev dB:Stmt:=inCls (top 15) 0
abbrev xJ:Stmt:=top 42
theorem xK:FnScope ["_law_script", "_law_k"] ["_law_script", "_law_k"] (aF jG):=⟨rfl,rfl,rfl,by decide +kernel,rfl,by decide +kernel,by decide +kernel⟩
theorem zX:FnScope ["_law_cell_here", "_law_k", "_law_many", "_law_number"] ["_law_cell_here", "_law_k", "_law_many"] (aF kO):=⟨rfl,rfl,rfl,by decide +kernel,rfl,by decide +kernel,by decide +kernel⟩
theorem rD:FnScope ["_law_script", "_law_at", "_law_most", "_law_cell_here", "_law_rooms", "_law_letters", "_law_factor", "_law_steps", "_law_ranks", "_law_room", "_law_one", "_law_row", "_law_rank", "_law_k"] ["_law_script", "_law_at", "_law_most"] (aF fH):=⟨rfl,rfl,rfl,by decide +kernel,rfl,by decide +kernel,by decide +kernel⟩
theorem uK:FnScope ["_law_steps", "_law_bits", "_law_room", "_law_found", "_law_at", "_law_goal"] ["_law_steps", "_law_bits", "_law_room"] (aF gW):=⟨rfl,rfl,rfl,by decide +kernel,rfl,by decide +kernel,by decide +kernel⟩
theorem rE:FnScope ["_law_steps", "_law_bits", "_law_rooms", "_law_room"] ["_law_steps", "_law_bits"] (aF fJ):=⟨rfl,rfl,rfl,by decide +kernel,rfl,by decide +kernel,by decide +kernel⟩
theorem uL:FnScope ["_law_steps", "_law_bits"] ["_law_steps"] (aF gY):=⟨rfl,rfl,rfl,by decide +kernel,rfl,by decide +kernel,by decide +kernel⟩
theorem zY:FnScope ["bits", "room"] ["bits", "room"] (aF kW):=⟨rfl,rfl,rfl,by decide +kernel,rfl,by decide +kernel,by decide +kernel⟩
theorem zZ:FnScope ["bits", "room"] ["bits"] (aF kY):=⟨rfl,rfl,rfl,by decide +kernel,rfl,by decide +kernel,by decide +kernel⟩
theorem aC5:FnScope ["rooms", "bits", "room"] ["rooms"] (aF mO):=⟨rfl,rfl,rfl,by decide +kernel,rfl,by decide +kernel,by decide +kernel⟩
theorem uM:FnScope ["steps", "allowed", "rooms", "seen", "room", "middle"] ["steps", "allowed"] (aF gZ):=⟨rfl,rfl,rfl,by decide +kernel,rfl,by decide +kernel,by decide +kernel⟩
theorem uN:FnScope ["steps", "part", "rooms"] ["steps", "part"] (aF iB):=⟨rfl,rfl,rfl,by decide +kernel,rfl,by decide +kernel,by decide +kernel⟩
theorem tD:FnScope ["steps", "allowed", "seen", "parts", "room", "part", "other"] ["steps", "allowed"] (aF fQ):=⟨rfl,rfl,rfl,by decide +kernel,rfl,by decide +kernel,by decide +kernel⟩
theorem uO:FnScope ["machine", "allowed"] ["machine", "allowed"] (aF iC):=⟨rfl,rfl,rfl,by decide +kernel,rfl,by decide +kernel,by decide +kernel⟩
theorem aC6:FnScope ["machine", "bits"] ["machine", "bits"] (aF mQ):=⟨rfl,rfl,rfl,by decide +kernel,rfl,by decide +kernel,by decide +kernel⟩
theorem xM:FnScope ["steps", "start", "allowed", "ways", "met", "place", "here", "letter", "room"] ["steps", "start", "allowed"] (aF jH):=⟨rfl,rfl,rfl,by decide +kernel,rfl,by decide +kernel,by decide +kernel⟩
theorem aDg:FnScope ["machine", "allowed", "room", "goal"] ["machine", "allowed", "room", "goal"] (aF pQ):=⟨rfl,rfl,rfl,by decide +kernel,rfl,by decide +kernel,by decide +kernel⟩
theorem jR:FnScope ["self", "room", "text", "rooms", "letter"] ["self", "room", "text"] (aF cJ):=⟨rfl,rfl,rfl,by decide +kernel,rfl,by decide +kernel,by decide +kernel⟩
theorem aA0:FnScope ["machine", "bits", "room", "text", "here", "goal"] ["machine", "bits", "room"] (aF kZ):=⟨rfl,rfl,rfl,by decide +kernel,rfl,by decide +kernel,by decide +kernel⟩
theorem nO:FnScope ["_law_machine_here", "_law_bits", "_law_room", "_law_word"] ["_law_machine_here", "_law_bits", "_law_room"] (aF dF):=⟨rfl,rfl,rfl,by decide +kernel,rfl,by decide +kernel,by decide +kernel⟩
theorem tE:FnScope ["_law_steps", "_law_room", "_law_word", "_law_rooms", "_law_letter"] ["_law_steps", "_law_room", "_law_word"] (aF fU):=⟨rfl,rfl,rfl,by decide +kernel,rfl,by decide +kernel,by decide +kernel⟩
theorem nP:FnScope ["_law_steps", "_law_bits", "_law_room", "_law_word", "_law_letter", "_law_rooms", "_law_inside", "_law_one"] ["_law_steps", "_law_bits", "_law_room", "_law_word"] (aF dG):=⟨rfl,rfl,rfl,by decide +kernel,rfl,by decide +kernel,by decide +kernel⟩
theorem oE:FnScope ["_law_steps", "_law_allowed", "_law_goal", "_law_far", "_law_turn", "_law_room", "_law_one"] ["_law_steps", "_law_allowed", "_law_goal"] (aF dO):=⟨rfl,rfl,rfl,by decide +kernel,rfl,by decide +kernel,by decide +kernel⟩
theorem aA1:FnScope ["_law_steps", "_law_allowed", "_law_room", "_law_goal", "_law_far", "_law_word", "_law_near", "_law_one"] ["_law_steps", "_law_allowed", "_law_room", "_law_goal"] (aF lA):=⟨rfl,rfl,rfl,by decide +kernel,rfl,by decide +kernel,by decide +kernel⟩
theorem oF:FnScope ["thing", "most"] ["thing", "most"] (aF dR):=⟨rfl,rfl,rfl,by decide +kernel,rfl,by decide +kernel,by decide +kernel⟩
theorem aA2:FnScope ["thing"] ["thing"] (aF lB):=⟨rfl,rfl,rfl,by decide +kernel,rfl,by decide +kernel,by decide +kernel⟩
theorem aA3:FnScope ["thing", "limit"] ["thing", "limit"] (aF lC):=⟨rfl,rfl,rfl,by decide +kernel,rfl,by decide +kernel,by decide +kernel⟩
theorem aDh:FnScope ["thing", "letters", "rooms", "room"] ["thing", "letters", "rooms"] (aF pR):=⟨rfl,rfl,rfl,by decide +kernel,rfl,by decide +kernel,by decide +kernel⟩
theorem xN:FnScope ["thing", "row"] ["thing"] (aF jJ):=⟨rfl,rfl,rfl,by decide +kernel,rfl,by decide +kernel,by decide +kernel⟩
theorem xO:FnScope ["thing", "rooms", "rank"] ["thing", "rooms"] (aF jK):=⟨rfl,rfl,rfl,by decide +kernel,rfl,by decide +kernel,by decide +kernel⟩
theorem mC:FnScope ["self", "steps", "ranks", "row"] ["self", "steps", "ranks"] (aF dB):=⟨rfl,rfl,rfl,by decide +kernel,rfl,by decide +kernel,by decide +kernel⟩
theorem aOx:FnScope ["_law_script", "_law_machine_here", "_law_many", "_law_loops_here", "_law_bits", "_law_cell_here", "_law_steps", "_law_ranks", "_law_room", "_law_word", "_law_allowed", "_law_goal", "_law_found", "_law_row"] ["_law_script"] (aF xJ):=⟨rfl,rfl,rfl,by decide +kernel,rfl,by decide +kernel,by decide +kernel⟩
section
variable{P:Program}{w:World}{K:PySem.W.Frag}{mg:Str->Option Value}{base:Heap}
theorem aGh{fa:Addr}{fd:FuncData}{dV:Value}(F:FunD K "_law_cell" "_law_cell" jG dV fa fd)
  (b_len:mg "len" = none):FnOk P w K mg base CX0 1 fa fd ["_law_script", "_law_k"] (spI K 2 dC):=by
 refine eU (k:=0) F xK 2 2 zO rfl rfl fun cdv A outer s H E B hr=>?_
 have nd:=xK.nd
 refine aO ?_ ?_
 ·exact jV (cD aIb aAj (toP (aA 1)) (toP (dN b_len (toP (aA 0)))) (bZ _)) (bF (cH (eV hr.units (toP (aA 0)) (toP (aA 1))))) (fM)
 refine aO ?_ ?_
 ·exact jV (cD (eO hr.units) eQ (toP (aA 0)) (toP (aBj (bC))) (bZ _)) (bF (cH (nJ (toP (aN)) (toP (aA 1))))) (fM)
 exact bF (cH (jP (toP (aHq (toP (eV hr.units (toP (aA 0)) (toP (rC (toP (aA 1)) (toP (dN b_len (toP (aA 0)))))))) (toP (jP (toP (aA 1)) (toP (aN)))))) (toP (nJ (toP (aN)) (toP (aA 1))))))
theorem aI1 {fa : Addr} {fd : FuncData} {dV : Value} (F : FunD K "_law_mix" "_law_mix" kO dV fa fd)
     : FnOk P w K mg base CX0 1 fa fd ["_law_cell_here", "_law_k", "_law_many"] (spI K 3 bL):=by
 refine eU (k:=0) F zX 3 4 uU rfl rfl fun cdv A outer s H E B hr=>?_
 have nd:=zX.nd
 refine aO ?_ ?_
 ·exact cM 3 (rC (toP (nJ (toP (jP (toP (rC (toP (aA 0)) (toP (aN)))) (toP (nJ (toP (aN)) (toP (aA 1)))))) (toP (aN)))) (toP (aN))) nd
 refine aO ?_ ?_
 ·exact cM 3 (rC (toP (nJ (toP (rC (toP (nJ (toP (aA 3)) (toP (aA 3)))) (toP (aN)))) (toP (aN)))) (toP (aN))) nd
 exact bF (cH (rC (toP (rC (toP (nJ (toP (aA 3)) (toP (aA 3)))) (toP (aN)))) (toP (aA 2))))
theorem aC7{fa:Addr}{fd:FuncData}{dV:Value}(F:FunD K "_law_machine" "_law_machine" fH dV fa fd)
  (h__law_cell:DefOk P w K mg base "_law_cell" 1 2 dC)
  (h__law_mix:DefOk P w K mg base "_law_mix" 1 3 bL)
  (b_range:mg "range" = none):FnOk P w K mg base CX0 2 fa fd ["_law_script", "_law_at", "_law_most"] (spI K 3 gD):=by
 refine eU (k:=1) F rD 3 14 rY rfl rfl fun cdv A outer s H E B hr=>?_
 have nd:=rD.nd
 refine aO ?_ ?_
 ·exact cM 3 (aV h__law_cell hr (by decide) (aD (aA 0) (aD (aA 1) (bC)))) nd
 refine aO ?_ ?_
 ·exact cM 4 (jP (toP (aN)) (toP (aV h__law_mix hr (by decide) (aD (aA 3) (aD (aN) (aD (eV hr.units (toP (aBj (aD (aN) (aD (aN) (aD (aN) (aD (aA 2) (bC))))))) (toP (aV h__law_mix hr (by decide) (aD (aA 3) (aD (aN) (aD (aN) (bC))))))) (bC))))))) nd
 refine aO ?_ ?_
 ·exact cM 5 (jP (toP (aN)) (toP (aV h__law_mix hr (by decide) (aD (aA 3) (aD (aN) (aD (aN) (bC))))))) nd
 refine aO ?_ ?_
 ·exact cM 6 (eV hr.units (toP (aBj (aD (aN) (aD (aN) (aD (aN) (aD (jP (toP (aN)) (toP (nJ (toP (aN)) (toP (rC (toP (aV h__law_cell hr (by decide) (aD (aA 0) (aD (jP (toP (aA 1)) (toP (aN))) (bC))))) (toP (aYf (toP (aN)) (toP (aN))))))))) (bC))))))) (toP (aV h__law_mix hr (by decide) (aD (aA 3) (aD (aN) (aD (aN) (bC))))))) nd
 refine aO ?_ ?_
 ·exact vL 7 (aBl (bC)) nd
 refine aO ?_ ?_
 ·exact vL 8 (aBl (bC)) nd
 refine aO ?_ ?_
 ·exact lO (uJ b_range (toP (aA 4))) (cN 9 nd) (aO (by exact cM 10 (aV h__law_cell hr (by decide) (aD (aA 0) (aD (jP (toP (jP (toP (aA 1)) (toP (aN)))) (toP (aA 9))) (bC)))) nd) (by exact aO (by exact aJq 11 [13] nF (.of rfl) (uJ b_range (toP (aA 5))) (fun _ _ _ _ _=>cN 13 nd) (fun _ _ _ _ _=>aV h__law_mix hr (by decide) (aD (aA 10) (aD (jP (toP (aN)) (toP (aA 13))) (aD (aA 4) (bC))))) rfl nd) (by exact aO (by exact cM 12 (aV h__law_mix hr (by decide) (aD (aA 10) (aD (aN) (aD (aN) (bC))))) nd) (by exact aO (by exact jV (cD (eO hr.units) eQ (toP (aV h__law_mix hr (by decide) (aD (aA 3) (aD (aN) (aD (aN) (bC)))))) (toP (aN)) (bZ _)) (aO (by exact aJq 11 [13] nF (.of rfl) (uJ b_range (toP (aA 5))) (fun _ _ _ _ _=>cN 13 nd) (fun _ _ _ _ _=>rC (toP (aHq (toP (aA 10)) (toP (eV hr.units (toP (aBj (aD (aN) (aD (aN) (aD (aN) (bC)))))) (toP (aA 13)))))) (toP (aA 4))) rfl nd) (by exact bF (cM 12 (rC (toP (aHq (toP (aA 10)) (toP (aN)))) (toP (aN))) nd))) (bF (jV (PW.pt (aBi (cD (eO hr.units) eQ (toP (aV h__law_mix hr (by decide) (aD (aA 3) (aD (aN) (aD (aN) (bC)))))) (toP (aN)) (bZ _)) (vJ (cD aIc aE8 (toP (aV h__law_mix hr (by decide) (aD (aA 10) (aD (aN) (aD (aN) (bC)))))) (toP (aN)) (bZ _))))) (bF (aYw 11 (toP (aV h__law_mix hr (by decide) (aD (aA 10) (aD (aN) (aD (aA 5) (bC)))))) (rC (toP (jP (toP (aA 9)) (toP (aN)))) (toP (aA 4))))) (fM)))) (by exact aO (by exact aFr [11] (aBv 7 (aA 11))) (by exact bF (aBv 8 (nJ (toP (aA 12)) (toP (aA 6)))))))))) PassesOwn.never rfl
 exact bF (aFr [7,8] (cH (aYj (aD (aA 7) (aD (aA 8) (bC))))))
theorem aEs{fa:Addr}{fd:FuncData}{dV:Value}(F:FunD K "_law_ahead" "_law_ahead" gW dV fa fd)
  (b_len:mg "len" = none):FnOk P w K mg base CX0 1 fa fd ["_law_steps", "_law_bits", "_law_room"] (spI K 3 gO):=by
 refine eU (k:=0) F uK 3 6 qC rfl rfl fun cdv A outer s H E B hr=>?_
 have nd:=uK.nd
 refine aO ?_ ?_
 ·exact vL 3 (aBl (aD (aA 2) (bC))) nd
 refine aO ?_ ?_
 ·exact cM 4 (aN) nd
 refine aO ?_ ?_
 ·exact aEc 100000 (cD aIb aAj (toP (aA 4)) (toP (dN b_len (jY 3))) (bZ _)) (aO (by exact lO (pN (eV hr.units (toP (aA 0)) (toP (eV hr.units (jY 3) (toP (aA 4)))))) (cN 5 nd) (bF (jV (PW.pt (aBi (cD (eO hr.units) eQ (toP (qW (toP (zW (toP (aA 1)) (toP (aA 5)))) (toP (aN)))) (toP (aN)) (bZ _)) (vJ (cD (kE hr.units) kI (toP (aA 5)) (jY 3) rfl)))) (bF (aBv 3 (aA 5))) (fM))) PassesOwn.never rfl) (by exact bF (cM 4 (jP (toP (aA 4)) (toP (aN))) nd))) PassesOwn.never
 exact bF (aFr [3] (cH (aA 3)))
theorem aC8{fa:Addr}{fd:FuncData}{dV:Value}(F:FunD K "_law_is_loop" "_law_is_loop" fJ dV fa fd)
  (h__law_ahead:DefOk P w K mg base "_law_ahead" 1 3 gO)
  (b_range:mg "range" = none)
  (b_len:mg "len" = none):FnOk P w K mg base CX0 2 fa fd ["_law_steps", "_law_bits"] (spI K 2 jN):=by
 refine eU (k:=1) F rE 2 4 sE rfl rfl fun cdv A outer s H E B hr=>?_
 have nd:=rE.nd
 refine aO ?_ ?_
 ·exact aBx 2  [3] nF (.of rfl) (uJ b_range (toP (dN b_len (toP (aA 0))))) (fun _ _ _ _ _=>cN 3 nd) (fun _ _ _ _ _=>cD (eO hr.units) eQ (toP (qW (toP (zW (toP (aA 1)) (toP (aA 3)))) (toP (aN)))) (toP (aN)) (bZ _)) (fun _ _ _ _ _=>aA 3) rfl nd
 refine aO ?_ ?_
 ·exact lO (pN (aA 2)) (cN 3 nd) (bF (jV (cD (yV hr.units) yW (toP (dN b_len (toP (aV h__law_ahead hr (by decide) (aD (aA 0) (aD (aA 1) (aD (aA 3) (bC)))))))) (toP (dN b_len (toP (aA 2)))) (bZ _)) (bF (cH (aCc))) (fM))) PassesOwn.never rfl
 exact bF (cH (aYh (iK aIc aE8 (toP (dN b_len (toP (aA 2)))) (toP (aN)) (bZ _)) (aT1 (uI (iK (eO hr.units) eQ (toP (dN b_len (toP (aA 2)))) (toP (aN)) (bZ _)) (vI (iK (aEh hr.units) aEi (toP (eV hr.units (toP (aA 2)) (toP (aN)))) (toP (eV hr.units (toP (aA 0)) (toP (eV hr.units (toP (aA 2)) (toP (aN)))))) rfl))))))
theorem aEt{fa:Addr}{fd:FuncData}{dV:Value}(F:FunD K "_law_loops" "_law_loops" gY dV fa fd)
  (h__law_is_loop:DefOk P w K mg base "_law_is_loop" 2 2 jN)
  (b_range:mg "range" = none)
  (b_len:mg "len" = none):FnOk P w K mg base CX0 3 fa fd ["_law_steps"] (spI K 1 mG):=by
 refine eU (k:=2) F uL 1 2 qD rfl rfl fun cdv A outer s H E B hr=>?_
 have nd:=uL.nd
 exact bF (cH (wZ [1] nF (.of rfl) (aYm b_range (toP (aN)) (toP (aDd (toP (aN)) (toP (dN b_len (toP (aA 0))))))) (fun _ _ _ _ _=>cN 1 nd) (fun _ _ _ _ _=>iM (aV h__law_is_loop hr (by decide) (aD (aA 0) (aD (aA 1) (bC))))) (fun _ _ _ _ _=>aA 1) rfl))
theorem aI2 {fa : Addr} {fd : FuncData} {dV : Value} (F : FunD K "has_room" "has_room" kW dV fa fd)
     : FnOk P w K mg base CX0 1 fa fd ["bits", "room"] (spI K 2 cY):=by
 refine eU (k:=0) F zY 2 2 uV rfl rfl fun cdv A outer s H E B hr=>?_
 have nd:=zY.nd
 exact bF (cH (iK (eO hr.units) eQ (toP (qW (toP (zW (toP (aA 0)) (toP (aA 1)))) (toP (aN)))) (toP (aN)) (bZ _)))
theorem aI3{fa:Addr}{fd:FuncData}{dV:Value}(F:FunD K "rooms_of" "rooms_of" kY dV fa fd)
  (h_has_room:DefOk P w K mg base "has_room" 1 2 cY)
  (b_range:mg "range" = none):FnOk P w K mg base CX0 2 fa fd ["bits"] (spI K 1 cC):=by
 refine eU (k:=1) F zZ 1 2 uW rfl rfl fun cdv A outer s H E B hr=>?_
 have nd:=zZ.nd
 exact bF (cH (wZ [1] nF (.of rfl) (uJ b_range (toP (aVr (toP (aA 0))))) (fun _ _ _ _ _=>cN 1 nd) (fun _ _ _ _ _=>iM (aV h_has_room hr (by decide) (aD (aA 0) (aD (aA 1) (bC))))) (fun _ _ _ _ _=>aA 1) rfl))
theorem aLk {fa : Addr} {fd : FuncData} {dV : Value} (F : FunD K "bits_of" "bits_of" mO dV fa fd)
     : FnOk P w K mg base CX0 1 fa fd ["rooms"] (spI K 1 jC):=by
 refine eU (k:=0) F aC5 1 3 yF rfl rfl fun cdv A outer s H E B hr=>?_
 have nd:=aC5.nd
 refine aO ?_ ?_
 ·exact cM 1 (aN) nd
 refine aO ?_ ?_
 ·exact lO (pN (aA 0)) (cN 2 nd) (bF (cM 1 (aOm (toP (aA 1)) (toP (aDd (toP (aN)) (toP (aA 2))))) nd)) PassesOwn.never rfl
 exact bF (cH (aA 1))
theorem aEu{fa:Addr}{fd:FuncData}{dV:Value}(F:FunD K "seen_among" "seen_among" gZ dV fa fd)
  (h_rooms_of:DefOk P w K mg base "rooms_of" 2 1 cC)
  (h_bits_of:DefOk P w K mg base "bits_of" 1 1 jC)
  (h_has_room:DefOk P w K mg base "has_room" 1 2 cY):FnOk P w K mg base CX0 3 fa fd ["steps", "allowed"] (spI K 2 mH):=by
 refine eU (k:=2) F uM 2 6 wA rfl rfl fun cdv A outer s H E B hr=>?_
 have nd:=uM.nd
 refine aO ?_ ?_
 ·exact cM 2 (aV h_rooms_of hr (by decide) (aD (aA 1) (bC))) nd
 refine aO ?_ ?_
 ·exact aR2 3 nd
 refine aO ?_ ?_
 ·exact lO (pN (aA 2)) (cN 4 nd) (bF (aEj hr.units 3 (aA 4) (qW (toP (aOm (toP (aV h_bits_of hr (by decide) (aD (eV hr.units (toP (aA 0)) (toP (aA 4))) (bC)))) (toP (aDd (toP (aN)) (toP (aA 4)))))) (toP (aA 1))))) PassesOwn.never rfl
 refine aO ?_ ?_
 ·exact lO (pN (aA 2)) (cN 5 nd) (bF (lO (pN (aA 2)) (cN 4 nd) (bF (jV (iM (aV h_has_room hr (by decide) (aD (eV hr.units (jY 3) (toP (aA 4))) (aD (aA 5) (bC))))) (bF (aEj hr.units 3 (aA 4) (aOm (toP (eV hr.units (jY 3) (toP (aA 4)))) (toP (eV hr.units (jY 3) (toP (aA 5))))))) (fM))) PassesOwn.never rfl)) PassesOwn.never rfl
 exact bF (aFr [3] (cH (aA 3)))
theorem aEv{fa:Addr}{fd:FuncData}{dV:Value}(F:FunD K "goes_round" "goes_round" iB dV fa fd)
  (h_rooms_of:DefOk P w K mg base "rooms_of" 2 1 cC)
  (b_len:mg "len" = none):FnOk P w K mg base CX0 3 fa fd ["steps", "part"] (spI K 2 mJ):=by
 refine eU (k:=2) F uN 2 3 wB rfl rfl fun cdv A outer s H E B hr=>?_
 have nd:=uN.nd
 refine aO ?_ ?_
 ·exact cM 2 (aV h_rooms_of hr (by decide) (aD (aA 1) (bC))) nd
 exact bF (cH (aYh (iK aIc aE8 (toP (dN b_len (toP (aA 2)))) (toP (aN)) (bZ _)) (aT1 (iK (aEh hr.units) aEi (toP (eV hr.units (toP (aA 2)) (toP (aN)))) (toP (eV hr.units (toP (aA 0)) (toP (eV hr.units (toP (aA 2)) (toP (aN)))))) rfl))))
theorem aCg{fa:Addr}{fd:FuncData}{dV:Value}(F:FunD K "parts_among" "parts_among" fQ dV fa fd)
  (h_seen_among:DefOk P w K mg base "seen_among" 3 2 mH)
  (h_rooms_of:DefOk P w K mg base "rooms_of" 2 1 cC)
  (h_bits_of:DefOk P w K mg base "bits_of" 1 1 jC)
  (h_has_room:DefOk P w K mg base "has_room" 1 2 cY)
  (h_goes_round:DefOk P w K mg base "goes_round" 3 2 mJ):FnOk P w K mg base CX0 4 fa fd ["steps", "allowed"] (spI K 2 lD):=by
 refine eU (k:=3) F tD 2 7 uF rfl rfl fun cdv A outer s H E B hr=>?_
 have nd:=tD.nd
 refine aO ?_ ?_
 ·exact cM 2 (aV h_seen_among hr (by decide) (aD (aA 0) (aD (aA 1) (bC)))) nd
 refine aO ?_ ?_
 ·exact vL 3 (aBl (bC)) nd
 refine aO ?_ ?_
 ·exact lO (pN (aV h_rooms_of hr (by decide) (aD (aA 1) (bC)))) (cN 4 nd) (aO (by exact cM 5 (aV h_bits_of hr (by decide) (aD (wZ [6] nF (.of rfl) (pN (aV h_rooms_of hr (by decide) (aD (eV hr.units (toP (aA 2)) (toP (aA 4))) (bC)))) (fun _ _ _ _ _=>cN 6 nd) (fun _ _ _ _ _=>iM (aV h_has_room hr (by decide) (aD (eV hr.units (toP (aA 2)) (toP (aA 6))) (aD (aA 4) (bC))))) (fun _ _ _ _ _=>aA 6) rfl) (bC))) nd) (by exact bF (jV (PW.pt (aBi (cD (kE hr.units) kI (toP (aA 5)) (jY 3) rfl) (vJ (iM (aV h_goes_round hr (by decide) (aD (aA 0) (aD (aA 5) (bC)))))))) (bF (aBv 3 (aA 5))) (fM)))) PassesOwn.never rfl
 exact bF (aFr [3] (cH (aA 3)))
theorem aEw{fa:Addr}{fd:FuncData}{dV:Value}(F:FunD K "loop_parts" "loop_parts" iC dV fa fd)
  (h_parts_among:DefOk P w K mg base "parts_among" 4 2 lD)
  {A_Machine:Addr} (c_Machine:ClsAt K "Machine" A_Machine)
  (na_Machine_steps:eX K A_Machine (Str.ofString "steps")):FnOk P w K mg base CX0 5 fa fd ["machine", "allowed"] (spI K 2 mK):=by
 refine eU (k:=4) F uO 2 2 wC rfl rfl fun cdv A outer s H E B hr=>?_
 have nd:=uO.nd
 exact bF (cH (aV h_parts_among hr (by decide) (aD (aJh c_Machine na_Machine_steps (toP (aA 0))) (aD (aA 1) (bC)))))
theorem aLl{fa:Addr}{fd:FuncData}{dV:Value}(F:FunD K "is_loop" "is_loop" mQ dV fa fd)
  (h_loop_parts:DefOk P w K mg base "loop_parts" 5 2 mK):FnOk P w K mg base CX0 6 fa fd ["machine", "bits"] (spI K 2 pH):=by
 refine eU (k:=5) F aC6 2 2 yG rfl rfl fun cdv A outer s H E B hr=>?_
 have nd:=aC6.nd
 exact bF (cH (iK (eO hr.units) eQ (toP (aV h_loop_parts hr (by decide) (aD (aA 0) (aD (aA 1) (bC))))) (toP (aBj (aD (aA 1) (bC)))) (bZ _)))
theorem aGi{fa:Addr}{fd:FuncData}{dV:Value}(F:FunD K "ways_from" "ways_from" jH dV fa fd)
  (b_len:mg "len" = none)
  (b_zip:mg "zip" = none)
  {t_LETTERS:Tok} (g_LETTERS:mg "LETTERS" = some (.str "abc" t_LETTERS)):FnOk P w K mg base CX0 1 fa fd ["steps", "start", "allowed"] (spI K 3 jD):=by
 refine eU (k:=0) F xM 3 9 sJ rfl rfl fun cdv A outer s H E B hr=>?_
 have nd:=xM.nd
 refine aO ?_ ?_
 ·exact aJp 3 (aA 1) (sX []) nd
 refine aO ?_ ?_
 ·exact vL 4 (aBl (aD (aA 1) (bC))) nd
 refine aO ?_ ?_
 ·exact cM 5 (aN) nd
 refine aO ?_ ?_
 ·exact aEc 100000 (cD aIb aAj (toP (aA 5)) (toP (dN b_len (jY 4))) (bZ _)) (aO (by exact cM 6 (eV hr.units (jY 4) (toP (aA 5))) nd) (by exact aO (by exact lO (aVq b_zip (aHp [97,98,99] g_LETTERS) (eV hr.units (toP (aA 0)) (toP (aA 6)))) (aT2 rfl (aAf 7 (aAf 8 (aNy) nd) nd)) (bF (jV (PW.pt (aBi (cD (aEh hr.units) aEi (toP (aA 8)) (toP (aA 2)) rfl) (vJ (cD (kE hr.units) kI (toP (aA 8)) (jY 3) rfl)))) (aO (by exact aEj hr.units 3 (aA 8) (jP (toP (eV hr.units (jY 3) (toP (aA 6)))) (toP (aA 7)))) (by exact bF (aBv 4 (aA 8)))) (fM))) PassesOwn.never rfl) (by exact bF (cM 5 (jP (toP (aA 5)) (toP (aN))) nd)))) PassesOwn.never
 exact bF (aFr [3] (cH (aA 3)))
theorem aOy{fa:Addr}{fd:FuncData}{dV:Value}(F:FunD K "way_in" "way_in" pQ dV fa fd)
  (h_has_room:DefOk P w K mg base "has_room" 1 2 cY)
  (h_ways_from:DefOk P w K mg base "ways_from" 1 3 jD)
  (h_rooms_of:DefOk P w K mg base "rooms_of" 2 1 cC)
  {A_Machine:Addr} (c_Machine:ClsAt K "Machine" A_Machine)
  (na_Machine_steps:eX K A_Machine (Str.ofString "steps")):FnOk P w K mg base CX0 3 fa fd ["machine", "allowed", "room", "goal"] (spI K 4 fP):=by
 refine eU (k:=2) F aDg 4 4 aF9 rfl rfl fun cdv A outer s H E B hr=>?_
 have nd:=aDg.nd
 refine aO ?_ ?_
 ·exact jV (sY (iM (aV h_has_room hr (by decide) (aD (aA 1) (aD (aA 2) (bC)))))) (bF (cH (aFn))) (fM)
 exact bF (cH (aVy hr.units (toP (aV h_ways_from hr (by decide) (aD (aJh c_Machine na_Machine_steps (toP (aA 0))) (aD (aA 2) (aD (aV h_rooms_of hr (by decide) (aD (aA 1) (bC))) (bC)))))) (aA 3)))
theorem rN{fa:Addr}{fd:FuncData}{dV:Value}(F:FunD K "rooms_along" "Machine.rooms_along" cJ dV fa fd)
  {A_Machine:Addr} (c_Machine:ClsAt K "Machine" A_Machine)
  (na_Machine_steps:eX K A_Machine (Str.ofString "steps"))
  {t_LETTERS:Tok} (g_LETTERS:mg "LETTERS" = some (.str "abc" t_LETTERS)):FnOk P w K mg base CX0 1 fa fd ["self", "room", "text"] (spF K 3 cI):=by
 refine bBa (k:=0) F jR 3 5 3 cQ rfl rfl fun cdv A outer s H E B hr=>?_
 have nd:=jR.nd
 exact aJo (by exact vL 3 (aBl (aD (aA 1) (bC))) nd) (by exact aJo (by exact lO (pN (aA 2)) (cN 4 nd) (aO (by exact cM 1 (eV hr.units (toP (eV hr.units (toP (aJh c_Machine na_Machine_steps (toP (aA 0)))) (toP (aA 1)))) (toP (aVj (toP (aHp [97,98,99] g_LETTERS)) (aD (aA 4) (bC))))) nd) (by exact bF (aBv 3 (aA 1)))) PassesOwn.never rfl) (by exact aVo))
theorem aI4{fa:Addr}{fd:FuncData}{dV:Value}(F:FunD K "round_in" "round_in" kZ dV fa fd)
  (h_is_loop:DefOk P w K mg base "is_loop" 6 2 pH)
  (h_has_room:DefOk P w K mg base "has_room" 1 2 cY)
  (h_rooms_of:DefOk P w K mg base "rooms_of" 2 1 cC)
  (h_way_in:DefOk P w K mg base "way_in" 3 4 fP)
  (m_Machine_rooms_along_0:MethOkF P w K mg base "Machine" "rooms_along" 1 3 [] cI)
  {A_Machine:Addr} (c_Machine:ClsAt K "Machine" A_Machine)
  (na_Machine_steps:eX K A_Machine (Str.ofString "steps"))
  {X_NoLoop:Addr} {bm_NoLoop:List Value} (e_NoLoop:ExcAt K "NoLoop" X_NoLoop bm_NoLoop)
  (ge_NoLoop:mg (Str.ofString "NoLoop")=some (.ref X_NoLoop))
  {t_LETTERS:Tok} (g_LETTERS:mg "LETTERS" = some (.str "abc" t_LETTERS)):FnOk P w K mg base (CX1 P w) 7 fa fd ["machine", "bits", "room"] (spE K 3 gF):=by
 refine bB8 (k:=6) (sm:=false) F aA0 3 6 uX rfl rfl fun cdv A outer s H E B W hr hL=>?_
 have nd:=aA0.nd
 refine yZ (s1:=false) (s2:=false) ?_ ?_
 ·exact aJm (aYy (s1:=false) (sY (iM (aV h_is_loop hr (by decide) (aD (aA 0) (aD (aA 1) (bC)))))) (aJn (aJm (x_raise hL e_NoLoop ge_NoLoop rfl (aD (sX [116,104,105,115,32,115,101,116,32,111,102,32,114,111,111,109,115,32,105,115,32,110,111,32,108,111,111,112]) (bC))))) (aT6))
 refine yZ (s1:=false) (s2:=false) ?_ ?_
 ·exact aJm (aYy (s1:=false) (sY (iM (aV h_has_room hr (by decide) (aD (aA 1) (aD (aA 2) (bC)))))) (aJn (aJm (x_raise hL e_NoLoop ge_NoLoop rfl (aD (sX [116,104,101,32,114,111,111,109,32,105,115,32,110,111,116,32,105,110,32,116,104,101,32,108,111,111,112]) (bC))))) (aT6))
 refine yZ (s1:=false) (s2:=false) ?_ ?_
 ·exact aBz (s1:=false) (jV (cD (eO hr.units) eQ (toP (aV h_rooms_of hr (by decide) (aD (aA 1) (bC)))) (toP (aBj (aD (aA 2) (bC)))) (bZ _)) (bF (cH (eV hr.units (toP (aHp [97,98,99] g_LETTERS)) (toP (aOn (toP (eV hr.units (toP (aJh c_Machine na_Machine_steps (toP (aA 0)))) (toP (aA 2)))) (aD (aA 2) (bC))))))) (fM))
 refine yZ (s1:=false) (s2:=false) ?_ ?_
 ·exact aBz (s1:=false) (cM 3 (sX []) nd)
 refine yZ (s1:=false) (s2:=false) ?_ ?_
 ·exact aBz (s1:=false) (cM 4 (aA 2) nd)
 refine yZ (s1:=false) (s2:=false) ?_ ?_
 ·exact aBz (s1:=false) (lO (pN (aV h_rooms_of hr (by decide) (aD (aA 1) (bC)))) (cN 5 nd) (bF (jV (cD (kE hr.units) kI (toP (aA 5)) (toP (aVk (pl:=_) (MethOkF.plain m_Machine_rooms_along_0) hr (by decide) (aA 0) (aD (aA 2) (aD (aA 3) (bC))))) rfl) (aO (by exact cM 3 (jP (toP (aA 3)) (toP (aV h_way_in hr (by decide) (aD (aA 0) (aD (aA 1) (aD (aA 4) (aD (aA 5) (bC)))))))) nd) (by exact bF (cM 4 (aA 5) nd))) (fM))) PassesOwn.leaving rfl)
 exact aJn (aBz (s1:=false) (cH (jP (toP (aA 3)) (toP (aV h_way_in hr (by decide) (aD (aA 0) (aD (aA 1) (aD (aA 4) (aD (aA 2) (bC))))))))))
theorem xP{fa:Addr}{fd:FuncData}{dV:Value}(F:FunD K "_law_round_told" "_law_round_told" dF dV fa fd)
  (h_round_in:DefOkX P w K mg base "round_in" 7 3 gF)
  {X_NoLoop:Addr} {bm_NoLoop:List Value} (e_NoLoop:ExcAt K "NoLoop" X_NoLoop bm_NoLoop)
  (ge_NoLoop:mg (Str.ofString "NoLoop")=some (.ref X_NoLoop))
  (ia_NoLoop_NoLoop:IsA K X_NoLoop true "NoLoop")
  (ia_NoLoop_NoMachine:IsA K X_NoLoop false "NoMachine"):FnOk P w K mg base CX0 8 fa fd ["_law_machine_here", "_law_bits", "_law_room"] (spI K 3 eE):=by
 refine eU (k:=7) F nO 3 4 fY rfl rfl fun cdv A outer s H E B hr=>?_
 have nd:=nO.nd
 refine aO ?_ ?_
 ·exact cM 3 (aFn) nd
 refine aO ?_ ?_
 ·exact aZ0 (fun _ _ _ hL1=>aJn (aYz 3 (aR9 h_round_in hL1 hr (by decide) (aD (aA 0) (aD (aA 1) (aD (aA 2) (bC))))) nd)) (aOg e_NoLoop ge_NoLoop (by intro c hc;simp only [List.mem_cons,List.not_mem_nil,or_false] at hc;rcases hc with rfl<;>assumption) (by intro c hc;simp only [List.mem_cons,List.not_mem_nil,or_false] at hc;rcases hc with rfl<;>assumption) (fun _=>bF (cM 3 (sX []) nd)) (aRa))
 exact bF (cH (aA 3))
theorem aCh {fa : Addr} {fd : FuncData} {dV : Value} (F : FunD K "_law_walked" "_law_walked" fU dV fa fd)
     : FnOk P w K mg base CX0 1 fa fd ["_law_steps", "_law_room", "_law_word"] (spI K 3 lF):=by
 refine eU (k:=0) F tE 3 5 uH rfl rfl fun cdv A outer s H E B hr=>?_
 have nd:=tE.nd
 refine aO ?_ ?_
 ·exact vL 3 (aBl (bC)) nd
 refine aO ?_ ?_
 ·exact lO (pN (aA 2)) (cN 4 nd) (aO (by exact cM 1 (eV hr.units (toP (eV hr.units (toP (aA 0)) (toP (aA 1)))) (toP (aR0 (toP (sX [97,98,99])) (aD (aA 4) (bC))))) nd) (by exact bF (aBv 3 (aA 1)))) PassesOwn.never rfl
 exact bF (aFr [3] (cH (aA 3)))
theorem xQ{fa:Addr}{fd:FuncData}{dV:Value}(F:FunD K "_law_round_good" "_law_round_good" dG dV fa fd)
  (h__law_walked:DefOk P w K mg base "_law_walked" 1 3 lF)
  (b_isinstance:mg "isinstance" = none)
  (b_str:mg "str" = none)
  (b_len:mg "len" = none)
  (b_range:mg "range" = none)
  (b_sorted:mg "sorted" = none)
  (b_set:mg "set" = none):FnOk P w K mg base CX0 2 fa fd ["_law_steps", "_law_bits", "_law_room", "_law_word"] (spI K 4 fZ):=by
 refine eU (k:=1) F nP 4 8 nW rfl rfl fun cdv A outer s H E B hr=>?_
 have nd:=nP.nd
 refine aO ?_ ?_
 ·exact jV (PW.pt (aNw (sY (iM (pO ty_str b_isinstance b_str (toP (aA 3))))) (aNw (cD (eO hr.units) eQ (toP (aA 3)) (toP (sX [])) (bZ _)) (aJ9 (cD aIc aE8 (toP (dN b_len (toP (aA 3)))) (toP (nJ (toP (dN b_len (toP (aA 0)))) (toP (dN b_len (toP (aA 0)))))) (bZ _)))))) (bF (cH (aCc))) (fM)
 refine aO ?_ ?_
 ·exact lO (pN (aA 3)) (cN 4 nd) (bF (jV (cD (kE hr.units) kI (toP (aA 4)) (toP (aYn (toP (sX [97,98,99])) (aVh) (aHs (toP (dN b_len (toP (eV hr.units (toP (aA 0)) (toP (aN))))))))) rfl) (bF (cH (aCc))) (fM))) PassesOwn.never rfl
 refine aO ?_ ?_
 ·exact cM 5 (aV h__law_walked hr (by decide) (aD (aA 0) (aD (aA 2) (aD (aA 3) (bC))))) nd
 refine aO ?_ ?_
 ·exact aBx 6  [7] nF (.of rfl) (uJ b_range (toP (dN b_len (toP (aA 0))))) (fun _ _ _ _ _=>cN 7 nd) (fun _ _ _ _ _=>cD (eO hr.units) eQ (toP (qW (toP (zW (toP (aA 1)) (toP (aA 7)))) (toP (aN)))) (toP (aN)) (bZ _)) (fun _ _ _ _ _=>aA 7) rfl nd
 exact bF (cH (uI (iK (eO hr.units) eQ (toP (aOu b_sorted b_set rfl (toP (aA 5)))) (toP (aA 6)) (bZ _)) (uI (iK (eO hr.units) eQ (toP (eV hr.units (toP (aA 5)) (toP (aYu (toP (aN)))))) (toP (aA 2)) (bZ _)) (vI (iK aRy aNv (toP (dN b_len (toP (aA 3)))) (toP (nJ (toP (dN b_len (toP (aA 6)))) (toP (dN b_len (toP (aA 6)))))) (bZ _))))))
theorem zA{fa:Addr}{fd:FuncData}{dV:Value}(F:FunD K "_law_distances" "_law_distances" dO dV fa fd)
  (b_range:mg "range" = none)
  (b_len:mg "len" = none):FnOk P w K mg base CX0 1 fa fd ["_law_steps", "_law_allowed", "_law_goal"] (spI K 3 gP):=by
 refine eU (k:=0) F oE 3 7 pI rfl rfl fun cdv A outer s H E B hr=>?_
 have nd:=oE.nd
 refine aO ?_ ?_
 ·exact aJp 3 (aA 2) (aN) nd
 refine aO ?_ ?_
 ·exact lO (uJ b_range (toP (dN b_len (toP (aA 0))))) (cN 4 nd) (bF (lO (uJ b_range (toP (dN b_len (toP (aA 0))))) (cN 5 nd) (bF (jV (PW.pt (aBi (cD (eO hr.units) eQ (toP (qW (toP (zW (toP (aA 1)) (toP (aA 5)))) (toP (aN)))) (toP (aN)) (bZ _)) (vJ (cD (kE hr.units) kI (toP (aA 5)) (jY 3) rfl)))) (bF (jV (cD (yV hr.units) yW (toP (wZ [6] nF (.of rfl) (pN (eV hr.units (toP (aA 0)) (toP (aA 5)))) (fun _ _ _ _ _=>cN 6 nd) (fun _ _ _ _ _=>cD (eO hr.units) eQ (toP (aOw hr.units (jY 3) (aA 6) (aN))) (toP (aA 4)) (bZ _)) (fun _ _ _ _ _=>aA 6) rfl)) (toP (aBj (bC))) (bZ _)) (bF (aEj hr.units 3 (aA 5) (jP (toP (aA 4)) (toP (aN))))) (fM))) (fM))) PassesOwn.never rfl)) PassesOwn.never rfl
 exact bF (aFr [3] (cH (aA 3)))
theorem aI5{fa:Addr}{fd:FuncData}{dV:Value}(F:FunD K "_law_way" "_law_way" lA dV fa fd)
  (h__law_distances:DefOk P w K mg base "_law_distances" 1 3 gP)
  (b_range:mg "range" = none)
  (b_len:mg "len" = none):FnOk P w K mg base CX0 2 fa fd ["_law_steps", "_law_allowed", "_law_room", "_law_goal"] (spI K 4 iW):=by
 refine eU (k:=1) F aA1 4 8 aAv rfl rfl fun cdv A outer s H E B hr=>?_
 have nd:=aA1.nd
 refine aO ?_ ?_
 ·exact jV (PW.pt (aNw (cD (eO hr.units) eQ (toP (qW (toP (zW (toP (aA 1)) (toP (aA 2)))) (toP (aN)))) (toP (aN)) (bZ _)) (aJ9 (cD (eO hr.units) eQ (toP (qW (toP (zW (toP (aA 1)) (toP (aA 3)))) (toP (aN)))) (toP (aN)) (bZ _))))) (bF (cH (aFn))) (fM)
 refine aO ?_ ?_
 ·exact cM 4 (aV h__law_distances hr (by decide) (aD (aA 0) (aD (aA 1) (aD (aA 3) (bC))))) nd
 refine aO ?_ ?_
 ·exact jV (cD (kE hr.units) kI (toP (aA 2)) (toP (aA 4)) rfl) (bF (cH (aFn))) (fM)
 refine aO ?_ ?_
 ·exact cM 5 (sX []) nd
 refine aO ?_ ?_
 ·exact aEc 100000 (cD (yV hr.units) yW (toP (aA 2)) (toP (aA 3)) (bZ _)) (aO (by exact aBx 6  [7] nF (.of rfl) (uJ b_range (toP (dN b_len (toP (eV hr.units (toP (aA 0)) (toP (aA 2))))))) (fun _ _ _ _ _=>cN 7 nd) (fun _ _ _ _ _=>cD (eO hr.units) eQ (toP (aOw hr.units (toP (aA 4)) (eV hr.units (toP (eV hr.units (toP (aA 0)) (toP (aA 2)))) (toP (aA 7))) (aN))) (toP (aT0 (toP (eV hr.units (toP (aA 4)) (toP (aA 2)))) (toP (aN)))) (bZ _)) (fun _ _ _ _ _=>aA 7) rfl nd) (by exact aO (by exact cM 5 (jP (toP (aA 5)) (toP (eV hr.units (toP (sX [97,98,99])) (toP (eV hr.units (toP (aA 6)) (toP (aN))))))) nd) (by exact bF (cM 2 (eV hr.units (toP (eV hr.units (toP (aA 0)) (toP (aA 2)))) (toP (eV hr.units (toP (aA 6)) (toP (aN))))) nd)))) PassesOwn.never
 exact bF (cH (aA 5))
theorem zB{fa:Addr}{fd:FuncData}{dV:Value}(F:FunD K "is_filled_list" "is_filled_list" dR dV fa fd)
  (b_isinstance:mg "isinstance" = none)
  (b_list:mg "list" = none)
  (b_len:mg "len" = none):FnOk P w K mg base CX0 1 fa fd ["thing", "most"] (spI K 2 cZ):=by
 refine eU (k:=0) F oF 2 2 jW rfl rfl fun cdv A outer s H E B hr=>?_
 have nd:=oF.nd
 exact bF (cH (uI (pO ty_list b_isinstance b_list (toP (aA 0))) (uI (iK aLx aHr (toP (dN b_len (toP (aA 0)))) (toP (aN)) (bZ _)) (vI (iK aRy aNv (toP (dN b_len (toP (aA 0)))) (toP (aA 1)) (bZ _))))))
theorem aI6{fa:Addr}{fd:FuncData}{dV:Value}(F:FunD K "is_whole" "is_whole" lB dV fa fd)
  (b_isinstance:mg "isinstance" = none)
  (b_int:mg "int" = none)
  (b_bool:mg "bool" = none):FnOk P w K mg base CX0 1 fa fd ["thing"] (spI K 1 iY):=by
 refine eU (k:=0) F aA2 1 1 uY rfl rfl fun cdv A outer s H E B hr=>?_
 have nd:=aA2.nd
 exact bF (cH (uI (pO ty_int b_isinstance b_int (toP (aA 0))) (vI (aYi (pO ty_bool b_isinstance b_bool (toP (aA 0)))))))
theorem aI7{fa:Addr}{fd:FuncData}{dV:Value}(F:FunD K "is_below" "is_below" lC dV fa fd)
  (h_is_whole:DefOk P w K mg base "is_whole" 1 1 iY):FnOk P w K mg base CX0 2 fa fd ["thing", "limit"] (spI K 2 nD):=by
 refine eU (k:=1) F aA3 2 2 uZ rfl rfl fun cdv A outer s H E B hr=>?_
 have nd:=aA3.nd
 exact bF (cH (uI (aV h_is_whole hr (by decide) (aD (aA 0) (bC))) (uI (iK aLx aHr (toP (aA 0)) (toP (aN)) (bZ _)) (vI (iK aIb aAj (toP (aA 0)) (toP (aA 1)) (bZ _))))))
theorem aOz{fa:Addr}{fd:FuncData}{dV:Value}(F:FunD K "is_row" "is_row" pR dV fa fd)
  (h_is_below:DefOk P w K mg base "is_below" 2 2 nD)
  (b_len:mg "len" = none)
  (b_all:mg "all" = none):FnOk P w K mg base CX0 3 fa fd ["thing", "letters", "rooms"] (spI K 3 wK):=by
 refine eU (k:=2) F aDh 3 4 aAw rfl rfl fun cdv A outer s H E B hr=>?_
 have nd:=aDh.nd
 exact bF (cH (uI (iK (eO hr.units) eQ (toP (dN b_len (toP (aA 0)))) (toP (aA 1)) (bZ _)) (vI (aJl b_all rfl (toP (yS [3] nF (.of rfl) (pN (aA 0)) (fun _ _ _ _ _=>cN 3 nd) (fun _ _ _ _ _=>aV h_is_below hr (by decide) (aD (aA 3) (aD (aA 2) (bC)))) rfl))))))
theorem aGj{fa:Addr}{fd:FuncData}{dV:Value}(F:FunD K "are_steps" "are_steps" jJ dV fa fd)
  (h_is_filled_list:DefOk P w K mg base "is_filled_list" 1 2 cZ)
  (h_is_row:DefOk P w K mg base "is_row" 3 3 wK)
  (b_all:mg "all" = none)
  (b_len:mg "len" = none)
  {t_MOST_ROOMS:Tok} (g_MOST_ROOMS:mg "MOST_ROOMS" = some (.int 8 t_MOST_ROOMS))
  {t_MOST_LETTERS:Tok} (g_MOST_LETTERS:mg "MOST_LETTERS" = some (.int 3 t_MOST_LETTERS)):FnOk P w K mg base CX0 4 fa fd ["thing"] (spI K 1 nY):=by
 refine eU (k:=3) F xN 1 2 sO rfl rfl fun cdv A outer s H E B hr=>?_
 have nd:=xN.nd
 refine aO ?_ ?_
 ·exact jV (sY (iM (aV h_is_filled_list hr (by decide) (aD (aA 0) (aD (aNu g_MOST_ROOMS) (bC)))))) (bF (cH (aCc))) (fM)
 refine aO ?_ ?_
 ·exact jV (sY (iM (aJl b_all rfl (toP (yS [1] nF (.of rfl) (pN (aA 0)) (fun _ _ _ _ _=>cN 1 nd) (fun _ _ _ _ _=>aV h_is_filled_list hr (by decide) (aD (aA 1) (aD (aNu g_MOST_LETTERS) (bC)))) rfl))))) (bF (cH (aCc))) (fM)
 exact bF (cH (aJl b_all rfl (toP (yS [1] nF (.of rfl) (pN (aA 0)) (fun _ _ _ _ _=>cN 1 nd) (fun _ _ _ _ _=>aV h_is_row hr (by decide) (aD (aA 1) (aD (dN b_len (toP (eV hr.units (toP (aA 0)) (toP (aN))))) (aD (dN b_len (toP (aA 0))) (bC))))) rfl))))
theorem aGk{fa:Addr}{fd:FuncData}{dV:Value}(F:FunD K "are_ranks" "are_ranks" jK dV fa fd)
  (h_is_whole:DefOk P w K mg base "is_whole" 1 1 iY)
  (b_isinstance:mg "isinstance" = none)
  (b_list:mg "list" = none)
  (b_len:mg "len" = none)
  (b_all:mg "all" = none):FnOk P w K mg base CX0 2 fa fd ["thing", "rooms"] (spI K 2 nZ):=by
 refine eU (k:=1) F xO 2 3 sS rfl rfl fun cdv A outer s H E B hr=>?_
 have nd:=xO.nd
 refine aO ?_ ?_
 ·exact jV (PW.pt (aNw (sY (iM (pO ty_list b_isinstance b_list (toP (aA 0))))) (aJ9 (cD (yV hr.units) yW (toP (dN b_len (toP (aA 0)))) (toP (aA 1)) (bZ _))))) (bF (cH (aCc))) (fM)
 exact bF (cH (aJl b_all rfl (toP (yS [2] nF (.of rfl) (pN (aA 0)) (fun _ _ _ _ _=>cN 2 nd) (fun _ _ _ _ _=>uI (aV h_is_whole hr (by decide) (aD (aA 2) (bC))) (vI (iK aLx aHr (toP (aA 2)) (toP (aN)) (bZ _)))) rfl))))
theorem vP{fa:Addr}{fd:FuncData}(F:Fun K "__init__" "Machine.__init__" dB fa fd)
  (h_are_steps:DefOk P w K mg base "are_steps" 4 1 nY)
  (h_are_ranks:DefOk P w K mg base "are_ranks" 2 2 nZ)
  {A_Machine:Addr} (c_Machine:ClsAt K "Machine" A_Machine)
  (na_Machine_steps:eX K A_Machine (Str.ofString "steps"))
  (na_Machine_ranks:eX K A_Machine (Str.ofString "ranks"))
  (na_Machine_many:eX K A_Machine (Str.ofString "many"))
  (na_Machine_letters:eX K A_Machine (Str.ofString "letters"))
  (b_len:mg "len" = none)
  (b_list:mg "list" = none):FnOk P w K mg base CX0 5 fa fd ["self", "steps", "ranks"] (spM K "Machine" 2 fO):=by
 refine aR3 (k:=4) F mC "Machine" 2 4 dW rfl rfl fun cdv A outer s H E B hr=>?_
 have nd:=mC.nd
 refine aO ?_ ?_
 ·exact jV (sY (iM (aV h_are_steps hr (by decide) (aD (aA 1) (bC))))) (bF (aJi)) (fM)
 refine aO ?_ ?_
 ·exact jV (sY (iM (aV h_are_ranks hr (by decide) (aD (aA 2) (aD (dN b_len (toP (aA 1))) (bC)))))) (bF (aJi)) (fM)
 refine aO ?_ ?_
 ·exact aEk 0 c_Machine na_Machine_steps (yS [3] nF (.of rfl) (pN (aA 1)) (fun _ _ _ _ _=>cN 3 nd) (fun _ _ _ _ _=>aEm b_list (toP (aA 3))) rfl)
 refine aO ?_ ?_
 ·exact aEk 0 c_Machine na_Machine_ranks (aEm b_list (toP (aA 2)))
 refine aO ?_ ?_
 ·exact aEk 0 c_Machine na_Machine_many (dN b_len (toP (aA 1)))
 exact bF (aEk 0 c_Machine na_Machine_letters (dN b_len (toP (eV hr.units (toP (aA 1)) (toP (aN))))))
theorem aZ1{fa:Addr}{fd:FuncData}{dV:Value}(F:FunD K "law" "law" xJ dV fa fd)
  (h__law_machine:DefOk P w K mg base "_law_machine" 2 3 gD)
  (h__law_loops:DefOk P w K mg base "_law_loops" 3 1 mG)
  (h__law_cell:DefOk P w K mg base "_law_cell" 1 2 dC)
  (h__law_round_told:DefOk P w K mg base "_law_round_told" 8 3 eE)
  (h__law_round_good:DefOk P w K mg base "_law_round_good" 2 4 fZ)
  (h__law_mix:DefOk P w K mg base "_law_mix" 1 3 bL)
  (h_way_in:DefOk P w K mg base "way_in" 3 4 fP)
  (h__law_way:DefOk P w K mg base "_law_way" 2 4 iW)
  (k_Machine:MakeOk P w K mg base "Machine" 5 2 fO)
  (b_list:mg "list" = none)
  (b_len:mg "len" = none)
  (b_range:mg "range" = none)
  (b_isinstance:mg "isinstance" = none)
  (b_str:mg "str" = none):FnOk P w K mg base CX0 9 fa fd ["_law_script"] (spI K 1 aCu):=by
 refine eU (k:=8) F aOx 1 14 aSv rfl rfl fun cdv A outer s H E B hr=>?_
 have nd:=aOx.nd
 refine aO ?_ ?_
 ·exact aYl (aV h__law_machine hr (by decide) (aD (aA 0) (aD (aN) (aD (aN) (bC))))) (aT2 rfl (aAf 6 (aAf 7 (aNy) nd) nd))
 refine aO ?_ ?_
 ·exact cM 1 (aVl k_Machine hr (by decide) (aD (yS [13] nF (.of rfl) (pN (aA 6)) (fun _ _ _ _ _=>cN 13 nd) (fun _ _ _ _ _=>aEm b_list (toP (aA 13))) rfl) (aD (aEm b_list (toP (aA 7))) (bC)))) nd
 refine aO ?_ ?_
 ·exact cM 2 (dN b_len (toP (aA 6))) nd
 refine aO ?_ ?_
 ·exact cM 3 (aV h__law_loops hr (by decide) (aD (aA 6) (bC))) nd
 refine aO ?_ ?_
 ·exact lO (uJ b_range (toP (aDd (toP (aN)) (toP (aA 2))))) (cN 4 nd) (aO (by exact cM 8 (rC (toP (jP (toP (aV h__law_cell hr (by decide) (aD (aA 0) (aD (aN) (bC))))) (toP (aA 4)))) (toP (aA 2))) nd) (by exact aO (by exact cM 9 (aV h__law_round_told hr (by decide) (aD (aA 1) (aD (aA 4) (aD (aA 8) (bC))))) nd) (by exact bF (jV (PW.pt (aBi (cD (aEh hr.units) aEi (toP (aA 4)) (toP (aA 3)) rfl) (vJ (cD (eO hr.units) eQ (toP (qW (toP (zW (toP (aA 4)) (toP (aA 8)))) (toP (aN)))) (toP (aN)) (bZ _))))) (bF (jV (sY (iM (aV h__law_round_good hr (by decide) (aD (aA 6) (aD (aA 4) (aD (aA 8) (aD (aA 9) (bC)))))))) (bF (cH (aCc))) (fM))) (bF (jV (cD (yV hr.units) yW (toP (aA 9)) (toP (sX [])) (bZ _)) (bF (cH (aCc))) (fM))))))) PassesOwn.never rfl
 refine aO ?_ ?_
 ·exact lO (pN (aYn (toP (aA 0)) (aHs (toP (aN))) (aHs (toP (aN))))) (cN 5 nd) (aO (by exact cM 10 (aV h__law_mix hr (by decide) (aD (aA 5) (aD (aN) (aD (aDd (toP (aN)) (toP (aA 2))) (bC))))) nd) (by exact aO (by exact jV (cD (eO hr.units) eQ (toP (aV h__law_mix hr (by decide) (aD (aA 5) (aD (aN) (aD (aN) (bC)))))) (toP (aN)) (bZ _)) (bF (cM 10 (aT0 (toP (aDd (toP (aN)) (toP (aA 2)))) (toP (aN))) nd)) (fM)) (by exact aO (by exact cM 8 (aV h__law_mix hr (by decide) (aD (aA 5) (aD (aN) (aD (aA 2) (bC))))) nd) (by exact aO (by exact cM 11 (aV h__law_mix hr (by decide) (aD (aA 5) (aD (aN) (aD (aA 2) (bC))))) nd) (by exact aO (by exact cM 12 (aV h_way_in hr (by decide) (aD (aA 1) (aD (aA 10) (aD (aA 8) (aD (aA 11) (bC)))))) nd) (by exact bF (jV (PW.pt (aNw (PW.pt (aBi (cD aKx aKy (toP (aA 12)) (toP (aFn)) (bZ _)) (vJ (sY (iM (pO ty_str b_isinstance b_str (toP (aA 12)))))))) (aJ9 (cD (yV hr.units) yW (toP (aA 12)) (toP (aV h__law_way hr (by decide) (aD (aA 6) (aD (aA 10) (aD (aA 8) (aD (aA 11) (bC))))))) (bZ _))))) (bF (cH (aCc))) (fM)))))))) PassesOwn.never rfl
 exact bF (cH (aCc))
end
theorem all_mk{l:PySem.W.OpenLaw}{w:World}{K:PySem.W.Frag}{h:Heap}{mg:Str->Option Value}{fa:Addr}{BE newE initE:String}{bmE:List Value}(FE:ExcBaseFacts BE newE initE bmE)(X:K.In h)(G:h.Ns mainGlobals mg)(hfa:mg "law" = some (.ref fa))
  {A_Machine:Addr} {X_NoLoop:Addr} {X_NoMachine:Addr} {f1:Addr} {od1 an1:Option Addr} {sl1:Array (Option Value)} {oc1 kV1 dc1 pm1 cd1 ct1:Value} {f2:Addr} {od2 an2:Option Addr} {sl2:Array (Option Value)} {oc2 kV2 dc2 pm2 cd2 ct2:Value} {f3:Addr} {od3 an3:Option Addr} {sl3:Array (Option Value)} {oc3 kV3 dc3 pm3 cd3 ct3:Value} {f4:Addr} {od4 an4:Option Addr} {sl4:Array (Option Value)} {oc4 kV4 dc4 pm4 cd4 ct4:Value} {f5:Addr} {od5 an5:Option Addr} {sl5:Array (Option Value)} {oc5 kV5 dc5 pm5 cd5 ct5:Value} {f6:Addr} {od6 an6:Option Addr} {sl6:Array (Option Value)} {oc6 kV6 dc6 pm6 cd6 ct6:Value} {f7:Addr} {od7 an7:Option Addr} {sl7:Array (Option Value)} {oc7 kV7 dc7 pm7 cd7 ct7:Value} {f8:Addr} {od8 an8:Option Addr} {sl8:Array (Option Value)} {oc8 kV8 dc8 pm8 cd8 ct8:Value} {f9:Addr} {od9 an9:Option Addr} {sl9:Array (Option Value)} {oc9 kV9 dc9 pm9 cd9 ct9:Value} {f10:Addr} {od10 an10:Option Addr} {sl10:Array (Option Value)} {oc10 kV10 dc10 pm10 cd10 ct10:Value} {f11:Addr} {od11 an11:Option Addr} {sl11:Array (Option Value)} {oc11 kV11 dc11 pm11 cd11 ct11:Value} {f12:Addr} {od12 an12:Option Addr} {sl12:Array (Option Value)} {oc12 kV12 dc12 pm12 cd12 ct12:Value} {f13:Addr} {od13 an13:Option Addr} {sl13:Array (Option Value)} {oc13 kV13 dc13 pm13 cd13 ct13:Value} {f14:Addr} {od14 an14:Option Addr} {sl14:Array (Option Value)} {oc14 kV14 dc14 pm14 cd14 ct14:Value} {f15:Addr} {od15 an15:Option Addr} {sl15:Array (Option Value)} {oc15 kV15 dc15 pm15 cd15 ct15:Value} {f16:Addr} {od16 an16:Option Addr} {sl16:Array (Option Value)} {oc16 kV16 dc16 pm16 cd16 ct16:Value} {f17:Addr} {od17 an17:Option Addr} {sl17:Array (Option Value)} {oc17 kV17 dc17 pm17 cd17 ct17:Value} {f18:Addr} {od18 an18:Option Addr} {sl18:Array (Option Value)} {oc18 kV18 dc18 pm18 cd18 ct18:Value} {f19:Addr} {od19 an19:Option Addr} {sl19:Array (Option Value)} {oc19 kV19 dc19 pm19 cd19 ct19:Value} {f20:Addr} {od20 an20:Option Addr} {sl20:Array (Option Value)} {oc20 kV20 dc20 pm20 cd20 ct20:Value} {f21:Addr} {od21 an21:Option Addr} {sl21:Array (Option Value)} {oc21 kV21 dc21 pm21 cd21 ct21:Value} {f22:Addr} {od22 an22:Option Addr} {sl22:Array (Option Value)} {oc22 kV22 dc22 pm22 cd22 ct22:Value} {f23:Addr} {od23 an23:Option Addr} {sl23:Array (Option Value)} {oc23 kV23 dc23 pm23 cd23 ct23:Value} {f24:Addr} {od24 an24:Option Addr} {sl24:Array (Option Value)} {oc24 kV24 dc24 pm24 cd24 ct24:Value} {f25:Addr} {od25 an25:Option Addr} {sl25:Array (Option Value)} {oc25 kV25 dc25 pm25 cd25 ct25:Value} {f26:Addr} {od26 an26:Option Addr} {sl26:Array (Option Value)} {oc26 kV26 dc26 pm26 cd26 ct26:Value} {f27:Addr} {od27 an27:Option Addr} {sl27:Array (Option Value)} {oc27 kV27 dc27 pm27 cd27 ct27:Value} {f28:Addr} {od28 an28:Option Addr} {sl28:Array (Option Value)} {oc28 kV28 dc28 pm28 cd28 ct28:Value} {f29:Addr} {od29 an29:Option Addr} {sl29:Array (Option Value)} {oc29 kV29 dc29 pm29 cd29 ct29:Value} {f30:Addr} {od30 an30:Option Addr} {sl30:Array (Option Value)} {oc30 kV30 dc30 pm30 cd30 ct30:Value} {f31:Addr} {od31 an31:Option Addr} {sl31:Array (Option Value)} {oc31 kV31 dc31 pm31 cd31 ct31:Value} {t_LETTERS:Tok} {t_MOST_LETTERS:Tok} {t_MOST_ROOMS:Tok}
  (x_Machine:PySem.W.nsIn K mainGlobals (Str.ofString "Machine")=some (some (.ref A_Machine)))
  (x1_Machine:PySem.W.plainGet K A_Machine Str.empty=true)
  (x2_Machine:PySem.W.hasDictIn K A_Machine=true)
  (x3_Machine:PySem.W.plainOver K A_Machine=true)
  (x4_Machine:PySem.W.findIn K (.ref A_Machine) "__setattr__" = some (some (.builtin "object.__setattr__")))
  (x5_Machine:PySem.W.makesIn K A_Machine=true)
  (x6_Machine:PySem.W.keepIn K (.ref A_Machine)=true)
  (w_Machine_letters:PySem.W.findIn K (.ref A_Machine) (Str.ofString "letters")=some none)
  (w_Machine_many:PySem.W.findIn K (.ref A_Machine) (Str.ofString "many")=some none)
  (w_Machine_ranks:PySem.W.findIn K (.ref A_Machine) (Str.ofString "ranks")=some none)
  (w_Machine_steps:PySem.W.findIn K (.ref A_Machine) (Str.ofString "steps")=some none)
  (y3:PySem.W.specialIn K (.builtin "object.__class__") "__get__" = some (some (.builtin "getset_descriptor.__get__")))
  (y4:PySem.W.takesIn K (.builtin "object.__class__")=some true)
  (y_NoLoop:PySem.W.nsIn K mainGlobals (Str.ofString "NoLoop")=some (some (.ref X_NoLoop)))
  (y0_NoLoop:PySem.W.excIn K X_NoLoop bmE newE=true)
  (y1_NoLoop:PySem.W.findIn K (.ref X_NoLoop) "__getattribute__" = some (some (.builtin "BaseException.__getattribute__")))
  (y6_NoLoop:PySem.W.findIn K (.ref X_NoLoop) "__getattr__" = some none)
  (y7_NoLoop:PySem.W.mroIn K X_NoLoop (.type "BaseException")=some true)
  (y2_NoLoop:PySem.W.findIn K (.ref X_NoLoop) "__class__" = some (some (.builtin "object.__class__")))
  (y5_NoLoop:PySem.W.mroIn K X_NoLoop (.type "object")=some true)
  (y_NoMachine:PySem.W.nsIn K mainGlobals (Str.ofString "NoMachine")=some (some (.ref X_NoMachine)))
  (y0_NoMachine:PySem.W.excIn K X_NoMachine bmE newE=true)
  (y1_NoMachine:PySem.W.findIn K (.ref X_NoMachine) "__getattribute__" = some (some (.builtin "BaseException.__getattribute__")))
  (y6_NoMachine:PySem.W.findIn K (.ref X_NoMachine) "__getattr__" = some none)
  (y7_NoMachine:PySem.W.mroIn K X_NoMachine (.type "BaseException")=some true)
  (y2_NoMachine:PySem.W.findIn K (.ref X_NoMachine) "__class__" = some (some (.builtin "object.__class__")))
  (y5_NoMachine:PySem.W.mroIn K X_NoMachine (.type "object")=some true)
  (ja_NoLoop_NoLoop:PySem.W.mroIn K X_NoLoop (.ref X_NoLoop)=some true)
  (ja_NoLoop_NoMachine:PySem.W.mroIn K X_NoMachine (.ref X_NoLoop)=some false)
  (a1:PySem.W.nsIn K mainGlobals "_law_cell" = some (some (.ref f1)))
  (l1:K.lookup f1=some ⟨oc1,od1,.func (PySem.W.fnOf "_law_cell" "_law_cell" (bO jG) (bI jG) (aF jG) .none kV1 dc1 pm1 an1 cd1 ct1),sl1⟩)
  (c1:PySem.W.codeIn K cd1 "_law_cell" = true)
  (k1:PySem.W.keepIn K (.ref f1)=true)
  (a2:PySem.W.nsIn K mainGlobals "_law_mix" = some (some (.ref f2)))
  (l2:K.lookup f2=some ⟨oc2,od2,.func (PySem.W.fnOf "_law_mix" "_law_mix" (bO kO) (bI kO) (aF kO) .none kV2 dc2 pm2 an2 cd2 ct2),sl2⟩)
  (c2:PySem.W.codeIn K cd2 "_law_mix" = true)
  (k2:PySem.W.keepIn K (.ref f2)=true)
  (a3:PySem.W.nsIn K mainGlobals "_law_machine" = some (some (.ref f3)))
  (l3:K.lookup f3=some ⟨oc3,od3,.func (PySem.W.fnOf "_law_machine" "_law_machine" (bO fH) (bI fH) (aF fH) .none kV3 dc3 pm3 an3 cd3 ct3),sl3⟩)
  (c3:PySem.W.codeIn K cd3 "_law_machine" = true)
  (k3:PySem.W.keepIn K (.ref f3)=true)
  (a4:PySem.W.nsIn K mainGlobals "_law_ahead" = some (some (.ref f4)))
  (l4:K.lookup f4=some ⟨oc4,od4,.func (PySem.W.fnOf "_law_ahead" "_law_ahead" (bO gW) (bI gW) (aF gW) .none kV4 dc4 pm4 an4 cd4 ct4),sl4⟩)
  (c4:PySem.W.codeIn K cd4 "_law_ahead" = true)
  (k4:PySem.W.keepIn K (.ref f4)=true)
  (a5:PySem.W.nsIn K mainGlobals "_law_is_loop" = some (some (.ref f5)))
  (l5:K.lookup f5=some ⟨oc5,od5,.func (PySem.W.fnOf "_law_is_loop" "_law_is_loop" (bO fJ) (bI fJ) (aF fJ) .none kV5 dc5 pm5 an5 cd5 ct5),sl5⟩)
  (c5:PySem.W.codeIn K cd5 "_law_is_loop" = true)
  (k5:PySem.W.keepIn K (.ref f5)=true)
  (a6:PySem.W.nsIn K mainGlobals "_law_loops" = some (some (.ref f6)))
  (l6:K.lookup f6=some ⟨oc6,od6,.func (PySem.W.fnOf "_law_loops" "_law_loops" (bO gY) (bI gY) (aF gY) .none kV6 dc6 pm6 an6 cd6 ct6),sl6⟩)
  (c6:PySem.W.codeIn K cd6 "_law_loops" = true)
  (k6:PySem.W.keepIn K (.ref f6)=true)
  (a7:PySem.W.nsIn K mainGlobals "has_room" = some (some (.ref f7)))
  (l7:K.lookup f7=some ⟨oc7,od7,.func (PySem.W.fnOf "has_room" "has_room" (bO kW) (bI kW) (aF kW) .none kV7 dc7 pm7 an7 cd7 ct7),sl7⟩)
  (c7:PySem.W.codeIn K cd7 "has_room" = true)
  (k7:PySem.W.keepIn K (.ref f7)=true)
  (a8:PySem.W.nsIn K mainGlobals "rooms_of" = some (some (.ref f8)))
  (l8:K.lookup f8=some ⟨oc8,od8,.func (PySem.W.fnOf "rooms_of" "rooms_of" (bO kY) (bI kY) (aF kY) .none kV8 dc8 pm8 an8 cd8 ct8),sl8⟩)
  (c8:PySem.W.codeIn K cd8 "rooms_of" = true)
  (k8:PySem.W.keepIn K (.ref f8)=true)
  (a9:PySem.W.nsIn K mainGlobals "bits_of" = some (some (.ref f9)))
  (l9:K.lookup f9=some ⟨oc9,od9,.func (PySem.W.fnOf "bits_of" "bits_of" (bO mO) (bI mO) (aF mO) .none kV9 dc9 pm9 an9 cd9 ct9),sl9⟩)
  (c9:PySem.W.codeIn K cd9 "bits_of" = true)
  (k9:PySem.W.keepIn K (.ref f9)=true)
  (a10:PySem.W.nsIn K mainGlobals "seen_among" = some (some (.ref f10)))
  (l10:K.lookup f10=some ⟨oc10,od10,.func (PySem.W.fnOf "seen_among" "seen_among" (bO gZ) (bI gZ) (aF gZ) .none kV10 dc10 pm10 an10 cd10 ct10),sl10⟩)
  (c10:PySem.W.codeIn K cd10 "seen_among" = true)
  (k10:PySem.W.keepIn K (.ref f10)=true)
  (a11:PySem.W.nsIn K mainGlobals "goes_round" = some (some (.ref f11)))
  (l11:K.lookup f11=some ⟨oc11,od11,.func (PySem.W.fnOf "goes_round" "goes_round" (bO iB) (bI iB) (aF iB) .none kV11 dc11 pm11 an11 cd11 ct11),sl11⟩)
  (c11:PySem.W.codeIn K cd11 "goes_round" = true)
  (k11:PySem.W.keepIn K (.ref f11)=true)
  (a12:PySem.W.nsIn K mainGlobals "parts_among" = some (some (.ref f12)))
  (l12:K.lookup f12=some ⟨oc12,od12,.func (PySem.W.fnOf "parts_among" "parts_among" (bO fQ) (bI fQ) (aF fQ) .none kV12 dc12 pm12 an12 cd12 ct12),sl12⟩)
  (c12:PySem.W.codeIn K cd12 "parts_among" = true)
  (k12:PySem.W.keepIn K (.ref f12)=true)
  (a13:PySem.W.nsIn K mainGlobals "loop_parts" = some (some (.ref f13)))
  (l13:K.lookup f13=some ⟨oc13,od13,.func (PySem.W.fnOf "loop_parts" "loop_parts" (bO iC) (bI iC) (aF iC) .none kV13 dc13 pm13 an13 cd13 ct13),sl13⟩)
  (c13:PySem.W.codeIn K cd13 "loop_parts" = true)
  (k13:PySem.W.keepIn K (.ref f13)=true)
  (a14:PySem.W.nsIn K mainGlobals "is_loop" = some (some (.ref f14)))
  (l14:K.lookup f14=some ⟨oc14,od14,.func (PySem.W.fnOf "is_loop" "is_loop" (bO mQ) (bI mQ) (aF mQ) .none kV14 dc14 pm14 an14 cd14 ct14),sl14⟩)
  (c14:PySem.W.codeIn K cd14 "is_loop" = true)
  (k14:PySem.W.keepIn K (.ref f14)=true)
  (a15:PySem.W.nsIn K mainGlobals "ways_from" = some (some (.ref f15)))
  (l15:K.lookup f15=some ⟨oc15,od15,.func (PySem.W.fnOf "ways_from" "ways_from" (bO jH) (bI jH) (aF jH) .none kV15 dc15 pm15 an15 cd15 ct15),sl15⟩)
  (c15:PySem.W.codeIn K cd15 "ways_from" = true)
  (k15:PySem.W.keepIn K (.ref f15)=true)
  (a16:PySem.W.nsIn K mainGlobals "way_in" = some (some (.ref f16)))
  (l16:K.lookup f16=some ⟨oc16,od16,.func (PySem.W.fnOf "way_in" "way_in" (bO pQ) (bI pQ) (aF pQ) .none kV16 dc16 pm16 an16 cd16 ct16),sl16⟩)
  (c16:PySem.W.codeIn K cd16 "way_in" = true)
  (k16:PySem.W.keepIn K (.ref f16)=true)
  (a17:PySem.W.findIn K (.ref A_Machine) (Str.ofString "rooms_along")=some (some (.ref f17)))
  (e17:PySem.W.isFn K (.ref f17)=true)
  (l17:K.lookup f17=some ⟨oc17,od17,.func (PySem.W.fnOf "rooms_along" "Machine.rooms_along" (bO cJ) (bI cJ) (aF cJ) .none kV17 dc17 pm17 an17 cd17 ct17),sl17⟩)
  (c17:PySem.W.codeIn K cd17 "Machine.rooms_along" = true)
  (k17:PySem.W.keepIn K (.ref f17)=true)
  (a18:PySem.W.nsIn K mainGlobals "round_in" = some (some (.ref f18)))
  (l18:K.lookup f18=some ⟨oc18,od18,.func (PySem.W.fnOf "round_in" "round_in" (bO kZ) (bI kZ) (aF kZ) .none kV18 dc18 pm18 an18 cd18 ct18),sl18⟩)
  (c18:PySem.W.codeIn K cd18 "round_in" = true)
  (k18:PySem.W.keepIn K (.ref f18)=true)
  (a19:PySem.W.nsIn K mainGlobals "_law_round_told" = some (some (.ref f19)))
  (l19:K.lookup f19=some ⟨oc19,od19,.func (PySem.W.fnOf "_law_round_told" "_law_round_told" (bO dF) (bI dF) (aF dF) .none kV19 dc19 pm19 an19 cd19 ct19),sl19⟩)
  (c19:PySem.W.codeIn K cd19 "_law_round_told" = true)
  (k19:PySem.W.keepIn K (.ref f19)=true)
  (a20:PySem.W.nsIn K mainGlobals "_law_walked" = some (some (.ref f20)))
  (l20:K.lookup f20=some ⟨oc20,od20,.func (PySem.W.fnOf "_law_walked" "_law_walked" (bO fU) (bI fU) (aF fU) .none kV20 dc20 pm20 an20 cd20 ct20),sl20⟩)
  (c20:PySem.W.codeIn K cd20 "_law_walked" = true)
  (k20:PySem.W.keepIn K (.ref f20)=true)
  (a21:PySem.W.nsIn K mainGlobals "_law_round_good" = some (some (.ref f21)))
  (l21:K.lookup f21=some ⟨oc21,od21,.func (PySem.W.fnOf "_law_round_good" "_law_round_good" (bO dG) (bI dG) (aF dG) .none kV21 dc21 pm21 an21 cd21 ct21),sl21⟩)
  (c21:PySem.W.codeIn K cd21 "_law_round_good" = true)
  (k21:PySem.W.keepIn K (.ref f21)=true)
  (a22:PySem.W.nsIn K mainGlobals "_law_distances" = some (some (.ref f22)))
  (l22:K.lookup f22=some ⟨oc22,od22,.func (PySem.W.fnOf "_law_distances" "_law_distances" (bO dO) (bI dO) (aF dO) .none kV22 dc22 pm22 an22 cd22 ct22),sl22⟩)
  (c22:PySem.W.codeIn K cd22 "_law_distances" = true)
  (k22:PySem.W.keepIn K (.ref f22)=true)
  (a23:PySem.W.nsIn K mainGlobals "_law_way" = some (some (.ref f23)))
  (l23:K.lookup f23=some ⟨oc23,od23,.func (PySem.W.fnOf "_law_way" "_law_way" (bO lA) (bI lA) (aF lA) .none kV23 dc23 pm23 an23 cd23 ct23),sl23⟩)
  (c23:PySem.W.codeIn K cd23 "_law_way" = true)
  (k23:PySem.W.keepIn K (.ref f23)=true)
  (a24:PySem.W.nsIn K mainGlobals "is_filled_list" = some (some (.ref f24)))
  (l24:K.lookup f24=some ⟨oc24,od24,.func (PySem.W.fnOf "is_filled_list" "is_filled_list" (bO dR) (bI dR) (aF dR) .none kV24 dc24 pm24 an24 cd24 ct24),sl24⟩)
  (c24:PySem.W.codeIn K cd24 "is_filled_list" = true)
  (k24:PySem.W.keepIn K (.ref f24)=true)
  (a25:PySem.W.nsIn K mainGlobals "is_whole" = some (some (.ref f25)))
  (l25:K.lookup f25=some ⟨oc25,od25,.func (PySem.W.fnOf "is_whole" "is_whole" (bO lB) (bI lB) (aF lB) .none kV25 dc25 pm25 an25 cd25 ct25),sl25⟩)
  (c25:PySem.W.codeIn K cd25 "is_whole" = true)
  (k25:PySem.W.keepIn K (.ref f25)=true)
  (a26:PySem.W.nsIn K mainGlobals "is_below" = some (some (.ref f26)))
  (l26:K.lookup f26=some ⟨oc26,od26,.func (PySem.W.fnOf "is_below" "is_below" (bO lC) (bI lC) (aF lC) .none kV26 dc26 pm26 an26 cd26 ct26),sl26⟩)
  (c26:PySem.W.codeIn K cd26 "is_below" = true)
  (k26:PySem.W.keepIn K (.ref f26)=true)
  (a27:PySem.W.nsIn K mainGlobals "is_row" = some (some (.ref f27)))
  (l27:K.lookup f27=some ⟨oc27,od27,.func (PySem.W.fnOf "is_row" "is_row" (bO pR) (bI pR) (aF pR) .none kV27 dc27 pm27 an27 cd27 ct27),sl27⟩)
  (c27:PySem.W.codeIn K cd27 "is_row" = true)
  (k27:PySem.W.keepIn K (.ref f27)=true)
  (a28:PySem.W.nsIn K mainGlobals "are_steps" = some (some (.ref f28)))
  (l28:K.lookup f28=some ⟨oc28,od28,.func (PySem.W.fnOf "are_steps" "are_steps" (bO jJ) (bI jJ) (aF jJ) .none kV28 dc28 pm28 an28 cd28 ct28),sl28⟩)
  (c28:PySem.W.codeIn K cd28 "are_steps" = true)
  (k28:PySem.W.keepIn K (.ref f28)=true)
  (a29:PySem.W.nsIn K mainGlobals "are_ranks" = some (some (.ref f29)))
  (l29:K.lookup f29=some ⟨oc29,od29,.func (PySem.W.fnOf "are_ranks" "are_ranks" (bO jK) (bI jK) (aF jK) .none kV29 dc29 pm29 an29 cd29 ct29),sl29⟩)
  (c29:PySem.W.codeIn K cd29 "are_ranks" = true)
  (k29:PySem.W.keepIn K (.ref f29)=true)
  (a30:PySem.W.findIn K (.ref A_Machine) (Str.ofString "__init__")=some (some (.ref f30)))
  (e30:PySem.W.isFn K (.ref f30)=true)
  (l30:K.lookup f30=some ⟨oc30,od30,.func (PySem.W.fnOf "__init__" "Machine.__init__" (bO dB) (bI dB) (aF dB) .none kV30 dc30 pm30 an30 cd30 ct30),sl30⟩)
  (c30:PySem.W.codeIn K cd30 "Machine.__init__" = true)
  (k30:PySem.W.keepIn K (.ref f30)=true)
  (a31:PySem.W.nsIn K mainGlobals "law" = some (some (.ref f31)))
  (l31:K.lookup f31=some ⟨oc31,od31,.func (PySem.W.fnOf "law" "law" (bO xJ) (bI xJ) (aF xJ) .none kV31 dc31 pm31 an31 cd31 ct31),sl31⟩)
  (c31:PySem.W.codeIn K cd31 "law" = true)
  (k31:PySem.W.keepIn K (.ref f31)=true)
  (v_LETTERS:PySem.W.nsIn K mainGlobals "LETTERS" = some (some (.str "abc" t_LETTERS)))
  (v_MOST_LETTERS:PySem.W.nsIn K mainGlobals "MOST_LETTERS" = some (some (.int 3 t_MOST_LETTERS)))
  (v_MOST_ROOMS:PySem.W.nsIn K mainGlobals "MOST_ROOMS" = some (some (.int 8 t_MOST_ROOMS)))
  (z_all:PySem.W.nsIn K mainGlobals "all" = some none)
  (z_bool:PySem.W.nsIn K mainGlobals "bool" = some none)
  (z_int:PySem.W.nsIn K mainGlobals "int" = some none)
  (z_isinstance:PySem.W.nsIn K mainGlobals "isinstance" = some none)
  (z_len:PySem.W.nsIn K mainGlobals "len" = some none)
  (z_list:PySem.W.nsIn K mainGlobals "list" = some none)
  (z_range:PySem.W.nsIn K mainGlobals "range" = some none)
  (z_set:PySem.W.nsIn K mainGlobals "set" = some none)
  (z_sorted:PySem.W.nsIn K mainGlobals "sorted" = some none)
  (z_str:PySem.W.nsIn K mainGlobals "str" = some none)
  (z_zip:PySem.W.nsIn K mainGlobals "zip" = some none) :
  ∃ fd:FuncData,(∀ (s:Shared) (v:Value),BindsTo s fd ⟨[v],[]⟩ [("_law_script", v)])/\∀ base:Heap,K.In base->base.Ns mainGlobals mg->FnOk l.prog w K mg base CX0 9 fa fd ["_law_script"] (spI K 1 aCu):=by
 have e:=hfa.symm.trans (PySem.W.mg_of X G a31)
 cases e
 have c_Machine:ClsAt K "Machine" A_Machine:=⟨x_Machine,x1_Machine,x2_Machine,x3_Machine,x4_Machine⟩
 have na_Machine_letters:eX K A_Machine (Str.ofString "letters"):=w_Machine_letters
 have na_Machine_many:eX K A_Machine (Str.ofString "many"):=w_Machine_many
 have na_Machine_ranks:eX K A_Machine (Str.ofString "ranks"):=w_Machine_ranks
 have na_Machine_steps:eX K A_Machine (Str.ofString "steps"):=w_Machine_steps
 obtain ⟨bm_NoLoop,e_NoLoop⟩:=aG4 FE y_NoLoop y0_NoLoop y1_NoLoop y6_NoLoop y7_NoLoop y2_NoLoop y3 y4 y5_NoLoop
 have ge_NoLoop:=PySem.W.mg_of X G y_NoLoop
 obtain ⟨bm_NoMachine,e_NoMachine⟩:=aG4 FE y_NoMachine y0_NoMachine y1_NoMachine y6_NoMachine y7_NoMachine y2_NoMachine y3 y4 y5_NoMachine
 have ge_NoMachine:=PySem.W.mg_of X G y_NoMachine
 have ia_NoLoop_NoLoop:IsA K X_NoLoop true "NoLoop" := aOh X y_NoLoop ja_NoLoop_NoLoop
 have ia_NoLoop_NoMachine:IsA K X_NoLoop false "NoMachine" := aOh X y_NoMachine ja_NoLoop_NoMachine
 have F1:=cB (st:=jG) l1 c1 k1
 have b1:=F1.binds0 (ps:=["_law_script", "_law_k"]) fun _ _ _ _ _ _=>iR (fun _ _=>rfl)
 have F2:=cB (st:=kO) l2 c2 k2
 have b2:=F2.binds0 (ps:=["_law_cell_here", "_law_k", "_law_many"]) fun _ _ _ _ _ _=>iT (fun _ _ _=>rfl)
 have F3:=cB (st:=fH) l3 c3 k3
 have b3:=F3.binds0 (ps:=["_law_script", "_law_at", "_law_most"]) fun _ _ _ _ _ _=>iT (fun _ _ _=>rfl)
 have F4:=cB (st:=gW) l4 c4 k4
 have b4:=F4.binds0 (ps:=["_law_steps", "_law_bits", "_law_room"]) fun _ _ _ _ _ _=>iT (fun _ _ _=>rfl)
 have F5:=cB (st:=fJ) l5 c5 k5
 have b5:=F5.binds0 (ps:=["_law_steps", "_law_bits"]) fun _ _ _ _ _ _=>iR (fun _ _=>rfl)
 have F6:=cB (st:=gY) l6 c6 k6
 have b6:=F6.binds0 (ps:=["_law_steps"]) fun _ _ _ _ _ _=>qU (fun _=>rfl)
 have F7:=cB (st:=kW) l7 c7 k7
 have b7:=F7.binds0 (ps:=["bits", "room"]) fun _ _ _ _ _ _=>iR (fun _ _=>rfl)
 have F8:=cB (st:=kY) l8 c8 k8
 have b8:=F8.binds0 (ps:=["bits"]) fun _ _ _ _ _ _=>qU (fun _=>rfl)
 have F9:=cB (st:=mO) l9 c9 k9
 have b9:=F9.binds0 (ps:=["rooms"]) fun _ _ _ _ _ _=>qU (fun _=>rfl)
 have F10:=cB (st:=gZ) l10 c10 k10
 have b10:=F10.binds0 (ps:=["steps", "allowed"]) fun _ _ _ _ _ _=>iR (fun _ _=>rfl)
 have F11:=cB (st:=iB) l11 c11 k11
 have b11:=F11.binds0 (ps:=["steps", "part"]) fun _ _ _ _ _ _=>iR (fun _ _=>rfl)
 have F12:=cB (st:=fQ) l12 c12 k12
 have b12:=F12.binds0 (ps:=["steps", "allowed"]) fun _ _ _ _ _ _=>iR (fun _ _=>rfl)
 have F13:=cB (st:=iC) l13 c13 k13
 have b13:=F13.binds0 (ps:=["machine", "allowed"]) fun _ _ _ _ _ _=>iR (fun _ _=>rfl)
 have F14:=cB (st:=mQ) l14 c14 k14
 have b14:=F14.binds0 (ps:=["machine", "bits"]) fun _ _ _ _ _ _=>iR (fun _ _=>rfl)
 have F15:=cB (st:=jH) l15 c15 k15
 have b15:=F15.binds0 (ps:=["steps", "start", "allowed"]) fun _ _ _ _ _ _=>iT (fun _ _ _=>rfl)
 have F16:=cB (st:=pQ) l16 c16 k16
 have b16:=F16.binds0 (ps:=["machine", "allowed", "room", "goal"]) fun _ _ _ _ _ _=>aEo (fun _ _ _ _=>rfl)
 have F17:=cB (st:=cJ) l17 c17 k17
 have b17:=F17.binds0 (ps:=["self", "room", "text"]) fun _ _ _ _ _ _=>iT (fun _ _ _=>rfl)
 have F18:=cB (st:=kZ) l18 c18 k18
 have b18:=F18.binds0 (ps:=["machine", "bits", "room"]) fun _ _ _ _ _ _=>iT (fun _ _ _=>rfl)
 have F19:=cB (st:=dF) l19 c19 k19
 have b19:=F19.binds0 (ps:=["_law_machine_here", "_law_bits", "_law_room"]) fun _ _ _ _ _ _=>iT (fun _ _ _=>rfl)
 have F20:=cB (st:=fU) l20 c20 k20
 have b20:=F20.binds0 (ps:=["_law_steps", "_law_room", "_law_word"]) fun _ _ _ _ _ _=>iT (fun _ _ _=>rfl)
 have F21:=cB (st:=dG) l21 c21 k21
 have b21:=F21.binds0 (ps:=["_law_steps", "_law_bits", "_law_room", "_law_word"]) fun _ _ _ _ _ _=>aEo (fun _ _ _ _=>rfl)
 have F22:=cB (st:=dO) l22 c22 k22
 have b22:=F22.binds0 (ps:=["_law_steps", "_law_allowed", "_law_goal"]) fun _ _ _ _ _ _=>iT (fun _ _ _=>rfl)
 have F23:=cB (st:=lA) l23 c23 k23
 have b23:=F23.binds0 (ps:=["_law_steps", "_law_allowed", "_law_room", "_law_goal"]) fun _ _ _ _ _ _=>aEo (fun _ _ _ _=>rfl)
 have F24:=cB (st:=dR) l24 c24 k24
 have b24:=F24.binds0 (ps:=["thing", "most"]) fun _ _ _ _ _ _=>iR (fun _ _=>rfl)
 have F25:=cB (st:=lB) l25 c25 k25
 have b25:=F25.binds0 (ps:=["thing"]) fun _ _ _ _ _ _=>qU (fun _=>rfl)
 have F26:=cB (st:=lC) l26 c26 k26
 have b26:=F26.binds0 (ps:=["thing", "limit"]) fun _ _ _ _ _ _=>iR (fun _ _=>rfl)
 have F27:=cB (st:=pR) l27 c27 k27
 have b27:=F27.binds0 (ps:=["thing", "letters", "rooms"]) fun _ _ _ _ _ _=>iT (fun _ _ _=>rfl)
 have F28:=cB (st:=jJ) l28 c28 k28
 have b28:=F28.binds0 (ps:=["thing"]) fun _ _ _ _ _ _=>qU (fun _=>rfl)
 have F29:=cB (st:=jK) l29 c29 k29
 have b29:=F29.binds0 (ps:=["thing", "rooms"]) fun _ _ _ _ _ _=>iR (fun _ _=>rfl)
 have F30:=aU2 (st:=dB) l30 c30 k30
 have b30:=F30.binds (ps:=["self", "steps", "ranks"]) fun _ _ _ _ _ _=>iT (fun _ _ _=>rfl)
 have F31:=cB (st:=xJ) l31 c31 k31
 have b31:=F31.binds0 (ps:=["_law_script"]) fun _ _ _ _ _ _=>qU (fun _=>rfl)
 have b_all:=PySem.W.mg_none_of X G z_all
 have b_bool:=PySem.W.mg_none_of X G z_bool
 have b_int:=PySem.W.mg_none_of X G z_int
 have b_isinstance:=PySem.W.mg_none_of X G z_isinstance
 have b_len:=PySem.W.mg_none_of X G z_len
 have b_list:=PySem.W.mg_none_of X G z_list
 have b_range:=PySem.W.mg_none_of X G z_range
 have b_set:=PySem.W.mg_none_of X G z_set
 have b_sorted:=PySem.W.mg_none_of X G z_sorted
 have b_str:=PySem.W.mg_none_of X G z_str
 have b_zip:=PySem.W.mg_none_of X G z_zip
 have g_LETTERS:=PySem.W.mg_of X G v_LETTERS
 have g_MOST_LETTERS:=PySem.W.mg_of X G v_MOST_LETTERS
 have g_MOST_ROOMS:=PySem.W.mg_of X G v_MOST_ROOMS
 refine ⟨PySem.W.fnOf "law" "law" (bO xJ) (bI xJ) (aF xJ) .none kV31 dc31 pm31 an31 cd31 ct31,fun s v => .of_eq rfl,fun base _ _=>?_⟩
 have f__law_cell:=aGh (P:=l.prog) (w:=w) (mg:=mg) (base:=base) F1 b_len
 have h__law_cell:=DefOk.of f__law_cell (PySem.W.mg_of X G a1) F1.kp b1 bY
 have f__law_mix:=aI1 (P:=l.prog) (w:=w) (mg:=mg) (base:=base) F2 
 have h__law_mix:=DefOk.of f__law_mix (PySem.W.mg_of X G a2) F2.kp b2 bY
 have f__law_machine:=aC7 (P:=l.prog) (w:=w) (mg:=mg) (base:=base) F3 h__law_cell h__law_mix b_range
 have h__law_machine:=DefOk.of f__law_machine (PySem.W.mg_of X G a3) F3.kp b3 bY
 have f__law_ahead:=aEs (P:=l.prog) (w:=w) (mg:=mg) (base:=base) F4 b_len
 have h__law_ahead:=DefOk.of f__law_ahead (PySem.W.mg_of X G a4) F4.kp b4 bY
 have f__law_is_loop:=aC8 (P:=l.prog) (w:=w) (mg:=mg) (base:=base) F5 h__law_ahead b_range b_len
 have h__law_is_loop:=DefOk.of f__law_is_loop (PySem.W.mg_of X G a5) F5.kp b5 bY
 have f__law_loops:=aEt (P:=l.prog) (w:=w) (mg:=mg) (base:=base) F6 h__law_is_loop b_range b_len
 have h__law_loops:=DefOk.of f__law_loops (PySem.W.mg_of X G a6) F6.kp b6 bY
 have f_has_room:=aI2 (P:=l.prog) (w:=w) (mg:=mg) (base:=base) F7 
 have h_has_room:=DefOk.of f_has_room (PySem.W.mg_of X G a7) F7.kp b7 bY
 have f_rooms_of:=aI3 (P:=l.prog) (w:=w) (mg:=mg) (base:=base) F8 h_has_room b_range
 have h_rooms_of:=DefOk.of f_rooms_of (PySem.W.mg_of X G a8) F8.kp b8 bY
 have f_bits_of:=aLk (P:=l.prog) (w:=w) (mg:=mg) (base:=base) F9 
 have h_bits_of:=DefOk.of f_bits_of (PySem.W.mg_of X G a9) F9.kp b9 bY
 have f_seen_among:=aEu (P:=l.prog) (w:=w) (mg:=mg) (base:=base) F10 h_rooms_of h_bits_of h_has_room
 have h_seen_among:=DefOk.of f_seen_among (PySem.W.mg_of X G a10) F10.kp b10 bY
 have f_goes_round:=aEv (P:=l.prog) (w:=w) (mg:=mg) (base:=base) F11 h_rooms_of b_len
 have h_goes_round:=DefOk.of f_goes_round (PySem.W.mg_of X G a11) F11.kp b11 bY
 have f_parts_among:=aCg (P:=l.prog) (w:=w) (mg:=mg) (base:=base) F12 h_seen_among h_rooms_of h_bits_of h_has_room h_goes_round
 have h_parts_among:=DefOk.of f_parts_among (PySem.W.mg_of X G a12) F12.kp b12 bY
 have f_loop_parts:=aEw (P:=l.prog) (w:=w) (mg:=mg) (base:=base) F13 h_parts_among c_Machine na_Machine_steps
 have h_loop_parts:=DefOk.of f_loop_parts (PySem.W.mg_of X G a13) F13.kp b13 bY
 have f_is_loop:=aLl (P:=l.prog) (w:=w) (mg:=mg) (base:=base) F14 h_loop_parts
 have h_is_loop:=DefOk.of f_is_loop (PySem.W.mg_of X G a14) F14.kp b14 bY
 have f_ways_from:=aGi (P:=l.prog) (w:=w) (mg:=mg) (base:=base) F15 b_len b_zip g_LETTERS
 have h_ways_from:=DefOk.of f_ways_from (PySem.W.mg_of X G a15) F15.kp b15 bY
 have f_way_in:=aOy (P:=l.prog) (w:=w) (mg:=mg) (base:=base) F16 h_has_room h_ways_from h_rooms_of c_Machine na_Machine_steps
 have h_way_in:=DefOk.of f_way_in (PySem.W.mg_of X G a16) F16.kp b16 bY
 have f_Machine_rooms_along:=rN (P:=l.prog) (w:=w) (mg:=mg) (base:=base) F17 c_Machine na_Machine_steps g_LETTERS
 have m_Machine_rooms_along_0:MethOkF l.prog w K mg base "Machine" "rooms_along" 1 3 [] cI:=MethOkF.of (dvs:=[]) c_Machine ⟨a17,e17,k17⟩ f_Machine_rooms_along b17 (.nil) fun _ => .nil
 have f_round_in:=aI4 (P:=l.prog) (w:=w) (mg:=mg) (base:=base) F18 h_is_loop h_has_room h_rooms_of h_way_in m_Machine_rooms_along_0 c_Machine na_Machine_steps e_NoLoop ge_NoLoop g_LETTERS
 have h_round_in:=DefOkX.of f_round_in (PySem.W.mg_of X G a18) F18.kp b18
 have f__law_round_told:=xP (P:=l.prog) (w:=w) (mg:=mg) (base:=base) F19 h_round_in e_NoLoop ge_NoLoop ia_NoLoop_NoLoop ia_NoLoop_NoMachine
 have h__law_round_told:=DefOk.of f__law_round_told (PySem.W.mg_of X G a19) F19.kp b19 bY
 have f__law_walked:=aCh (P:=l.prog) (w:=w) (mg:=mg) (base:=base) F20 
 have h__law_walked:=DefOk.of f__law_walked (PySem.W.mg_of X G a20) F20.kp b20 bY
 have f__law_round_good:=xQ (P:=l.prog) (w:=w) (mg:=mg) (base:=base) F21 h__law_walked b_isinstance b_str b_len b_range b_sorted b_set
 have h__law_round_good:=DefOk.of f__law_round_good (PySem.W.mg_of X G a21) F21.kp b21 bY
 have f__law_distances:=zA (P:=l.prog) (w:=w) (mg:=mg) (base:=base) F22 b_range b_len
 have h__law_distances:=DefOk.of f__law_distances (PySem.W.mg_of X G a22) F22.kp b22 bY
 have f__law_way:=aI5 (P:=l.prog) (w:=w) (mg:=mg) (base:=base) F23 h__law_distances b_range b_len
 have h__law_way:=DefOk.of f__law_way (PySem.W.mg_of X G a23) F23.kp b23 bY
 have f_is_filled_list:=zB (P:=l.prog) (w:=w) (mg:=mg) (base:=base) F24 b_isinstance b_list b_len
 have h_is_filled_list:=DefOk.of f_is_filled_list (PySem.W.mg_of X G a24) F24.kp b24 bY
 have f_is_whole:=aI6 (P:=l.prog) (w:=w) (mg:=mg) (base:=base) F25 b_isinstance b_int b_bool
 have h_is_whole:=DefOk.of f_is_whole (PySem.W.mg_of X G a25) F25.kp b25 bY
 have f_is_below:=aI7 (P:=l.prog) (w:=w) (mg:=mg) (base:=base) F26 h_is_whole
 have h_is_below:=DefOk.of f_is_below (PySem.W.mg_of X G a26) F26.kp b26 bY
 have f_is_row:=aOz (P:=l.prog) (w:=w) (mg:=mg) (base:=base) F27 h_is_below b_len b_all
 have h_is_row:=DefOk.of f_is_row (PySem.W.mg_of X G a27) F27.kp b27 bY
 have f_are_steps:=aGj (P:=l.prog) (w:=w) (mg:=mg) (base:=base) F28 h_is_filled_list h_is_row b_all b_len g_MOST_ROOMS g_MOST_LETTERS
 have h_are_steps:=DefOk.of f_are_steps (PySem.W.mg_of X G a28) F28.kp b28 bY
 have f_are_ranks:=aGk (P:=l.prog) (w:=w) (mg:=mg) (base:=base) F29 h_is_whole b_isinstance b_list b_len b_all
 have h_are_ranks:=DefOk.of f_are_ranks (PySem.W.mg_of X G a29) F29.kp b29 bY
 have f_Machine___init__:=vP (P:=l.prog) (w:=w) (mg:=mg) (base:=base) F30 h_are_steps h_are_ranks c_Machine na_Machine_steps na_Machine_ranks na_Machine_many na_Machine_letters b_len b_list
 have k_Machine:=MakeOk.of c_Machine ⟨x5_Machine,a30,e30,x6_Machine⟩ f_Machine___init__ b30 (PySem.W.mg_of X G x_Machine)
 have f_law:=aZ1 (P:=l.prog) (w:=w) (mg:=mg) (base:=base) F31 h__law_machine h__law_loops h__law_cell h__law_round_told h__law_round_good h__law_mix h_way_in h__law_way k_Machine b_list b_len b_range b_isinstance b_str
 exact f_law
theorem aRv{q:Program}{loose:List Str}{XP:(Str->Option Value)->Heap->Prop}{K:Params->PySem.W.Frag}{as:List Addr}{n t:Nat}{r:PySem.W.RowW}{d:DefRec}{kwd:List (Str × Expr)}{run:Value->List Value->Sem Value}(e:∀ P,as=(K P).map (·.1))(h:PySem.W.WalkO q loose XP (PySem.W.InK K) r d kwd run):PySem.W.WalkX q loose XP (PySem.W.X.obsZ as) (PySem.W.X.valZ K n t) r d kwd run :=
 fun w s₀ s₁ mg mb G y a o pm cd doc dV kV h1 h2 h3 h4 h5 h6 args vals as' L h7 h8 h9 h10 h11=>h w s₀ s₁ mg mb G (PySem.W.InK.keeps w _ _ (PySem.W.X.z_facts e y).2.1 L.keeps) a o pm cd doc dV kV h1 h2 h3 h4 h5 h6 args vals as' h7 h8 h9 h10 h11
theorem walk{l:PySem.W.OpenLaw}{q:Program}{loose:List Str}{XP:(Str->Option Value)->Heap->Prop}{YP:World->Heap->Prop}{d:DefRec}{K:Params->PySem.W.Frag}(hn:l.most=some 63)(hdf:d.params.defaults=[])
  (hY:∀ (w:World) (h:Heap),YP w h->(K w.params).In h)
  (hlaw:∀ ns:List Int,ns.length<=63->aCu [.lst (ns.map D.int)] = .ok (.bl true))
  (F:∀ (w:World) (mg:Str->Option Value) (fa:Addr) (h:Heap),(K w.params).In h->h.Ns mainGlobals mg->mg d.name=some (.ref fa) ->
   ∃ fd:FuncData,(∀ (s:Shared) (u:Value),BindsTo s fd ⟨[u],[]⟩ [("_law_script", u)])/\∀ base:Heap,(K w.params).In base->base.Ns mainGlobals mg->FnOk l.prog w (K w.params) mg base CX0 9 fa fd ["_law_script"] (spI (K w.params) 1 aCu)) :
  PySem.W.WalkO q loose XP YP l.row.toRowW d [] (fun f vs=>PySem.call f vs) :=
 L2.walk_of (n:=63) (k:=9) (x := "_law_script") (CX:=fun _=>CX0) (sp:=fun w=>spI (K w.params) 1 aCu) hn (by decide) hdf ⟨rfl,by decide,by decide⟩ hY F (fun _ _ a ns hl _ hS=>aVg hS (hlaw ns hl)) fun _ _ _ _ _ z=>z
end Pu
namespace PySem.W.Fast
def tw14009027446655874083:=0
def tw3680115655615853805:=0
def tw8046683370875602491:=0
def tw7167466935644405449:=0
def tw15298050588399023018:=0
def tw13561079835514473934:=0
def tw11441826177917308393:=0
def tw3908999219949951075:=0
def tw2621298211791566318:=0
def tw8679390956819390811:=0
def tw16396667265237406777:=0
def tw9868447709041920341:=0
def tw1398326235656436099:=0
def tw16601779836353813911:=0
def tw5078719732249806885:=0
def tw5903500649581765228:=0
def tw16312983847306949955:=0
def tw15905281086072364373:=0
def tw203521522067982487:=0
def tw14335886733740216001:=0
def tw3923594595191900281:=0
def tw9228171377295260281:=0
def tw15912612059236610449:=0
def tw1694495849178405341:=0
def tw3697979295461958778:=0
def tw8241063506227188460:=0
def tw7792455581517084187:=0
def tw16128743815943927386:=0
def tw8777106630243771465:=0
def tw8885150535672946538:=0
def tw11246983222111888060:=0
def tw12304297140516955156:=0
def tw10419785692082843702:=0
def tw8830315825657048998:=0
def tw8607488858140524499:=0
def tw6790390598883233994:=0
def tw3212571175630450385:=0
def tw9228736671145239210:=0
def tw11564745652404172447:=0
def tw17272771088177963462:=0
def tw6087594106373874948:=0
def tw15794110256111295654:=0
def tw377045186203609680:=0
def tw1441915847692356040:=0
def tw7658234130006492062:=0
def tw7356847791196982499:=0
def tw3562214240479067196:=0
def tw4552488710928068357:=0
def tw14485423162745932700:=0
def tw6857313048611159701:=0
def tw3853282513228640181:=0
def tw10369419841080283026:=0
def tw18262710564604939924:=0
def tw5918127355979352407:=0
def tw258364482139356789:=0
def tw8754438531166774082:=0
def tw294830546067267427:=0
def tw8494614891450476232:=0
def tw15705012959136841702:=0
def tw670058256536388434:=0
def tw16104906787853270792:=0
def tw1789433286610941391:=0
def tw724270815686951021:=0
def tw6555674134900286092:=0
def tw10519444322969702074:=0
def tw11950000740913579150:=0
end PySem.W.Fast
open PySem PySem.W PyProof.Rows
set_option maxRecDepth 100000 in
set_option maxHeartbeats 0 in
theorem PySem.Challenge.cw_looprank_k23_rounds_and_ways_holds : PySem.Challenge.rw_looprank_k23_rounds_and_ways.Holds := by
 w_on;o_law;z_head;(case hw=>w_witness2)
 k_fill
 refine Pu.aRv (fun P=>by kernel_rfl) (Pu.walk (l:=PySem.Challenge.rw_looprank_k23_rounds_and_ways) rfl rfl (fun w h Y=>Y) Pu.law_true ?F)
 case F =>
  intro w mg fa h KX G hmg
  refine' Pu.all_mk PySem.F.excBase_ValueError KX G hmg ?x_Machine ?x1_Machine ?x2_Machine ?x3_Machine ?x4_Machine ?x5_Machine ?x6_Machine ?w_Machine_letters ?w_Machine_many ?w_Machine_ranks ?w_Machine_steps ?y3 ?y4 ?y_NoLoop ?y0_NoLoop ?y1_NoLoop ?y6_NoLoop ?y7_NoLoop ?y2_NoLoop ?y5_NoLoop ?y_NoMachine ?y0_NoMachine ?y1_NoMachine ?y6_NoMachine ?y7_NoMachine ?y2_NoMachine ?y5_NoMachine ?ja_NoLoop_NoLoop ?ja_NoLoop_NoMachine ?a1 ?l1 ?c1 ?k1 ?a2 ?l2 ?c2 ?k2 ?a3 ?l3 ?c3 ?k3 ?a4 ?l4 ?c4 ?k4 ?a5 ?l5 ?c5 ?k5 ?a6 ?l6 ?c6 ?k6 ?a7 ?l7 ?c7 ?k7 ?a8 ?l8 ?c8 ?k8 ?a9 ?l9 ?c9 ?k9 ?a10 ?l10 ?c10 ?k10 ?a11 ?l11 ?c11 ?k11 ?a12 ?l12 ?c12 ?k12 ?a13 ?l13 ?c13 ?k13 ?a14 ?l14 ?c14 ?k14 ?a15 ?l15 ?c15 ?k15 ?a16 ?l16 ?c16 ?k16 ?a17 ?e17 ?l17 ?c17 ?k17 ?a18 ?l18 ?c18 ?k18 ?a19 ?l19 ?c19 ?k19 ?a20 ?l20 ?c20 ?k20 ?a21 ?l21 ?c21 ?k21 ?a22 ?l22 ?c22 ?k22 ?a23 ?l23 ?c23 ?k23 ?a24 ?l24 ?c24 ?k24 ?a25 ?l25 ?c25 ?k25 ?a26 ?l26 ?c26 ?k26 ?a27 ?l27 ?c27 ?k27 ?a28 ?l28 ?c28 ?k28 ?a29 ?l29 ?c29 ?k29 ?a30 ?e30 ?l30 ?c30 ?k30 ?a31 ?l31 ?c31 ?k31 ?v_LETTERS ?v_MOST_LETTERS ?v_MOST_ROOMS ?z_all ?z_bool ?z_int ?z_isinstance ?z_len ?z_list ?z_range ?z_set ?z_sorted ?z_str ?z_zip
  (case x_Machine=>k_is)
  (case x1_Machine=>k_is)
  (case x2_Machine=>k_is)
  (case x3_Machine=>k_is)
  (case x4_Machine=>k_is)
  (case x5_Machine=>k_is)
  (case x6_Machine=>k_is)
  (case w_Machine_letters=>k_is)
  (case w_Machine_many=>k_is)
  (case w_Machine_ranks=>k_is)
  (case w_Machine_steps=>k_is)
  (case y3=>k_is)
  (case y4=>k_is)
  (case y_NoLoop=>k_is)
  (case y0_NoLoop=>k_exc)
  (case y1_NoLoop=>k_is)
  (case y6_NoLoop=>k_is)
  (case y7_NoLoop=>k_is)
  (case y2_NoLoop=>k_is)
  (case y5_NoLoop=>k_is)
  (case y_NoMachine=>k_is)
  (case y0_NoMachine=>k_exc)
  (case y1_NoMachine=>k_is)
  (case y6_NoMachine=>k_is)
  (case y7_NoMachine=>k_is)
  (case y2_NoMachine=>k_is)
  (case y5_NoMachine=>k_is)
  (case ja_NoLoop_NoLoop=>k_is)
  (case ja_NoLoop_NoMachine=>k_is)
  (case a1=>k_is)
  (case l1=>k_is)
  (case c1=>k_is)
  (case k1=>k_is)
  (case a2=>k_is)
  (case l2=>k_is)
  (case c2=>k_is)
  (case k2=>k_is)
  (case a3=>k_is)
  (case l3=>k_is)
  (case c3=>k_is)
  (case k3=>k_is)
  (case a4=>k_is)
  (case l4=>k_is)
  (case c4=>k_is)
  (case k4=>k_is)
  (case a5=>k_is)
  (case l5=>k_is)
  (case c5=>k_is)
  (case k5=>k_is)
  (case a6=>k_is)
  (case l6=>k_is)
  (case c6=>k_is)
  (case k6=>k_is)
  (case a7=>k_is)
  (case l7=>k_is)
  (case c7=>k_is)
  (case k7=>k_is)
  (case a8=>k_is)
  (case l8=>k_is)
  (case c8=>k_is)
  (case k8=>k_is)
  (case a9=>k_is)
  (case l9=>k_is)
  (case c9=>k_is)
  (case k9=>k_is)
  (case a10=>k_is)
  (case l10=>k_is)
  (case c10=>k_is)
  (case k10=>k_is)
  (case a11=>k_is)
  (case l11=>k_is)
  (case c11=>k_is)
  (case k11=>k_is)
  (case a12=>k_is)
  (case l12=>k_is)
  (case c12=>k_is)
  (case k12=>k_is)
  (case a13=>k_is)
  (case l13=>k_is)
  (case c13=>k_is)
  (case k13=>k_is)
  (case a14=>k_is)
  (case l14=>k_is)
  (case c14=>k_is)
  (case k14=>k_is)
  (case a15=>k_is)
  (case l15=>k_is)
  (case c15=>k_is)
  (case k15=>k_is)
  (case a16=>k_is)
  (case l16=>k_is)
  (case c16=>k_is)
  (case k16=>k_is)
  (case a17=>k_is)
  (case e17=>k_is)
  (case l17=>k_is)
  (case c17=>k_is)
  (case k17=>k_is)
  (case a18=>k_is)
  (case l18=>k_is)
  (case c18=>k_is)
  (case k18=>k_is)
  (case a19=>k_is)
  (case l19=>k_is)
  (case c19=>k_is)
  (case k19=>k_is)
  (case a20=>k_is)
  (case l20=>k_is)
  (case c20=>k_is)
  (case k20=>k_is)
  (case a21=>k_is)
  (case l21=>k_is)
  (case c21=>k_is)
  (case k21=>k_is)
  (case a22=>k_is)
  (case l22=>k_is)
  (case c22=>k_is)
  (case k22=>k_is)
  (case a23=>k_is)
  (case l23=>k_is)
  (case c23=>k_is)
  (case k23=>k_is)
  (case a24=>k_is)
  (case l24=>k_is)
  (case c24=>k_is)
  (case k24=>k_is)
  (case a25=>k_is)
  (case l25=>k_is)
  (case c25=>k_is)
  (case k25=>k_is)
  (case a26=>k_is)
  (case l26=>k_is)
  (case c26=>k_is)
  (case k26=>k_is)
  (case a27=>k_is)
  (case l27=>k_is)
  (case c27=>k_is)
  (case k27=>k_is)
  (case a28=>k_is)
  (case l28=>k_is)
  (case c28=>k_is)
  (case k28=>k_is)
  (case a29=>k_is)
  (case l29=>k_is)
  (case c29=>k_is)
  (case k29=>k_is)
  (case a30=>k_is)
  (case e30=>k_is)
  (case l30=>k_is)
  (case c30=>k_is)
  (case k30=>k_is)
  (case a31=>k_is)
  (case l31=>k_is)
  (case c31=>k_is)
  (case k31=>k_is)
  (case v_LETTERS=>k_is)
  (case v_MOST_LETTERS=>k_is)
  (case v_MOST_ROOMS=>k_is)
  (case z_all=>k_is)
  (case z_bool=>k_is)
  (case z_int=>k_is)
  (case z_isinstance=>k_is)
  (case z_len=>k_is)
  (case z_list=>k_is)
  (case z_range=>k_is)
  (case z_set=>k_is)
  (case z_sorted=>k_is)
  (case z_str=>k_is)
  (case z_zip=>k_is)
