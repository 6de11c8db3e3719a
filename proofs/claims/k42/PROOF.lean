import PyProof.Rows.All
import Wide.All
import OpenK.AllK
import Wide.FinOn
import Lean
import PyProof.EqAt
import PyProof.EqKinds
import PyProof.TupleCall
import PyProof.P3Eq
import PyProof.NeKinds
import PyProof.NsDelKeeps
import PyProof.RulesAs
import PyProof.ExcAttrAll.ValueError
import PySem.Challenge.RW_looprank_k42_bars
set_option Elab.async false
set_option linter.all false
set_option maxRecDepth 100000
namespace L2
open PySem PySem.Spec PyProof.Rows
abbrev Key:=Sum Int Str
def aI5:Key->Value->Bool
 |.inl k,v=>Value.isInt k v
 |.inr x,v=>Value.isStrOf x v
def bK2(w:World):Key->Int
 |.inl k=>hashInt k
 |.inr x=>hashStr w x
theorem gQ:∀{k:Key}{v:Value},aI5 k v=true->(∃i t,k=Sum.inl i/\v=Value.int i t)\/(∃x t,k=Sum.inr x/\v=Value.str x t)
 |.inl i,v,h=>by
  obtain⟨t,e⟩:=Value.isInt_shape (k:=i) (v:=v) h;exact .inl ⟨i,t,rfl,e⟩
 |.inr x,v,h=>by
  obtain⟨t,e⟩:=Value.isStrOf_shape (x:=x) (v:=v) h;exact .inr ⟨x,t,rfl,e⟩
theorem aUw(i:Int)(t:Tok):aI5 (.inl i) (.int i t)=true:=by simp[aI5,Value.isInt]
theorem aUx(x:Str)(t:Tok):aI5 (.inr x) (.str x t)=true:=by simp[aI5,Value.isStrOf]
theorem aWz(a b:Int):decide ((Sum.inl a:Key)=Sum.inl b)=(a==b):=by
 by_cases e:a=b
 .subst e;simp
 .have h:¬ (Sum.inl a:Key)=Sum.inl b:=λq=>e (Sum.inl.inj q)
  rw[decide_eq_false h];exact(beq_eq_false_iff_ne.mpr e).symm
theorem aX0(a b:Str):decide ((Sum.inr a:Key)=Sum.inr b)=decide (a=b):=by
 by_cases e:a=b
 .subst e;simp
 .have h:¬ (Sum.inr a:Key)=Sum.inr b:=λq=>e (Sum.inr.inj q)
  rw[decide_eq_false h,decide_eq_false e]
theorem aX1(a:Int)(b:Str):decide ((Sum.inl a:Key)=Sum.inr b)=false:=decide_eq_false (λq=>nomatch q)
theorem aX2(a:Str)(b:Int):decide ((Sum.inr a:Key)=Sum.inl b)=false:=decide_eq_false (λq=>nomatch q)
def gB(prog:Program)(w:World):PySem.KeyKind prog w Key where
 is:=aI5
 hash:=bK2 w
 inj:=λv a b ha hb=>by
  rcases gQ ha with ⟨i,t,rfl,rfl⟩|⟨x,t,rfl,rfl⟩
  .rcases gQ hb with ⟨j,u,rfl,e⟩|⟨y,u,rfl,e⟩
   .injection e with e1 _;rw[e1]
   .exact nomatch e
  .rcases gQ hb with ⟨j,u,rfl,e⟩|⟨y,u,rfl,e⟩
   .exact nomatch e
   .injection e with e1 _;rw[e1]
 byValue:=λk v h=>by
  rcases gQ h with ⟨i,t,rfl,rfl⟩|⟨x,t,rfl,rfl⟩ <;> rfl
 pyHash:=λhv h=>by
  rcases gQ hv with ⟨i,t,rfl,rfl⟩|⟨x,t,rfl,rfl⟩
  .exact wpAny_pyHash_int h
  .exact wpAny_pyHash_str h
 eqBool:=λhu hv h=>by
  rcases gQ hu with ⟨i,t,rfl,rfl⟩|⟨x,t,rfl,rfl⟩
  .rcases gQ hv with ⟨j,u,rfl,rfl⟩|⟨y,u,rfl,rfl⟩
   .rw[aWz]at h;exact wpAny_eqBool_int h
   .rw[aX1]at h;exact SeqAt.EqAt.int_str i t y u _ _ _ _ h
  .rcases gQ hv with ⟨j,u,rfl,rfl⟩|⟨y,u,rfl,rfl⟩
   .rw[aX2]at h;exact SeqAt.EqAt.str_int x t j u _ _ _ _ h
   .rw[aX0]at h;exact wpAny_eqBool_str h
 «strs» := λk x t v h=>by
  rcases gQ h with ⟨i,u,rfl,e⟩|⟨y,u,rfl,e⟩
  .exact nomatch e
  .injection e with e1 _
   subst e1;cases v<;>rfl
theorem aO2(prog:Program)(w:World)(i:Int)(t:Tok):(gB prog w).is (.inl i) (.int i t)=true:=aUw i t
theorem aO3(prog:Program)(w:World)(x:Str)(t:Tok):(gB prog w).is (.inr x) (.str x t)=true:=aUx x t
end L2
namespace L2
open PySem PySem.Spec PyProof.Rows
inductive V where
 |non|bl (b:Bool)|int (i:Int)|str (x:Str)|byt (b:Array UInt8)|flt (b:UInt64)|ref (a:Addr)|ty (n:String)
 deriving DecidableEq
def RelV:V->Value->Prop
 |.non,u=>u=Value.none
 |.bl b,u=>u=Value.bool b
 |.int i,u=>∃t,u=Value.int i t
 |.str x,u=>∃t,u=Value.str x t
 |.byt b,u=>∃t,u=Value.bytes b t
 |.flt b,u=>∃t,u=Value.float b t
 |.ref a,u=>u=Value.ref a
 |.ty n,u=>u=Value.type n
abbrev Vals:List V->List Value->Prop:=Paired RelV
theorem Vals.length{xs:List V}{us:List Value}(r:Vals xs us):xs.length=us.length:=Paired.length r
theorem Vals.get:∀{xs:List V}{us:List Value}{i:Nat}{x:V},Vals xs us->xs[i]?=some x->∃u,us[i]?=some u/\RelV x u
 |_,_,_,_,.nil,e=>by simp at e
 |_,_,0,_,.cons r _,e=>by simp at e;subst e;exact⟨_,rfl,r⟩
 |_,_,i+1,x,.cons _ t,e=>by
  obtain⟨u,h1,h2⟩:=Vals.get (i:=i) (x:=x) t (by simpa using e)
  exact⟨u,by simpa using h1,h2⟩
theorem Vals.set{x:V}{u:Value}(r:RelV x u):∀{xs:List V}{us:List Value}(i:Nat),Vals xs us->Vals (xs.set i x) (us.set i u)
 |_,_,_,.nil=>.nil
 |_,_,0,.cons _ t=>.cons r t
 |_,_,i+1,.cons q t=>.cons q (Vals.set r i t)
theorem Vals.append:∀{xs ys:List V}{us ws:List Value},Vals xs us->Vals ys ws->Vals (xs++ys) (us++ws)
 |_,_,_,_,.nil,s=>s
 |_,_,_,_,.cons r t,s=>.cons r (Vals.append t s)
theorem Vals.take:∀{xs:List V}{us:List Value}(n:Nat),Vals xs us->Vals (xs.take n) (us.take n)
 |_,_,0,_=>.nil
 |_,_,_+1,.nil=>.nil
 |_,_,n+1,.cons r t=>.cons r (Vals.take n t)
theorem Vals.drop:∀{xs:List V}{us:List Value}(n:Nat),Vals xs us->Vals (xs.drop n) (us.drop n)
 |_,_,0,r=>r
 |_,_,_+1,.nil=>.nil
 |_,_,n+1,.cons _ t=>Vals.drop n t
def xR:Option V->Option Value->Prop
 |some v,some u=>RelV v u
 |none,none=>True
 |_,_=>False
def KV{κ:Type}:List (κ×V)->List (κ×Value)->Prop:=Paired λ(p:κ×V)(q:κ×Value)=>p.1=q.1/\RelV p.2 q.2
def kV:Key->V
 |.inl i=>.int i
 |.inr x=>.str x
inductive HO where
 |lst (xs:List V)
 |tup (xs:List V)
 |dK (kvs:List (Key×V))|dT (kvs:List (List Key×V))
 |set (S:Int->Bool) (n:Nat)
 |ins (C dx:Addr) (fs:List (Str×V))
 |own (x:Addr)
 |xd (fs:List (Str×V))
 |met (f x:Addr)
 |rng (lo hi:Int)
 |frz (o:Obj) (u:HO)
 |tbl (ps:Array Value)
 |ext (φ:Heap->Prop)
abbrev Hp:=Addr->Option HO
def upd(H:Hp)(a:Addr)(o:HO):Hp:=λb=>if b=a then some o else H b
theorem cD{H:Hp}{a:Addr}{o:HO}:upd H a o a=some o:=by unfold upd;rw[if_pos rfl]
theorem bQ{H:Hp}{a b:Addr}{o:HO}(h:b≠a):upd H a o b=H b:=by unfold upd;rw[if_neg h]
theorem bHo{H:Hp}{a b:Addr}{o u:HO}(h:H a=some o)(h':H b=some u)(d:o≠u):a≠b:=by
 intro e;subst e;rw[h]at h';exact d (Option.some.inj h')
theorem bI{H:Hp}{a b:Addr}{o:HO}(h:H a=some o)(h':H b=none):a≠b:=by
 intro e;subst e;rw[h]at h';cases h'
section
variable(P:Program)(w:World)
def mG(H:Hp)(h:Heap)(a:Addr):HO->Prop
 |.lst xs=>xs.length<=sizeLine/\∃(its:List Value)(n:Nat),Vals xs its/\h.get? a=some {cls:=.type "list",data:=.seq its.toArray n}
 |.tup xs=>xs.length<=sizeLine/\∃its:List Value,Vals xs its/\IsTup h a its.toArray
 |.dK kvs=>kvs.length<=sizeLine/\(a==sysModules)=false/\∃vs,KV kvs vs/\h.DictOf (gB P w) a vs
 |.dT kvs=>kvs.length<=sizeLine/\(a==sysModules)=false/\∃xs:List (List Key×Addr×Value),
   Paired (λ(p:List Key×V)(q:List Key×Addr×Value)=>p.1=q.1/\H q.2.1=some (.tup (p.1.map kV))/\RelV p.2 q.2.2) kvs xs/\
   ∃o es ep,h.get? a=some o/\o.ExactDict/\o.data=.dict es ep/\es.toList=xs.map (entryOfKey (tupleKind (gB P w)))/\(xs.map (·.1)).Nodup
 |.set S n=>h.SetOf (intKind P w) a S n
 |.ins C dx fs=>H dx=some (.own a)/\fs.length<=1000/\dx≠a/\h.get? a=some (PySem.W.instObj C dx)/\
   ∃mA,h.Ns1 dx mA/\(∀f,xR (fs.lookup f) (mA f))/\PySem.Within mA (fs.map (·.1))
 |.own _=>∃o,h.get? a=some o
 |.xd fs=>∃mA,h.Ns1 a mA/\∀f,xR (fs.lookup f) (mA f)
 |.rng lo hi=>∃t u v,h.get? a=some {cls:=.type "range",data:=.fields #[.int lo t,.int hi u,.int 1 v]}
 |.frz o u=>h.get? a=some o/\mG H h a u
 |.tbl ps=>h.get? a=some {cls:=.none,data:=.fields ps}
 |.met f x=>h.get? a=some (PySem.W.methodObj (.ref f) (.ref x))
 |.ext φ=>φ h/\(∃o,h.get? a=some o)/\∀h1 h2:Heap,φ h1->(∀o,h1.get? a=some o->h2.get? a=some o)->φ h2
def HOk(H:Hp)(h:Heap):Prop:=∀a o,H a=some o->mG P w H h a o
end
section
variable{P:Program}{w:World}{H H':Hp}{h h':Heap}{a:Addr}{o:HO}
theorem mG.lt(x:mG P w H h a o):a<h.objs.size:=by
 cases o with
 |lst xs=>obtain⟨_,_,_,_,e⟩:=x;exact Heap.lt_size e
 |tup xs=>obtain⟨_,_,_,p⟩:=x;exact p.lt
 |dK kvs=>obtain⟨_,_,_,_,o,_,_,e,_⟩:=x;exact Heap.lt_size e
 |dT kvs=>obtain⟨_,_,_,_,o,_,_,e,_⟩:=x;exact Heap.lt_size e
 |set S n=>obtain⟨o,_,_,_,e,_⟩:=x;exact Heap.lt_size e
 |ins C dx fs=>obtain⟨_,_,_,e,_⟩:=x;exact Heap.lt_size e
 |own y=>obtain⟨_,e⟩:=x;exact Heap.lt_size e
 |xd fs=>obtain⟨_,⟨_,_,_,e,_⟩,_⟩:=x;exact Heap.lt_size e
 |rng lo hi=>obtain⟨_,_,_,e⟩:=x;exact Heap.lt_size e
 |frz ob u=>obtain⟨e,_⟩:=x;exact Heap.lt_size e
 |tbl ps=>exact Heap.lt_size (show h.get? a=some _ from x)
 |met f y=>exact Heap.lt_size (show h.get? a=some _ from x)
 |ext φ=>obtain⟨_,⟨_,e⟩,_⟩:=x;exact Heap.lt_size e
theorem Paired.mapP{α β:Type}{F G:α->β->Prop}:∀{l₁:List α}{l₂:List β},Paired F l₁ l₂->(∀a b,F a b->G a b)->Paired G l₁ l₂
 |_,_,.nil,_=>.nil
 |_,_,.cons r t,f=>.cons (f _ _ r) (Paired.mapP t f)
theorem mG.stay(x:mG P w H h a o)(k:∀b u,(b=a\/H b=some (.own a))->h.get? b=some u->h'.get? b=some u)
  (ho:∀b,H b=some (.own a)->H' b=some (.own a)) (ht:∀b xs,H b=some (.tup xs)->H' b=some (.tup xs)):mG P w H' h' a o:=by
 induction o with
 |lst xs=>obtain⟨z,its,n,r,e⟩:=x;exact⟨z,its,n,r,k _ _ (.inl rfl) e⟩
 |tup xs=>obtain⟨z,its,r,ob,e,c⟩:=x;exact⟨z,its,r,ob,k _ _ (.inl rfl) e,c⟩
 |dK kvs=>obtain⟨z,y,vs,r,ob,es,ep,e,c⟩:=x;exact⟨z,y,vs,r,ob,es,ep,k _ _ (.inl rfl) e,c⟩
 |dT kvs=>
  obtain⟨z,y,xs,r,ob,es,ep,e,c⟩:=x;exact⟨z,y,xs,Paired.mapP r λp q z=>⟨z.1,ht _ _ z.2.1,z.2.2⟩,ob,es,ep,k _ _ (.inl rfl) e,c⟩
 |set S n=>obtain⟨ob,es,ep,t,e,c⟩:=x;exact⟨ob,es,ep,t,k _ _ (.inl rfl) e,c⟩
 |ins C dx fs=>
  obtain⟨d,z,ne,e,mA,⟨od,es,ep,e2,c⟩,r⟩:=x;exact⟨ho _ d,z,ne,k _ _ (.inl rfl) e,mA,⟨od,es,ep,k _ _ (.inr d) e2,c⟩,r⟩
 |own y=>obtain⟨ob,e⟩:=x;exact⟨ob,k _ _ (.inl rfl) e⟩
 |xd fs=>obtain⟨mA,⟨od,es,ep,e,c⟩,r⟩:=x;exact⟨mA,⟨od,es,ep,k _ _ (.inl rfl) e,c⟩,r⟩
 |rng lo hi=>obtain⟨t,u,v,e⟩:=x;exact⟨t,u,v,k _ _ (.inl rfl) e⟩
 |frz ob u ih=>obtain⟨e,q⟩:=x;exact⟨k _ _ (.inl rfl) e,ih q⟩
 |tbl ps=>
  have e:h.get? a=some {cls:=.none,data:=.fields ps}:=x;show h'.get? a=some {cls:=.none,data:=.fields ps};exact k a _ (.inl rfl) e
 |met f y=>
  have e:h.get? a=some (PySem.W.methodObj (.ref f) (.ref y)):=x;show h'.get? a=some (PySem.W.methodObj (.ref f) (.ref y));exact k a _ (.inl rfl) e
 |ext φ=>obtain⟨p,⟨o,e⟩,st⟩:=x;exact⟨st _ _ p λo q=>k _ _ (.inl rfl) q,⟨o,k _ _ (.inl rfl) e⟩,st⟩
theorem HOk.lt(x:HOk P w H h)(e:H a=some o):a<h.objs.size:=(x a o e).lt
theorem HOk.fresh(x:HOk P w H h)(e:h.objs.size<=a):H a=none:=by
 cases q:H a with
 |none=>rfl
 |some u=>exact absurd (Nat.lt_of_lt_of_le (x.lt q) e) (Nat.lt_irrefl _)
theorem HOk.kept(x:HOk P w H h)(k:∀b u,h.get? b=some u->h'.get? b=some u):HOk P w H h':=λa o e=>
 (x a o e).stay (λb u _ q=>k b u q) (λ_ q=>q) λ_ _ q=>q
theorem HOk.laid(x:HOk P w H h)(k:∀b u,h.get? b=some u->h'.get? b=some u)(hp:h.objs.size<=a)(new:mG P w (upd H a o) h' a o):HOk P w (upd H a o) h':=λb u e=>by
 have hn:=x.fresh hp
 by_cases hb:b=a
 .subst hb;rw[cD]at e;cases e;exact new
 .rw[bQ hb]at e;exact(x b u e).stay (λc v _ q=>k c v q) (λc q=>by rw[bQ (bI q hn)];exact q) λc xs q=>by rw[bQ (bI q hn)];exact q
end
def Rd(H:Hp)(a:Addr)(u:HO):Prop:=H a=some u\/∃o,H a=some (.frz o u)
theorem Rd.ok{P:Program}{w:World}{H:Hp}{h:Heap}{a:Addr}{u:HO}(r:Rd H a u)(x:HOk P w H h):mG P w H h a u:=by
 rcases r with r|⟨o,r⟩
 .exact x a u r
 .obtain⟨_,q⟩:=x a _ r;exact q
def Mut:Option HO->Prop
 |some (.lst _)=>True
 |some (.dK _)=>True
 |some (.dT _)=>True
 |some (.set _ _)=>True
 |some (.ins _ _ _)=>True
 |some (.ext _)=>True
 |_=>False
section
variable{P:Program}{w:World}{H:Hp}{h h':Heap}{x e:Addr}{o':HO}
theorem HOk.write(ok:HOk P w H h)(mu:Mut (H x))(he:e=x\/H e=some (.own x))(k:∀b u,b≠e->h.get? b=some u->h'.get? b=some u)(heo:∃u,h'.get? e=some u)
  (new:mG P w (upd H x o') h' x o'):HOk P w (upd H x o') h':=λb u q=>by
 have nown:∀c y,H c=some (.own y)->c≠x:=λc y r z=>by subst z;rw[r]at mu;exact mu
 have ntup:∀c xs,H c=some (.tup xs)->c≠x:=λc xs r z=>by subst z;rw[r]at mu;exact mu
 by_cases hb:b=x
 .subst hb;rw[cD]at q;cases q;exact new
 .rw[bQ hb]at q
  by_cases hbe:b=e
  .have q':H b=some (.own x):=by
    rcases he with z|z
    .exact absurd (hbe.trans z) hb
    .rw[hbe];exact z
   rw[q]at q';cases q';obtain⟨v,hv⟩:=heo;exact⟨v,by rw[hbe];exact hv⟩
  .refine(ok b u q).stay (λc v hc r=>k c v ?_ r) (λc r=>by rw[bQ (nown c b r)];exact r) λc xs r=>by rw[bQ (ntup c xs r)];exact r
   rcases hc with rfl|hc
   .exact hbe
   .rintro rfl;rcases he with z|z
    .exact nown c b hc z
    .rw[hc]at z;cases z;exact hb rfl
end
structure Un(fs ex:List Addr)(H H':Hp)(h h':Heap):Prop where
 keep:∀b o,h.get? b=some o->H b=none->b∉fs->b∉ex->h'.get? b=some o
 slot:∀b o,h.get? b=some o->H b=none->b∈fs->b∉ex->∃sl,h'.get? b=some {o with slots:=sl}
 free:∀b o,h.get? b=some o->H b=none->b∉ex->H' b=none
 there:∀b o,h.get? b=some o->b∉ex->∃o',h'.get? b=some o'
 tups:∀b xs,H b=some (.tup xs)->H' b=some (.tup xs)
 frzs:∀b o u,H b=some (.frz o u)->H' b=some (.frz o u)
 tbls:∀b ps,H b=some (.tbl ps)->∃more,H' b=some (.tbl (ps++more))
section
variable{fs fs' ex ex':List Addr}{H H1 H2:Hp}{h h1 h2 h':Heap}{a x e:Addr}{o:HO}
theorem Un.any(u:Un fs ex H H1 h h1){b:Addr}{ob:Obj}(q:h.get? b=some ob)(n:H b=none)(hx:b∉ex):∃sl,h1.get? b=some {ob with slots:=sl}:=by
 by_cases hb:b∈fs
 .exact u.slot b ob q n hb hx
 .exact⟨ob.slots,u.keep b ob q n hb hx⟩
theorem Un.kept(k:∀b u,h.get? b=some u->h'.get? b=some u):Un fs ex H H h h':=
 ⟨λb ob q _ _ _=>k b ob q,λb ob q _ _ _=>⟨ob.slots,k b ob q⟩,λ_ _ _ n _=>n,λb ob q _=>⟨ob,k b ob q⟩,λ_ _ q=>q,λ_ _ _ q=>q,λ_ ps q=>⟨#[],by rw[q];simp⟩⟩
theorem Un.refl:Un fs ex H H h h:=Un.kept λ_ _ q=>q
theorem Un.laid(k:∀b u,h.get? b=some u->h'.get? b=some u)(hp:h.objs.size<=a)(hn:H a=none):Un fs ex H (upd H a o) h h' where
 keep:=λb u q _ _ _=>k b u q
 slot:=λb u q _ _ _=>⟨u.slots,k b u q⟩
 free:=λb u q n _=>by rw[bQ (Nat.ne_of_lt (Nat.lt_of_lt_of_le (Heap.lt_size q) hp))];exact n
 there:=λb u q _=>⟨u,k b u q⟩
 tups:=λb xs q=>by rw[bQ (bI q hn)];exact q
 frzs:=λb u xs q=>by rw[bQ (bI q hn)];exact q
 tbls:=λb ps q=>⟨#[],by rw[bQ (bI q hn),q];simp⟩
theorem Un.write(mu:Mut (H x))(he:e=x\/H e=some (.own x))(k:∀b u,b≠e->h.get? b=some u->h'.get? b=some u)(heo:∃u,h'.get? e=some u):Un fs ex H (upd H x o) h h':=by
 have hx:∀b,H b=none->b≠x:=λb n z=>by subst z;rw[n]at mu;exact mu
 have hb:∀b,H b=none->b≠e:=λb n z=>by
  subst z;rcases he with r|r
  .exact hx b n r
  .rw[n]at r;cases r
 have hm:∀b u,H b=some u->¬ Mut (some u)->b≠x:=λb u q nm z=>by subst z;rw[q]at mu;exact nm mu
 refine⟨λb u q n _ _=>k b u (hb b n) q,λb u q n _ _=>⟨u.slots,k b u (hb b n) q⟩,λb u q n _=>by rw[bQ (hx b n)];exact n,λb u q _=>?_,
  λb xs q=>by rw[bQ (hm b _ q λz=>z)];exact q,λb u xs q=>by rw[bQ (hm b _ q λz=>z)];exact q,λb ps q=>⟨#[],by rw[bQ (hm b _ q λz=>z),q];simp⟩⟩
 by_cases hbe:b=e
 .subst hbe;exact heo
 .exact⟨u,k b u hbe q⟩
end
def trk(h:Heap)(H:Hp):List Addr:=(List.range h.objs.size).filter λa=>(H a).isSome
def aM6(h:Heap)(H:Hp):Heap:=PySem.W.hideAll h (trk h H)
theorem aUy(h:Heap)(H:Hp):(aM6 h H).objs.size=h.objs.size:=PySem.W.hideAll_size _ _
theorem aX3{h:Heap}{H:Hp}{b:Addr}{o:Obj}(e:h.get? b=some o)(n:H b=none):(aM6 h H).get? b=some o:=
 PySem.W.hideAll_get _ e λhm=>by
  have q:(H b).isSome=true:=(List.mem_filter.mp hm).2;rw[n]at q;simp at q
theorem bAm{h:Heap}{H:Hp}{b:Addr}{o:Obj}(e:(aM6 h H).get? b=some o):h.get? b=some o/\H b=none:=by
 have e':h.get? b=some o:=PySem.W.of_hideAll (trk h H) e;refine⟨e',?_⟩;cases q:H b with
 |none=>rfl
 |some x=>
  have hm:b∈trk h H:=List.mem_filter.mpr ⟨List.mem_range.mpr (Heap.lt_size e'),by simp[q]⟩
  have z:(aM6 h H).get? b=none:=PySem.W.hideAll_none (trk h H) hm;rw[z]at e;cases e
def bAn(g h:Heap)(L:Addr):List (Addr×Obj):=(List.range h.objs.size).filterMap λa=>if a=L\/(g.get? a).isSome=true then none else (h.get? a).map λo=>(a,o)
def rest(g h:Heap)(L d:Addr):List (Addr×Obj):=(bAn g h L).filter λp=>decide (p.1≠d)
end L2
namespace L2
open PySem PySem.Spec PyProof.Rows
structure Mod(K:PySem.W.Frag)(mg:Str->Option Value)(base:Heap):Prop where
 kin:K.In base
 glob:base.Ns mainGlobals mg
 blt:∃mb,base.Ns builtinsNs mb/\∀x:Str,x≠"__name__"->mb x=bootBuiltins x
 nolimit:base.NoLimit
structure Cx where
 prog:Program
 w:World
 K:PySem.W.Frag
 mg:Str->Option Value
 base:Heap
 A:Around
 N:List Str
 s₀:Shared
 H₀:Hp
 env:Env
 outer:List Env
 stack:List Env
 ex:List Addr
 fn:Str->Bool
 calm:Bool
 pn:List (Addr×Obj)
 xe:Value->Shared->Prop
def frs(l:List Env):List Addr:=l.filterMap (·.frame)
abbrev Cx.fs(X:Cx):List Addr:=frs X.outer
def Vis(sc:Scope)(x:Str):Prop:=sc.names.lookup x=some .local\/sc.names.lookup x=some .cell\/sc.names.lookup x=some .free
def Loc(sc:Scope)(x:Str):Prop:=sc.names.lookup x=some .local\/sc.names.lookup x=some .cell
def Look(env:Env)(h:Heap)(m:Str->Option Value)(x:Str)(u:Value):Prop:=
 (env.kindOf x=some .local/\m x=some u)\/((env.kindOf x=some .cell\/env.kindOf x=some .free)/\∃c,env.cells.lookup x=some c/\h.IsCell c (some u))
structure Cx.Ok(X:Cx):Prop where
 mod:Mod X.K X.mg X.base
 kind:X.env.scope.kind=.function
 glob:X.env.globals=mainGlobals
 blt:X.env.builtins=builtinsNs
 above:X.s₀.heap.objs.size<=X.env.locals
 inj:∀x y c,X.env.cells.lookup x=some c->X.env.cells.lookup y=some c->x=y
 has:∀x,(X.env.kindOf x=some .cell\/X.env.kindOf x=some .free)->∃c,X.env.cells.lookup x=some c
 cab:∀x c,X.fn x=true->X.env.cells.lookup x=some c->X.s₀.heap.objs.size<=c
 hd:X.calm=true->X.A.handled=none
 frames:X.A.frames=some X.stack
 stk:X.stack=X.outer\/(X.stack=X.env::X.outer/\X.env.frame=some X.env.locals)
 exf:∀b∈X.ex,b≠X.env.locals/\∀x c,X.env.cells.lookup x=some c->c≠b
 bs:∀b o,X.base.get? b=some o->X.s₀.heap.get? b=some o/\X.H₀ b=none
 bsz:X.base.objs.size<=X.s₀.heap.objs.size
 noex:∀b o,X.base.get? b=some o->b∉X.ex
 exfs:∀b∈X.ex,b∉X.fs
 funs:X.s₀.heap.FunFrames X.base X.outer
 frf:∀b∈X.fs,X.H₀ b=none
structure Inv(X:Cx)(pins:List (Addr×Obj))(σ:List (Option V))(H:Hp)(s:Shared):Prop where
 ok:X.Ok
 os:s.os=X.s₀.os
 bare:AllBare s.gens
 base:Un X.fs X.ex X.H₀ H X.s₀.heap s.heap
 loc:∃m,s.heap.Ns X.env.locals m/\∀(i:Nat)(x:Str)(v:V),X.N[i]?=some x->σ[i]?=some (some v)->Vis X.env.scope x->∃u,RelV v u/\Look X.env s.heap m x u
 cell:∀x c,X.env.cells.lookup x=some c->∃v,s.heap.IsCell c v
 free:H X.env.locals=none
 freeC:∀x c,X.env.cells.lookup x=some c->H c=none
 pin:∀p∈X.pn++pins,s.heap.get? p.1=some p.2/\H p.1=none/\p.1≠X.env.locals/\p.1∉X.fs/\∀v,p.2.data≠.cell v
 hok:HOk X.prog X.w H s.heap
 len:σ.length=X.N.length
section
variable{X:Cx}{pins:List (Addr×Obj)}{σ:List (Option V)}{H H':Hp}{s:Shared}{h':Heap}
theorem Cx.Ok.nofr(ok:X.Ok){b:Addr}{o:Obj}(e:X.base.get? b=some o):b∉X.fs:=λhb=>by
 have:=(ok.funs.mem hb).1;rw[e]at this;cases this
theorem Inv.bs(I:Inv X pins σ H s):∀b o,X.base.get? b=some o->s.heap.get? b=some o/\H b=none:=λb o e=>
 ⟨I.base.keep b o (I.ok.bs b o e).1 (I.ok.bs b o e).2 (I.ok.nofr e) (I.ok.noex b o e),I.base.free b o (I.ok.bs b o e).1 (I.ok.bs b o e).2 (I.ok.noex b o e)⟩
theorem Inv.bk(I:Inv X pins σ H s):∀b o,X.base.get? b=some o->s.heap.get? b=some o:=λb o e=>(I.bs b o e).1
theorem Inv.mod(I:Inv X pins σ H s):Mod X.K X.mg X.base:=I.ok.mod
theorem Inv.kIn(I:Inv X pins σ H s):X.K.In s.heap:=I.ok.mod.kin.keeps I.bk
theorem Inv.lt(I:Inv X pins σ H s):X.env.locals<s.heap.objs.size:=let ⟨_,hn,_⟩:=I.loc;hn.lt
theorem Inv.sz(I:Inv X pins σ H s):X.s₀.heap.objs.size<=s.heap.objs.size:=Nat.le_trans I.ok.above (Nat.le_of_lt I.lt)
theorem Inv.nofs(I:Inv X pins σ H s){a:Addr}(h:s.heap.objs.size<=a):a∉X.fs:=λhb=>by
 obtain⟨_,o,ho,_⟩:=I.ok.funs.mem hb;exact absurd (Nat.lt_of_lt_of_le (Heap.lt_size ho) (Nat.le_trans I.sz h)) (Nat.lt_irrefl _)
theorem Inv.cne(I:Inv X pins σ H s):∀x c,X.env.cells.lookup x=some c->c≠X.env.locals:=λx c e z=>by
 obtain⟨v,o,ho,hd⟩:=I.cell x c e;obtain⟨m,⟨o',es,ep,ho',hd',_⟩,_⟩:=I.loc;rw[z,ho']at ho;cases ho;rw[hd']at hd;cases hd
theorem Inv.funs(I:Inv X pins σ H s):s.heap.FunFrames X.base X.outer:=by
 have all:∀(l:List Env),(∀b∈frs l,b∈X.fs)->X.s₀.heap.FunFrames X.base l->s.heap.FunFrames X.base l:=by
  intro l
  induction l with
  |nil=>intro _ _;trivial
  |cons env r ih=>
   intro hs hl;obtain⟨hk,⟨L,o,hf,hn,ho,hd⟩,hr⟩:=hl;have hL:L∈X.fs:=hs L (by unfold frs;rw[List.filterMap_cons,hf];exact List.mem_cons_self)
   obtain⟨sl,e⟩:=I.base.slot L o ho (I.ok.frf L hL) hL λz=>I.ok.exfs L z hL
   exact⟨hk,⟨L,_,hf,hn,e,hd⟩,ih (λb hb=>hs b (by unfold frs;rw[List.filterMap_cons,hf];exact List.mem_cons_of_mem _ hb)) hr⟩
 exact all X.outer (λ_ hb=>hb) I.ok.funs
theorem Inv.stack(I:Inv X pins σ H s):s.heap.FunFrames X.base X.stack:=by
 rcases I.ok.stk with e|⟨e,hf⟩
 .rw[e];exact I.funs
 .rw[e];obtain⟨m,hn,_⟩:=I.loc;refine .cons (by rw[I.ok.kind];decide) hf hn ?_ I.funs
  exact Heap.get?_none_of_le (Nat.le_trans I.ok.bsz I.ok.above)
theorem Inv.stkSub(I:Inv X pins σ H s):∀b∈frs X.stack,b∈X.env.locals::X.fs:=λb hb=>by
 rcases I.ok.stk with e|⟨e,hf⟩
 .rw[e]at hb;exact List.mem_cons_of_mem _ hb
 .rw[e]at hb;unfold frs at hb;rw[List.filterMap_cons,hf]at hb;exact hb
theorem Inv.stkFree(I:Inv X pins σ H s):∀b∈frs X.stack,H b=none:=λb hb=>by
 rcases List.mem_cons.mp (I.stkSub b hb) with e|hb
 .rw[e];exact I.free
 .obtain⟨_,o,ho,_⟩:=I.ok.funs.mem hb;exact I.base.free b o ho (I.ok.frf b hb) λz=>I.ok.exfs b z hb
theorem Inv.step{g':Array GenState}{t':Nat}{d':Drawn}{ch:List Addr}(I:Inv X pins σ H s)
  (hch:∀b∈ch,(b∈X.ex\/X.s₀.heap.objs.size<=b)/\b≠X.env.locals/\(∀x c,X.env.cells.lookup x=some c->c≠b)/\∀p∈X.pn++pins,p.1≠b)
  (keep:∀b o,b≠X.env.locals->b∉X.fs->b∉ch->s.heap.get? b=some o->H b=none->h'.get? b=some o)
  (slot:∀b o,b≠X.env.locals->b∈X.fs->b∉ch->s.heap.get? b=some o->H b=none->∃sl,h'.get? b=some {o with slots:=sl}) (free:∀b o,b∉ch->s.heap.get? b=some o->H b=none->H' b=none)
  (there:∀b o,b∉ch->s.heap.get? b=some o->∃o',h'.get? b=some o')
  (tups:∀b xs,H b=some (.tup xs)->H' b=some (.tup xs)) (frzs:∀b o u,H b=some (.frz o u)->H' b=some (.frz o u)) (tbls:∀b ps,H b=some (.tbl ps)->∃more,H' b=some (.tbl (ps++more)))
  (ns:∀m,s.heap.Ns X.env.locals m->h'.Ns X.env.locals m) (hok:HOk X.prog X.w H' h') (hg:AllBare g') :
  Inv X pins σ H' {s with heap:=h',gens:=g',drawn:=d',toks:=t'}:=by
 have neL:∀b o,X.s₀.heap.get? b=some o->b≠X.env.locals:=λb o e=>Nat.ne_of_lt (Nat.lt_of_lt_of_le (Heap.lt_size e) I.ok.above)
 have neC:∀b o,X.s₀.heap.get? b=some o->b∉X.ex->b∉ch:=λb o e hx hb=>by
  rcases (hch b hb).1 with z|z
  .exact hx z
  .exact absurd (Nat.lt_of_lt_of_le (Heap.lt_size e) z) (Nat.lt_irrefl _)
 have cellK:∀x c,X.env.cells.lookup x=some c->∀v,s.heap.IsCell c v->h'.IsCell c v:=λx c e v ⟨o,ho,hd⟩=>by
  have nch:c∉ch:=λz=>(hch c z).2.2.1 x c e rfl
  by_cases hc:c∈X.fs
  .obtain⟨sl,q⟩:=slot c o (I.cne x c e) hc nch ho (I.freeC x c e);exact⟨_,q,hd⟩
  .exact⟨o,keep c o (I.cne x c e) hc nch ho (I.freeC x c e),hd⟩
 refine⟨I.ok,I.os,hg,⟨λb o e n hb hx=>?_,λb o e n hb hx=>?_,λb o e n hx=>?_,λb o e hx=>?_,λb xs e=>tups b xs (I.base.tups b xs e),λb o xs e=>frzs b o xs (I.base.frzs b o xs e),λb ps e=>?_⟩,?_,λx c e=>?_,?_,λx c e=>?_,λp hp=>?_,hok,I.len⟩
 .exact keep b o (neL b o e) hb (neC b o e hx) (I.base.keep b o e n hb hx) (I.base.free b o e n hx)
 .obtain⟨sl,e1⟩:=I.base.slot b o e n hb hx;obtain⟨sl',e2⟩:=slot b _ (neL b o e) hb (neC b o e hx) e1 (I.base.free b o e n hx);exact⟨sl',e2⟩
 .obtain⟨o',e1⟩:=I.base.there b o e hx;exact free b o' (neC b o e hx) e1 (I.base.free b o e n hx)
 .obtain⟨o',e1⟩:=I.base.there b o e hx;exact there b o' (neC b o e hx) e1
 .obtain⟨m1,e1⟩:=I.base.tbls b ps e;obtain⟨m2,e2⟩:=tbls b _ e1;exact⟨m1++m2,by rw[e2,Array.append_assoc]⟩
 .obtain⟨m,hn,hl⟩:=I.loc;refine⟨m,ns m hn,λi x v e1 e2 e3=>?_⟩
  obtain⟨u,r,l⟩:=hl i x v e1 e2 e3;refine⟨u,r,?_⟩;rcases l with l|⟨k,c,e,z⟩
  .exact .inl l
  .exact .inr ⟨k,c,e,cellK x c e _ z⟩
 .obtain⟨v,z⟩:=I.cell x c e;exact⟨v,cellK x c e v z⟩
 .obtain⟨m,⟨o,_,_,ho,_⟩,_⟩:=I.loc;exact free _ o (λz=>(hch _ z).2.1 rfl) ho I.free
 .obtain⟨v,o,ho,hd⟩:=I.cell x c e;exact free c o (λz=>(hch c z).2.2.1 x c e rfl) ho (I.freeC x c e)
 .obtain⟨e,n,ne,nf,d⟩:=I.pin p hp;have nch:p.1∉ch:=λz=>(hch p.1 z).2.2.2 p hp rfl
  exact⟨keep p.1 p.2 ne nf nch e n,free p.1 p.2 nch e n,ne,nf,d⟩
theorem Inv.un{t':Nat}(I:Inv X pins σ H s)(u:Un X.fs [] H H' s.heap h')(hok:HOk X.prog X.w H' h'):Inv X pins σ H' {s with heap:=h',toks:=t'}:=by
 obtain⟨m,⟨o,es,ep,ho,r⟩,_⟩:=id I.loc;obtain⟨sl,hL⟩:=u.any ho I.free (by simp)
 exact I.step (g':=s.gens) (d':=s.drawn) (ch:=[]) (λ_ z=>nomatch z) (λb o _ hb _ e n=>u.keep b o e n hb (by simp)) (λb o _ hb _ e n=>u.slot b o e n hb (by simp)) (λb o _ e n=>u.free b o e n (by simp)) (λb o _ e=>u.there b o e (by simp)) u.tups u.frzs u.tbls (λm' hm=>by
  obtain⟨o',es',ep',ho',r'⟩:=hm;rw[ho]at ho';cases ho';exact⟨_,es',ep',hL,r'⟩) hok I.bare
theorem Inv.call{g':Array GenState}{t':Nat}{d':Drawn}{ch:List Addr}(I:Inv X pins σ H s)(u:Un (frs X.stack) ch H H' s.heap h')(hok:HOk X.prog X.w H' h')(hg:AllBare g')
  (hch:∀b∈ch,(b∈X.ex\/X.s₀.heap.objs.size<=b)/\b≠X.env.locals/\(∀x c,X.env.cells.lookup x=some c->c≠b)/\∀p∈X.pn++pins,p.1≠b) :
  Inv X pins σ H' {s with heap:=h',gens:=g',drawn:=d',toks:=t'}:=by
 obtain⟨m,⟨o,es,ep,ho,r⟩,_⟩:=id I.loc;obtain⟨sl,hL⟩:=u.any ho I.free λz=>(hch _ z).2.1 rfl
 exact I.step (ch:=ch) hch (λb o hL hb hc e n=>u.keep b o e n (λz=>(List.mem_cons.mp (I.stkSub b z)).elim hL hb) hc) (λb o _ _ hc e n=>u.any e n hc) (λb o hc e n=>u.free b o e n hc) (λb o hc e=>u.there b o e hc) u.tups u.frzs u.tbls (λm' hm=>by
  obtain⟨o',es',ep',ho',r'⟩:=hm;rw[ho]at ho';cases ho';exact⟨_,es',ep',hL,r'⟩) hok hg
theorem Inv.turned{t':Nat}{it:Addr}(I:Inv X pins σ H s)(k:∀b o,b≠it->s.heap.get? b=some o->h'.get? b=some o)(hn:H it=none)(hL:it≠X.env.locals)
  (h1:it∈X.ex\/X.s₀.heap.objs.size<=it) (h2:∀x c,X.env.cells.lookup x=some c->c≠it) (h3:∀p∈X.pn++pins,p.1≠it):Inv X pins σ H {s with heap:=h',toks:=t'}:=by
 have nit:∀b u,H b=some u->b≠it:=λb u e z=>by rw[z,hn]at e;cases e
 refine I.step (g':=s.gens) (d':=s.drawn) (ch:=[it]) (λb hb=>?_) (λb o _ _ hc e _=>k b o (λz=>hc (by simp[z])) e) (λb o _ _ hc e _=>⟨o.slots,k b o (λz=>hc (by simp[z])) e⟩) (λ_ _ _ _ n=>n)
  (λb o hc e=>⟨o,k b o (λz=>hc (by simp[z])) e⟩) (λ_ _ e=>e) (λ_ _ _ e=>e) (λb ps e=>⟨#[],by rw[e];simp⟩) (λm hm=>?_) (λb u e=>?_) I.bare
 .have e:b=it:=by simpa using hb
  subst e;exact⟨h1,hL,h2,h3⟩
 .obtain⟨o,es,ep,ho,r⟩:=hm;exact⟨o,es,ep,k _ o (Ne.symm hL) ho,r⟩
 .refine(I.hok b u e).stay (λc v hc q=>k c v ?_ q) (λ_ q=>q) λ_ _ q=>q
  rcases hc with z|z
  .rw[z];exact nit b u e
  .exact nit c _ z
theorem Inv.tok(I:Inv X pins σ H s)(t:Nat):Inv X pins σ H {s with toks:=t}:=I.un (h':=s.heap) (t':=t) Un.refl I.hok
theorem Inv.kept{t':Nat}(I:Inv X pins σ H s)(k:∀b u,s.heap.get? b=some u->h'.get? b=some u):Inv X pins σ H {s with heap:=h',toks:=t'}:=I.un (Un.kept k) (I.hok.kept k)
theorem Inv.laid{a:Addr}{o:HO}{t':Nat}(I:Inv X pins σ H s)(k:∀b u,s.heap.get? b=some u->h'.get? b=some u)(hp:s.heap.objs.size<=a)(new:mG X.prog X.w (upd H a o) h' a o) :
  Inv X pins σ (upd H a o) {s with heap:=h',toks:=t'}:=I.un (Un.laid k hp (I.hok.fresh hp)) (I.hok.laid k hp new)
theorem Inv.write{x e:Addr}{o:HO}{t':Nat}(I:Inv X pins σ H s)(mu:Mut (H x))(he:e=x\/H e=some (.own x))(k:∀b u,b≠e->s.heap.get? b=some u->h'.get? b=some u)(heo:∃u,h'.get? e=some u)
  (new:mG X.prog X.w (upd H x o) h' x o):Inv X pins σ (upd H x o) {s with heap:=h',toks:=t'}:=I.un (Un.write mu he k heo) (I.hok.write mu he k heo new)
theorem Inv.pins_of{pins':List (Addr×Obj)}(I:Inv X pins σ H s)(h:∀p∈pins',s.heap.get? p.1=some p.2/\H p.1=none/\p.1≠X.env.locals/\p.1∉X.fs/\∀v,p.2.data≠.cell v):Inv X pins' σ H s:=
 ⟨I.ok,I.os,I.bare,I.base,I.loc,I.cell,I.free,I.freeC,λp hp=>(List.mem_append.mp hp).elim (λz=>I.pin p (List.mem_append_left _ z)) (h p),I.hok,I.len⟩
theorem aO4{N:List Str}(hN:N.Nodup){i j:Nat}{x:Str}(a:N[i]?=some x)(b:N[j]?=some x):i=j:=by
 obtain⟨h1,e1⟩:=List.getElem?_eq_some_iff.mp a;obtain⟨h2,e2⟩:=List.getElem?_eq_some_iff.mp b;exact(List.getElem_inj hN).mp (e1.trans e2.symm)
theorem aKv{M:Model}{A:Around}{E:Value->Shared->Prop}{i:Nat}{x:Str}{v:V}{u:Value}{Q:Unit->Shared->Prop}(I:Inv X pins σ H s)(hN:X.N.Nodup)(hi:X.N[i]?=some x)(hx:Loc X.env.scope x)(r:RelV v u)
  (h:∀s',Inv X pins (σ.set i (some v)) H s'->(∃a,Heap.SameBut a s.heap s'.heap/\(a=X.env.locals\/X.env.cells.lookup x=some a))->Q () s') (hf:X.fn x=true\/X.env.scope.names.lookup x=some .local:=by first|exact .inl rfl|exact .inr rfl|assumption):wpAny M A (storeName X.env x u) Q E s:=by
 obtain⟨m,hn,hl⟩:=id I.loc;have hcls:(X.env.scope.kind == .class||(X.env.scope.kind == .module&&X.env.locals !=X.env.globals))=false:=by rw[I.ok.kind];rfl
 have hiσ:i<σ.length:=by rw[I.len];exact(List.getElem?_eq_some_iff.mp hi).1
 have cne:=I.cne;have tracked:∀{a:Addr}{h':Heap},(∃o,s.heap.get? a=some o/\H a=none)->Heap.SameBut a s.heap h'->HOk X.prog X.w H h':=λ{a h'} ha hs b ob e=>by
  obtain⟨_,_,hfree⟩:=ha;refine(I.hok b ob e).stay (λc w' hc q=>(hs.2 c ?_).trans q) (λ_ q=>q) λ_ _ q=>q
  rintro rfl;rcases hc with rfl|hc
  .rw[hfree]at e;cases e
  .rw[hfree]at hc;cases hc
 rcases hx with hk|hk
 .refine wpAny_storeName_local hk hn (λh' hn' hs=>?_) hcls
  obtain⟨oL,_,_,hoL,_⟩:=id hn;refine h _ ⟨I.ok,I.os,I.bare,⟨λb o e n hb hx=>?_,λb o e n hb hx=>?_,I.base.free,λb o e hx=>?_,I.base.tups,I.base.frzs,I.base.tbls⟩,⟨_,hn',λj y v' e1 e2 e3=>?_⟩,λy c e=>?_,I.free,I.freeC,λp hp=>?_,tracked ⟨oL,hoL,I.free⟩ hs,by simpa using I.len⟩ ⟨_,hs,.inl rfl⟩
  .exact(hs.2 b (Nat.ne_of_lt (Nat.lt_of_lt_of_le (Heap.lt_size e) I.ok.above))).trans (I.base.keep b o e n hb hx)
  .obtain⟨sl,e1⟩:=I.base.slot b o e n hb hx;exact⟨sl,(hs.2 b (Nat.ne_of_lt (Nat.lt_of_lt_of_le (Heap.lt_size e) I.ok.above))).trans e1⟩
  .obtain⟨o',e1⟩:=I.base.there b o e hx;exact⟨o',(hs.2 b (Nat.ne_of_lt (Nat.lt_of_lt_of_le (Heap.lt_size e) I.ok.above))).trans e1⟩
  .by_cases hj:j=i
   .subst hj;rw[hi]at e1;cases e1;rw[List.getElem?_set_self hiσ]at e2;cases e2;exact⟨u,r,.inl ⟨hk,by simp⟩⟩
   .rw[List.getElem?_set_ne (Ne.symm hj)]at e2;obtain⟨u',r',q⟩:=hl j y v' e1 e2 e3;refine⟨u',r',?_⟩;rcases q with ⟨k,e⟩|⟨k,c,e,z⟩
    .refine .inl ⟨k,?_⟩;have:y≠x:=λe=>hj (aO4 hN e1 (e ▸ hi))
     simp[this,e]
    .exact .inr ⟨k,c,e,z.sameBut hs (cne y c e)⟩
  .obtain⟨w',z⟩:=I.cell y c e;exact⟨w',z.sameBut hs (cne y c e)⟩
  .obtain⟨e,n,ne,nf,d⟩:=I.pin p hp;exact⟨(hs.2 p.1 ne).trans e,n,ne,nf,d⟩
 .have hfn:X.fn x=true:=by
   rcases hf with z|z
   .exact z
   .rw[z]at hk;cases hk
  obtain⟨c,hc⟩:=I.ok.has x (.inl hk);obtain⟨w',z⟩:=I.cell x c hc;refine wpAny_storeName_cell I.ok.kind hk hc z (λh' hc' hs=>?_)
  obtain⟨oc,hoc,hocd⟩:=id z;refine h {s with heap:=h'} ⟨I.ok,I.os,I.bare,⟨λb o e n hb hx=>?_,λb o e n hb hx=>?_,I.base.free,λb o e hx=>?_,I.base.tups,I.base.frzs,I.base.tbls⟩,⟨m,hn.sameBut hs (Ne.symm (cne x c hc)),λj y v' e1 e2 e3=>?_⟩,λy c' e=>?_,I.free,I.freeC,λp hp=>?_,tracked ⟨oc,hoc,I.freeC x c hc⟩ hs,by simpa using I.len⟩ ⟨c,hs,.inr hc⟩
  .exact(hs.2 b (Nat.ne_of_lt (Nat.lt_of_lt_of_le (Heap.lt_size e) (I.ok.cab x c hfn hc)))).trans (I.base.keep b o e n hb hx)
  .obtain⟨sl,e1⟩:=I.base.slot b o e n hb hx;exact⟨sl,(hs.2 b (Nat.ne_of_lt (Nat.lt_of_lt_of_le (Heap.lt_size e) (I.ok.cab x c hfn hc)))).trans e1⟩
  .obtain⟨o',e1⟩:=I.base.there b o e hx;exact⟨o',(hs.2 b (Nat.ne_of_lt (Nat.lt_of_lt_of_le (Heap.lt_size e) (I.ok.cab x c hfn hc)))).trans e1⟩
  .by_cases hj:j=i
   .subst hj;rw[hi]at e1;cases e1;rw[List.getElem?_set_self hiσ]at e2;cases e2;exact⟨u,r,.inr ⟨.inl hk,c,hc,hc'⟩⟩
   .rw[List.getElem?_set_ne (Ne.symm hj)]at e2;obtain⟨u',r',q⟩:=hl j y v' e1 e2 e3;refine⟨u',r',?_⟩;rcases q with q|⟨k,c',e,z'⟩
    .exact .inl q
    .refine .inr ⟨k,c',e,z'.sameBut hs ?_⟩;rintro rfl;exact hj (aO4 hN e1 (I.ok.inj _ _ _ e hc ▸ hi))
  .by_cases hcc:c'=c
   .subst hcc;exact⟨_,hc'⟩
   .obtain⟨w2,z2⟩:=I.cell y c' e;exact⟨w2,z2.sameBut hs hcc⟩
  .obtain⟨e,n,ne,nf,d⟩:=I.pin p hp;refine⟨(hs.2 p.1 ?_).trans e,n,ne,nf,d⟩;intro q;rw[q,hoc]at e;have q':oc=p.2:=Option.some.inj e;exact d w' (by rw[<-q'];exact hocd)
theorem store_ok{M:Model}{A:Around}{E:Value->Shared->Prop}{i:Nat}{x:Str}{v:V}{u:Value}{Q:Unit->Shared->Prop}(I:Inv X pins σ H s)(hN:X.N.Nodup)(hi:X.N[i]?=some x)(hx:Loc X.env.scope x)(r:RelV v u)
  (h:∀s',Inv X pins (σ.set i (some v)) H s'->Q () s') (hf:X.fn x=true\/X.env.scope.names.lookup x=some .local:=by first|exact .inl rfl|exact .inr rfl|assumption):wpAny M A (storeName X.env x u) Q E s:=
 aKv I hN hi hx r (λs' I' _=>h s' I') hf
end
abbrev XK:=Value->Option Addr->Hp->Prop
abbrev St:=List (Option V)
abbrev VK:=V->Hp->Prop
abbrev TE:=St->Hp->VK->Prop
abbrev TT:=St->Hp->(Bool->Hp->Prop)->Prop
abbrev TA:=St->Hp->(List V->Hp->Prop)->Prop
structure Ends where
 nx:St->Hp->Prop
 rt:VK
 bk:St->Hp->Prop:=λ_ _=>False
 ct:St->Hp->Prop:=λ_ _=>False
abbrev TS:=Ends->St->Hp->Prop
def EP(X:Cx)(pins:List (Addr×Obj))(σ:St)(Q:VK)(u:Value)(s':Shared):Prop:=∃v H',Inv X pins σ H' s'/\RelV v u/\Q v H'
def TP(X:Cx)(pins:List (Addr×Obj))(σ:St)(Q:Bool->Hp->Prop)(b:Bool)(s':Shared):Prop:=∃H',Inv X pins σ H' s'/\Q b H'
def AP(X:Cx)(pins:List (Addr×Obj))(σ:St)(Q:List V->Hp->Prop)(us:List Value)(s':Shared):Prop:=∃vs H',Inv X pins σ H' s'/\Vals vs us/\Q vs H'
def SP(X:Cx)(pins:List (Addr×Obj))(D:Ends)(f:Flow)(s':Shared):Prop:=
 match f with
 |.next=>∃σ' H',Inv X pins σ' H' s'/\D.nx σ' H'
 |.brk=>∃σ' H',Inv X pins σ' H' s'/\D.bk σ' H'
 |.cont=>∃σ' H',Inv X pins σ' H' s'/\D.ct σ' H'
 |.ret u=>∃v σ' H',Inv X pins σ' H' s'/\RelV v u/\D.rt v H'
def PE(X:Cx)(e:Expr)(t:TE):Prop:=
 ∀(pins:List (Addr×Obj)) (s:Shared) (σ:St) (H:Hp) (Q:VK),Inv X pins σ H s->t σ H Q->wpAny (model X.prog X.w) X.A (eval e X.env) (EP X pins σ Q) X.xe s
def PT(X:Cx)(e:Expr)(t:TT):Prop:=
 ∀(pins:List (Addr×Obj)) (s:Shared) (σ:St) (H:Hp) (Q:Bool->Hp->Prop),Inv X pins σ H s->t σ H Q->wpAny (model X.prog X.w) X.A (isTrue e X.env (eval e X.env)) (TP X pins σ Q) X.xe s
def PW(X:Cx)(e:Expr)(t:TT):Prop:=
 ∀(whole:Sem Value) (pins:List (Addr×Obj)) (s:Shared) (σ:St) (H:Hp) (Q:Bool->Hp->Prop),Inv X pins σ H s->t σ H Q->wpAny (model X.prog X.w) X.A (isTrue e X.env whole) (TP X pins σ Q) X.xe s
theorem PW.pt{X:Cx}{e:Expr}{t:TT}(h:PW X e t):PT X e t:=h _
def PA(X:Cx)(es:List Expr)(t:TA):Prop:=
 ∀(pos:Pos) (pins:List (Addr×Obj)) (s:Shared) (σ:St) (H:Hp) (Q:List V->Hp->Prop),Inv X pins σ H s->t σ H Q->wpAny (model X.prog X.w) X.A (spliced (backTo pos (starEach es X.env))) (AP X pins σ Q) X.xe s
def PS(X:Cx)(st:Stmt)(t:TS):Prop:=
 ∀(pins:List (Addr×Obj)) (s:Shared) (σ:St) (H:Hp) (D:Ends),Inv X pins σ H s->t D σ H->wpAny (model X.prog X.w) X.A (exec st X.env) (SP X pins D) X.xe s
def PSs(X:Cx)(st:List Stmt)(t:TS):Prop:=
 ∀(pins:List (Addr×Obj)) (s:Shared) (σ:St) (H:Hp) (D:Ends),Inv X pins σ H s->t D σ H->wpAny (model X.prog X.w) X.A (execs st X.env) (SP X pins D) X.xe s
theorem thn{α:Type}{t:Sem α}{Q Q':α->Shared->Prop}{M:Model}{A:Around}{E:Value->Shared->Prop}{s:Shared}(h:wpAny M A t Q E s)(hQ:∀a s,Q a s->Q' a s):wpAny M A t Q' E s:=wpAny_mono h hQ λ_ _ x=>x
end L2
namespace L2
open PySem PySem.Spec PyProof.Rows
section
variable{X:Cx}
def bHp(i:Nat):TE:=λσ H Q=>∃v,σ[i]?=some (some v)/\Q v H
def tC(v:V):TE:=λ_ H Q=>Q v H
theorem vR{i:Nat}{x:Str}{pos:Pos}(hN:X.N[i]?=some x)(hv:Vis X.env.scope x)(hd:(x==("__debug__":Str))=false:=by decide)(hcd:(x==("__classdict__":Str))=false:=by decide):PE X (.Name x pos) (bHp i):=by
 intro pins s σ H Q I h;obtain⟨v,e,h⟩:=h;obtain⟨m,hn,hl⟩:=I.loc;obtain⟨u,r,l⟩:=hl i x v hN e hv;have fin:EP X pins σ Q u s:=⟨v,H,I,r,h⟩;rcases l with ⟨hk,hm⟩|⟨hk,c,hc,hcell⟩
 .exact wpAny_Name (wpAny_loadName_local I.ok.kind hk hn hm fin) hd
 .rcases hk with hk|hk
  .exact wpAny_Name (wpAny_loadName_cell I.ok.kind hk hc hcell fin) hd
  .exact wpAny_Name (wpAny_loadName_free I.ok.kind hk hc hcell fin hcd) hd
theorem bEm{i j pos}:PE X (.Constant (.int i) j pos) (tC (.int i)):=λ_ _ _ H _ I h=>wpAny_Constant_int ⟨.int i,H,I.tok _,⟨_,rfl⟩,h⟩
theorem bHq{b j pos}:PE X (.Constant (.bool b) j pos) (tC (.bl b)):=λ_ _ _ H _ I h=>Constant_bool ⟨.bl b,H,I,rfl,h⟩
theorem bEn{j pos}:PE X (.Constant .none j pos) (tC .non):=λ_ _ _ H _ I h=>Constant_none ⟨.non,H,I,rfl,h⟩
theorem bEo{x j pos}:PE X (.Constant (.str x) j pos) (tC (.str x)):=λ_ _ _ H _ I h=>Calls.Constant_str ⟨.str x,H,I.tok _,⟨_,rfl⟩,h⟩
def Gl(X:Cx)(x:Str):Prop:=X.env.kindOf x=some .globalImplicit
theorem aHp{E:Value->Shared->Prop}{pins:List (Addr×Obj)}{s:Shared}{σ:St}{H:Hp}{x:Str}{u:Value}{pos:Pos}{Q:Value->Shared->Prop}(I:Inv X pins σ H s)(hg:Gl X x)(hm:X.mg x=some u)(h:Q u s)
  (hd:(x==("__debug__":Str))=false:=by decide):wpAny (model X.prog X.w) X.A (eval (.Name x pos) X.env) Q E s:=
 Calls.Name_function_global I.ok.kind hg (Calls.loadGlobal_global (by rw[I.ok.glob];exact I.mod.glob.keeps I.bk) hm h) hd
theorem aDa{E:Value->Shared->Prop}{pins:List (Addr×Obj)}{s:Shared}{σ:St}{H:Hp}{x:Str}{u:Value}{pos:Pos}{Q:Value->Shared->Prop}(I:Inv X pins σ H s)(hg:Gl X x)(hm:X.mg x=none)(hv:bootBuiltins x=some u)(h:Q u s)
  (hn:x≠"__name__":=by decide) (hd:(x==("__debug__":Str))=false:=by decide):wpAny (model X.prog X.w) X.A (eval (.Name x pos) X.env) Q E s:=by
 obtain⟨mb,h1,h2⟩:=I.mod.blt;exact Calls.Name_function_global I.ok.kind hg (Calls.loadGlobal_builtin (by rw[I.ok.glob];exact I.mod.glob.keeps I.bk) hm (by rw[I.ok.blt];exact h1.keeps I.bk) ((h2 x hn).trans hv) h) hd
theorem aSk{x:Str}{v:V}{u:Value}{pos:Pos}(hg:Gl X x)(hm:X.mg x=some u)(r:RelV v u)(hd:(x==("__debug__":Str))=false:=by decide):PE X (.Name x pos) (tC v):=
 λ_ _ _ H _ I h=>aHp I hg hm ⟨v,H,I,r,h⟩ hd
theorem bAo{x:Str}{v:V}{u:Value}{pos:Pos}(hg:Gl X x)(hm:X.mg x=none)(hv:bootBuiltins x=some u)(r:RelV v u)(hn:x≠"__name__":=by decide)(hd:(x==("__debug__":Str))=false:=by decide):PE X (.Name x pos) (tC v):=
 λ_ _ _ H _ I h=>aDa I hg hm hv ⟨v,H,I,r,h⟩ hn hd
variable{a b:Expr}{ta tb:TE}{pos:Pos}
def tB(t:TE):TT:=λσ H Q=>t σ H λx H1=>∃c,x=.bl c/\Q c H1
theorem bEp{e:Expr}{t:TE}(h:PE X e t)(he:∀whole,isTrue e X.env whole=(do let v <- whole;standAt e.pos;holding [v] (truthy v)):=by intro _;rfl):PT X e (tB t):=by
 intro pins s σ H Q I hw;refine isTrue_plain (thn (h pins s σ H _ I hw) λv s1 ⟨x,H1,I1,r1,q1⟩=>?_) (he _)
 obtain⟨d,rfl,q⟩:=q1;cases r1;exact wpAny_truthy_bool ⟨H1,I1,q⟩
variable{tA tB':TT}{rest:List Expr}
def bK3(t u:TT):TT:=λσ H Q=>t σ H λc H1=>if c=true then u σ H1 Q else Q false H1
def tOr(t u:TT):TT:=λσ H Q=>t σ H λc H1=>if c=true then Q true H1 else u σ H1 Q
def bK4(t:TT):TT:=λσ H Q=>t σ H λc H1=>Q (!c) H1
theorem bAp(ha:PT X a tA):PW X (.BoolOp .And [a] pos) tA:=by
 intro wh pins s σ H Q I h;refine isTrue_and (thn (ha pins s σ H Q I h) λc s1 e=>?_)
 cases c with
 |true=>exact isTrue_and_nil e
 |false=>exact e
theorem bEq(ha:PT X a tA):PW X (.BoolOp .Or [a] pos) tA:=by
 intro wh pins s σ H Q I h;refine isTrue_or (thn (ha pins s σ H Q I h) λc s1 e=>?_)
 cases c with
 |false=>exact isTrue_or_nil e
 |true=>exact e
theorem bEr(ha:PT X a tA)(hb:PW X (.BoolOp .And (b::rest) pos) tB'):PW X (.BoolOp .And (a::b::rest) pos) (bK3 tA tB'):=by
 intro wh pins s σ H Q I h;refine isTrue_and (thn (ha pins s σ H _ I h) λc s1 ⟨H1,I1,q1⟩=>?_)
 cases c with
 |true=>exact hb wh pins s1 σ H1 Q I1 q1
 |false=>exact⟨H1,I1,q1⟩
theorem bHr(ha:PT X a tA)(hb:PW X (.BoolOp .Or (b::rest) pos) tB'):PW X (.BoolOp .Or (a::b::rest) pos) (tOr tA tB'):=by
 intro wh pins s σ H Q I h;refine isTrue_or (thn (ha pins s σ H _ I h) λc s1 ⟨H1,I1,q1⟩=>?_)
 cases c with
 |true=>exact⟨H1,I1,q1⟩
 |false=>exact hb wh pins s1 σ H1 Q I1 q1
theorem bEs(ha:PT X a tA):PT X (.UnaryOp .Not a pos) (bK4 tA):=by
 intro pins s σ H Q I h;exact isTrue_not (ha pins s σ H (λc H1=>Q (!c) H1) I h)
def bHs(ta tb:TE):TE:=λσ H Q=>ta σ H λx H1=>∃c,x=.bl c/\if c=true then tb σ H1 Q else Q (.bl false) H1
def bK5(ta tb:TE):TE:=λσ H Q=>ta σ H λx H1=>∃c,x=.bl c/\if c=true then Q (.bl true) H1 else tb σ H1 Q
def bHt(ta:TE):TE:=λσ H Q=>ta σ H λx H1=>∃c,x=.bl c/\Q (.bl (!c)) H1
theorem aX4{op}{t:TE}(h:PE X a t):PE X (.BoolOp op [a] pos) t:=λpins s σ H Q I hw=>BoolOp_one (h pins s σ H Q I hw)
theorem bEt(ha:PE X a ta)(hb:PE X (.BoolOp .And (b::rest) pos) tb):PE X (.BoolOp .And (a::b::rest) pos) (bHs ta tb):=by
 intro pins s σ H Q I h;refine BoolOp_and (thn (ha pins s σ H _ I h) λv s1 ⟨x,H1,I1,r1,q1⟩=>?_)
 obtain⟨c,rfl,q1⟩:=q1;cases r1;refine wpAny_truthy_bool ?_
 cases c with
 |true=>exact hb pins s1 σ H1 Q I1 q1
 |false=>exact⟨.bl false,H1,I1,rfl,q1⟩
theorem bHu(ha:PE X a ta)(hb:PE X (.BoolOp .Or (b::rest) pos) tb):PE X (.BoolOp .Or (a::b::rest) pos) (bK5 ta tb):=by
 intro pins s σ H Q I h;refine BoolOp_or (thn (ha pins s σ H _ I h) λv s1 ⟨x,H1,I1,r1,q1⟩=>?_)
 obtain⟨c,rfl,q1⟩:=q1;cases r1;refine wpAny_truthy_bool ?_
 cases c with
 |false=>exact hb pins s1 σ H1 Q I1 q1
 |true=>exact⟨.bl true,H1,I1,rfl,q1⟩
theorem bEu(ha:PE X a ta):PE X (.UnaryOp .Not a pos) (bHt ta):=by
 intro pins s σ H Q I h;refine UnaryOp_ (thn (ha pins s σ H _ I h) λv s1 ⟨x,H1,I1,r1,q1⟩=>?_)
 obtain⟨c,rfl,q1⟩:=q1;cases r1;exact not_of (wpAny_truthy_bool ⟨.bl (!c),H1,I1,rfl,q1⟩)
def tIf(t:TT)(ta tb:TE):TE:=λσ H Q=>t σ H λc H1=>if c=true then ta σ H1 Q else tb σ H1 Q
theorem aX5{c:Expr}(hc:PT X c tA)(ha:PE X a ta)(hb:PE X b tb):PE X (.IfExp c a b pos) (tIf tA ta tb):=by
 intro pins s σ H Q I h;refine wpAny_IfExp (thn (hc pins s σ H _ I h) λd s1 ⟨H1,I1,q1⟩=>?_)
 cases d with
 |true=>exact ha pins s1 σ H1 Q I1 q1
 |false=>exact hb pins s1 σ H1 Q I1 q1
end
end L2
namespace L2
open PySem PySem.Spec PyProof.Rows
def SqL(K:PySem.W.Frag)(H:Hp)(a:Addr)(xs:List V):Prop:=
 Rd H a (.lst xs)\/
  ∃(o:Obj)(its:Array Value)(n:Nat),K.lookup a=some o/\o.cls=.type "list"/\o.dict=none/\o.data=.seq its n/\its.size<=sizeLine/\Vals xs its.toList
def SqT(K:PySem.W.Frag)(H:Hp)(a:Addr)(xs:List V):Prop:=
 Rd H a (.tup xs)\/
  ∃(o:Obj)(its:Array Value)(n:Nat),K.lookup a=some o/\o.cls=.type "tuple"/\o.data=.seq its n/\its.size<=sizeLine/\Vals xs its.toList
def bK6:Value->Option V
 |.none=>some .non
 |.bool b=>some (.bl b)
 |.int i _=>some (.int i)
 |.str x _=>some (.str x)
 |.bytes b _=>some (.byt b)
 |.float b _=>some (.flt b)
 |.ref a=>some (.ref a)
 |.type n=>some (.ty n)
 |_=>none
theorem RelV.abs{x:V}{u:Value}(r:RelV x u):bK6 u=some x:=by
 cases x with
 |non=>cases r;rfl
 |bl _=>cases r;rfl
 |int _=>obtain⟨t,rfl⟩:=r;rfl
 |str _=>obtain⟨t,rfl⟩:=r;rfl
 |byt _=>obtain⟨t,rfl⟩:=r;rfl
 |flt _=>obtain⟨t,rfl⟩:=r;rfl
 |ref _=>cases r;rfl
 |ty _=>cases r;rfl
theorem RelV.inj{x y:V}{u:Value}(r:RelV x u)(q:RelV y u):x=y:=Option.some.inj (r.abs.symm.trans q.abs)
theorem Vals.inj:∀{xs ys:List V}{us:List Value},Vals xs us->Vals ys us->xs=ys
 |_,_,_,.nil,.nil=>rfl
 |_,_,_,.cons r t,.cons r' t'=>by rw[r.inj r',Vals.inj t t']
section
variable{X:Cx}{pins:List (Addr×Obj)}{σ:St}{H:Hp}{s:Shared}{a:Addr}{xs ys:List V}
theorem SqL.of{K:PySem.W.Frag}(h:H a=some (.lst xs)):SqL K H a xs:=.inl (.inl h)
theorem SqT.of{K:PySem.W.Frag}(h:H a=some (.tup xs)):SqT K H a xs:=.inl (.inl h)
theorem Inv.list(I:Inv X pins σ H s)(h:SqL X.K H a xs):∃its:List Value,Vals xs its/\PlainL s.heap a its.toArray/\xs.length<=sizeLine:=by
 rcases h with h|⟨o,its,n,hk,hc,hd,hs,hz,r⟩
 .obtain⟨z,its,n,r,e⟩:=h.ok I.hok;exact⟨its,r,⟨_,n,e,rfl,rfl,rfl⟩,z⟩
 .refine⟨its.toList,r,⟨o,n,I.kIn a o hk,hc,hd,by simpa using hs⟩,?_⟩
  have e:=r.length;simp only[Array.length_toList]at e;omega
theorem Inv.tuple(I:Inv X pins σ H s)(h:SqT X.K H a xs):∃its:List Value,Vals xs its/\IsTup s.heap a its.toArray/\xs.length<=sizeLine:=by
 rcases h with h|⟨o,its,n,hk,hc,hs,hz,r⟩
 .obtain⟨z,its,r,p⟩:=h.ok I.hok;exact⟨its,r,p,z⟩
 .refine⟨its.toList,r,⟨o,I.kIn a o hk,hc,n,by simpa using hs⟩,?_⟩
  have e:=r.length;simp only[Array.length_toList]at e;omega
theorem Inv.list_inj(I:Inv X pins σ H s)(h:SqL X.K H a xs)(h':SqL X.K H a ys):xs=ys:=by
 obtain⟨its,r,⟨o,n,e,_,_,d⟩,_⟩:=I.list h;obtain⟨its',r',⟨o',n',e',_,_,d'⟩,_⟩:=I.list h';rw[e]at e';cases e';rw[d]at d';injection d' with d1 _
 have:its=its':=by simpa using congrArg Array.toList d1
 subst this;exact r.inj r'
theorem Inv.tuple_inj(I:Inv X pins σ H s)(h:SqT X.K H a xs)(h':SqT X.K H a ys):xs=ys:=by
 obtain⟨its,r,⟨o,e,_,n,d⟩,_⟩:=I.tuple h;obtain⟨its',r',⟨o',e',_,n',d'⟩,_⟩:=I.tuple h';rw[e]at e';cases e';rw[d]at d';injection d' with d1 _
 have:its=its':=by simpa using congrArg Array.toList d1
 subst this;exact r.inj r'
end
abbrev Cx.wish(X:Cx)(E:Value->Shared->Prop):Cx:={X with xe:=E}
abbrev Cx.nox(X:Cx):Cx:=X.wish λ_ _=>False
theorem Cx.Ok.wish{X:Cx}(ok:X.Ok)(E:Value->Shared->Prop):(X.wish E).Ok:=
 ⟨ok.mod,ok.kind,ok.glob,ok.blt,ok.above,ok.inj,ok.has,ok.cab,ok.hd,ok.frames,ok.stk,ok.exf,ok.bs,ok.bsz,ok.noex,ok.exfs,ok.funs,ok.frf⟩
theorem Cx.Ok.unwish{X:Cx}{E:Value->Shared->Prop}(ok:(X.wish E).Ok):X.Ok:=
 ⟨ok.mod,ok.kind,ok.glob,ok.blt,ok.above,ok.inj,ok.has,ok.cab,ok.hd,ok.frames,ok.stk,ok.exf,ok.bs,ok.bsz,ok.noex,ok.exfs,ok.funs,ok.frf⟩
section
variable{X:Cx}{pins:List (Addr×Obj)}{σ:St}{H:Hp}{s:Shared}{E:Value->Shared->Prop}
theorem Inv.wish(I:Inv X pins σ H s)(E:Value->Shared->Prop):Inv (X.wish E) pins σ H s:=⟨I.ok.wish E,I.os,I.bare,I.base,I.loc,I.cell,I.free,I.freeC,I.pin,I.hok,I.len⟩
theorem Inv.unwish(I:Inv (X.wish E) pins σ H s):Inv X pins σ H s:=⟨I.ok.unwish,I.os,I.bare,I.base,I.loc,I.cell,I.free,I.freeC,I.pin,I.hok,I.len⟩
theorem SP.unwish{D:Ends}{f:Flow}{s':Shared}(h:SP (X.wish E) pins D f s'):SP X pins D f s':=by
 cases f with
 |next=>obtain⟨σ',H',I,q⟩:=h;exact⟨σ',H',I.unwish,q⟩
 |brk=>obtain⟨σ',H',I,q⟩:=h;exact⟨σ',H',I.unwish,q⟩
 |cont=>obtain⟨σ',H',I,q⟩:=h;exact⟨σ',H',I.unwish,q⟩
 |ret u=>obtain⟨v,σ',H',I,r,q⟩:=h;exact⟨v,σ',H',I.unwish,r,q⟩
theorem PSs.nox{st:List Stmt}{t:TS}(h:PSs X.nox st t):PSs X st t:=λpins s σ H D I hw=>
 wpAny_mono (h pins s σ H D (I.wish _) hw) (λ_ _ q=>q.unwish) λ_ _ z=>False.elim z
end
section
variable{X:Cx}{st:Stmt}{rest:List Stmt}{t u:TS}{e:Expr}{te:TE}{pos:Pos}
def bHv:TS:=λD σ H=>D.nx σ H
def bK7(t u:TS):TS:=λD σ H=>t {D with nx:=u D} σ H
theorem bAq:PSs X [] bHv:=λ_ _ σ H _ I h=>wpAny_execs_nil ⟨σ,H,I,h⟩
theorem aI6(h1:PS X st t)(h2:PSs X rest u):PSs X (st::rest) (bK7 t u):=by
 intro pins s σ H D I h;refine wpAny_execs_cons (thn (h1 pins s σ H {D with nx:=u D} I h) λf s1 q=>?_)
 cases f with
 |next=>
  obtain⟨σ',H',I',q⟩:=q;exact h2 pins s1 σ' H' D I' q
 |ret v=>exact q
 |brk=>exact q
 |cont=>exact q
theorem aM7(h1:PS X st t):PSs X [st] t:=by
 intro pins s σ H D I h;refine wpAny_execs_cons (thn (h1 pins s σ H D I h) λf s1 q=>?_)
 cases f with
 |next=>exact wpAny_execs_nil q
 |ret v=>exact q
 |brk=>exact q
 |cont=>exact q
theorem Inv.quiet{pins:List (Addr×Obj)}{σ:St}{H:Hp}{s:Shared}(I:Inv X pins σ H s):interactive X.env=false:=by simp[interactive,I.ok.kind]
def bHw(te:TE):TS:=λD σ H=>te σ H λ_ H1=>D.nx σ H1
theorem aM8(he:PE X e te)(hs:swapsWith e none pos.line X.env=pure false:=by rfl):PS X (.Expr e pos) (bHw te):=by
 intro pins s σ H D I h;exact wpAny_Expr_any (thn (he pins s σ H _ I h) λv s1 ⟨x,H1,I1,r1,q1⟩=>⟨σ,H1,I1,q1⟩) I.quiet hs
def bK8(te:TE):TS:=λD σ H=>te σ H D.rt
theorem aQn(he:PE X e te):PS X (.Return (some e) pos) (bK8 te):=by
 intro pins s σ H D I h;exact wpAny_Return_some (thn (he pins s σ H _ I h) λv s1 ⟨x,H1,I1,r1,q1⟩=>⟨x,σ,H1,I1,r1,q1⟩)
def bK9(c:TT)(t u:TS):TS:=λD σ H=>c σ H λb H1=>if b=true then t D σ H1 else u D σ H1
theorem bHx{c:Expr}{a b:List Stmt}{tc:TT}(hc:PT X c tc)(ha:PSs X a t)(hb:PSs X b u):PS X (.If c a b pos) (bK9 tc t u):=by
 intro pins s σ H D I h;refine wpAny_If (thn (hc pins s σ H _ I h) λd s1 ⟨H1,I1,q1⟩=>?_)
 cases d with
 |true=>exact ha pins s1 σ H1 D I1 q1
 |false=>exact hb pins s1 σ H1 D I1 q1
end
abbrev TG:=V->St->Hp->(St->Hp->Prop)->Prop
abbrev TGs:=List V->St->Hp->(St->Hp->Prop)->Prop
def PG(X:Cx)(target:Expr)(t:TG):Prop:=
 ∀(pins:List (Addr×Obj)) (s:Shared) (σ:St) (H:Hp) (v:V) (u:Value) (Q:St->Hp->Prop),Inv X pins σ H s->RelV v u->t v σ H Q->
  wpAny (model X.prog X.w) X.A (assign target X.env u) (λ_ s'=>∃σ' H',Inv X pins σ' H' s'/\Q σ' H') X.xe s
def PGs(X:Cx)(ts:List Expr)(t:TGs):Prop:=
 ∀(pins:List (Addr×Obj)) (s:Shared) (σ:St) (H:Hp) (vs:List V) (us:List Value) (Q:St->Hp->Prop),Inv X pins σ H s->Vals vs us->t vs σ H Q->
  wpAny (model X.prog X.w) X.A (assignInOrder ((assignEach ts X.env).map (·.2)) us) (λ_ s'=>∃σ' H',Inv X pins σ' H' s'/\Q σ' H') X.xe s
abbrev bEv:=V->V->V->Hp->(Hp->Prop)->Prop
def bEw(X:Cx)(t:bEv):Prop:=
 ∀(pins:List (Addr×Obj)) (s:Shared) (σ:St) (H:Hp) (o i v:V) (ov iv u:Value) (Q:Hp->Prop),Inv X pins σ H s->RelV o ov->RelV i iv->RelV v u->t o i v H Q->
  wpAny (model X.prog X.w) X.A (setItem ov iv u) (λ_ s'=>∃H',Inv X pins σ H' s'/\Q H') X.xe s
section
variable{X:Cx}{pos:Pos}
def bDu(i:Nat):TG:=λv σ H Q=>Q (σ.set i (some v)) H
theorem bAr{i:Nat}{x:Str}(hN:X.N.Nodup)(hi:X.N[i]?=some x)(hx:Loc X.env.scope x)(hf:X.fn x=true\/X.env.scope.names.lookup x=some .local:=by first|exact .inl rfl|exact .inr rfl|assumption):PG X (.Name x pos) (bDu i):=by
 intro pins s σ H v u Q I r h;exact wpAny_assign_Name (store_ok I hN hi hx r (λs' I'=>⟨_,H,I',h⟩) hf)
def bKa:TGs:=λvs σ H Q=>vs=[]/\Q σ H
def bHy(t:TG)(u:TGs):TGs:=λvs σ H Q=>∃v r,vs=v::r/\t v σ H λσ' H'=>u r σ' H' Q
theorem bAs:PGs X [] bKa:=by
 intro pins s σ H vs us Q I r h;obtain⟨e,h⟩:=h;subst e;cases r;exact assignInOrder_nil ⟨σ,H,I,h⟩
theorem aX6{e:Expr}{es:List Expr}{t:TG}{u:TGs}(h1:PG X e t)(h2:PGs X es u)
  (hs:(assignEach (e::es) X.env).map (·.2)=assign e X.env::(assignEach es X.env).map (·.2):=by rfl):PGs X (e::es) (bHy t u):=by
 intro pins s σ H vs us Q I r h;obtain⟨v,vr,e1,h⟩:=h;subst e1;cases r with
 |cons r rr=>
  rw[hs];refine assignInOrder_cons (thn (h1 pins s σ H _ _ _ I r h) λ_ s1 ⟨σ1,H1,I1,q1⟩=>?_)
  exact h2 pins s1 σ1 H1 _ _ Q I1 rr q1
def bKb(K:PySem.W.Frag)(n:Nat)(t:TGs):TG:=λv σ H Q=>∃a xs,v=.ref a/\SqT K H a xs/\xs.length=n/\t xs σ H Q
theorem bEx{es:List Expr}{k:Nat}{t:TGs}{n:Nat}(hc:X.calm=true)(h:PGs X es t)
  (hn:(assignEach es X.env).length=n:=by rfl) (hst:(assignEach es X.env).findIdx? (·.1)=none:=by rfl):PG X (.Tuple es k pos) (bKb X.K n t):=by
 intro pins s σ H v u Q I r hw;obtain⟨a,xs,e1,hq,hl,hw⟩:=hw;subst e1;cases r;obtain⟨its,rv,ht,hz⟩:=I.tuple hq;refine assign_Tuple_tuple (I.ok.hd hc) ht (by simp[hn,<-hl,rv.length]) hst λh' hx=>?_
 have I1:Inv X pins σ H {s with heap:=h'}:=I.kept (t':=s.toks) λb o e=>hx b o (Nat.ne_of_lt (Heap.lt_size e)) e
 exact h pins _ σ H xs _ Q I1 (by simpa using rv) hw
def bKc(to ti:TE)(t:bEv):TG:=λv σ H Q=>to σ H λo H1=>ti σ H1 λi H2=>t o i v H2 λH3=>Q σ H3
theorem aX7{o i:Expr}{to ti:TE}{t:bEv}(ho:PE X o to)(hi:PE X i ti)(hs:bEw X t)
  (ha:∀v,assign (.Subscript o i pos) X.env v=(do
   let ov <- holding [v] (eval o X.env);let iv <- holding [v,ov] (eval i X.env)
   standAt pos
   holding [v,ov,iv] (setItem ov iv v)
   release [v,ov,iv] []):=by intro _;rfl):PG X (.Subscript o i pos) (bKc to ti t):=by
 intro pins s σ H v u Q I r h;rw[ha];refine wpAny_bind (wpAny_holding (thn (ho pins s σ H _ I h) λov s1 ⟨x,H1,I1,r1,q1⟩=>?_))
 refine wpAny_bind (wpAny_holding (thn (hi pins s1 σ H1 _ I1 q1) λiv s2 ⟨y,H2,I2,r2,q2⟩=>?_))
 refine wpAny_bind (wpAny_standAt (wpAny_bind (wpAny_holding (thn (hs pins s2 σ H2 x y v ov iv u _ I2 r1 r2 r q2) λ_ s3 ⟨H3,I3,q3⟩=>?_))))
 exact wpAny_release ⟨σ,H3,I3,q3⟩
def bHz(te:TE)(g:TG):TS:=λD σ H=>te σ H λx H1=>g x σ H1 D.nx
theorem aQo{tg e:Expr}{te:TE}{g:TG}(he:PE X e te)(hg:PG X tg g)(hs:swapsWithSole [tg] e pos.line X.env=pure false:=by rfl)(hw:swappedStores [tg] e X.env=pure none:=by rfl)
  (h1:(assignEach [tg] X.env).map (·.2)=[assign tg X.env]:=by rfl):PS X (.Assign [tg] e pos) (bHz te g):=by
 intro pins s σ H D I h;refine wpAny_Assign_stores (thn (he pins s σ H _ I h) λv s1 ⟨x,H1,I1,r1,q1⟩=>?_) hs hw
 rw[h1];exact thn (hg pins s1 σ H1 x v _ I1 r1 q1) λ_ s2 q=>q
theorem aI7{i:Nat}{x:Str}{e:Expr}{te:TE}{pos':Pos}(hN:X.N.Nodup)(hi:X.N[i]?=some x)(hx:Loc X.env.scope x)(he:PE X e te)(hs:swapsWith e (some (.Name x pos')) pos.line X.env=pure false:=by rfl)(hf:X.fn x=true\/X.env.scope.names.lookup x=some .local:=by first|exact .inl rfl|exact .inr rfl|assumption) :
  PS X (.Assign [.Name x pos'] e pos) (bHz te (bDu i)):=by
 intro pins s σ H D I h;refine wpAny_Assign_Name (thn (he pins s σ H _ I h) λv s1 ⟨y,H1,I1,r1,q1⟩=>?_) hs
 exact store_ok I1 hN hi hx r1 (λs2 I2=>⟨_,H1,I2,q1⟩) hf
end
section
variable{X:Cx}{pos:Pos}
def bEy(c:TT)(tb:TS):TS:=λD σ H=>∃W:Nat->St->Hp->Prop,(∃m,W m σ H)/\∀m σ H,W m σ H->
 c σ H λb H1=>if b=true then ∃N:St->Hp->Prop,(∀σ' H',N σ' H'->∃m',m' < m/\W m' σ' H')/\tb {D with nx:=N,ct:=N,bk:=D.nx} σ H1 else D.nx σ H1
theorem aX8{c:Expr}{body:List Stmt}{tc:TT}{tb:TS}(hp:PassesOwn (model X.prog X.w) X.A X.env X.xe)(hc:PT X c tc)(hb:PSs X body tb):PS X (.While c body [] pos) (bEy tc tb):=by
 intro pins s σ H D I h;obtain⟨W,⟨m0,w0⟩,turn⟩:=h;refine wpAny_While (codeAny_whileLoop (λn s'=>∃σ' H',Inv X pins σ' H' s'/\W n σ' H') ?_ m0 ⟨σ,H,I,w0⟩)
 rintro n s1 ⟨σ1,H1,I1,w1⟩;refine wpAny_passesOwn hp (thn (hc pins s1 σ1 H1 _ I1 (turn n σ1 H1 w1)) λb s2 ⟨H2,I2,q2⟩=>?_)
 cases b with
 |true=>
  obtain⟨N,hN,q2⟩:=q2;rw[if_pos rfl];refine wpAny_passesOwn hp (thn (hb pins s2 σ1 H2 _ I2 q2) λf s3 q3=>?_)
  cases f with
  |next=>
   obtain⟨σ3,H3,I3,n3⟩:=q3;obtain⟨m',hm,w3⟩:=hN σ3 H3 n3;exact⟨m',hm,σ3,H3,I3,w3⟩
  |cont=>
   obtain⟨σ3,H3,I3,n3⟩:=q3;obtain⟨m',hm,w3⟩:=hN σ3 H3 n3;exact⟨m',hm,σ3,H3,I3,w3⟩
  |brk=>exact q3
  |ret v=>exact q3
 |false=>
  rw[if_neg Bool.false_ne_true];exact wpAny_execs_nil ⟨σ1,H2,I2,q2⟩
end
structure It where
 go:Nat->Hp->Prop
 yld:Nat->Hp->V->Hp->Prop
 stop:Nat->Hp->Prop
def aDy(X:Cx)(pins:List (Addr×Obj))(H:Hp)(b:Addr):Prop:=
 H b=none/\b≠X.env.locals/\b∉X.fs/\(b∈X.ex\/X.s₀.heap.objs.size<=b)/\(∀x c,X.env.cells.lookup x=some c->c≠b)/\∀p∈X.pn++pins,p.1≠b
theorem Inv.fpOk{X:Cx}{pins:List (Addr×Obj)}{σ:St}{H H':Hp}{s:Shared}{b:Addr}(I:Inv X pins σ H s)(hb:s.heap.objs.size<=b)(hn:H' b=none):aDy X pins H' b:=by
 refine⟨hn,Nat.ne_of_gt (Nat.lt_of_lt_of_le I.lt hb),I.nofs hb,.inr (Nat.le_trans I.sz hb),λx c e z=>?_,λp hp z=>?_⟩
 .obtain⟨v,q⟩:=I.cell x c e;exact absurd (Nat.lt_of_lt_of_le q.lt (by rw[z];exact hb)) (Nat.lt_irrefl _)
 .exact absurd (Nat.lt_of_lt_of_le (Heap.lt_size (I.pin p hp).1) (by rw[z];exact hb)) (Nat.lt_irrefl _)
structure Turn(P:Program)(w:World)(K:PySem.W.Frag)(tg:Expr)(J:It)(fp:List Addr)(it:Addr)(tn:Nat->Heap->Prop):Prop where
 mem:it∈fp
 obj:∀i h,tn i h->∀b∈fp,∃o,h.get? b=some o/\∀v,o.data≠.cell v
 keep:∀i h h',tn i h->(∀b∈fp,∀o,h.get? b=some o->h'.get? b=some o)->tn i h'
 item:∀(X:Cx),X.prog=P->X.w=w->X.K=K->X.calm=true->∀(i:Nat) (pins:List (Addr×Obj)) (s:Shared) (σ:St) (H:Hp) (E:Value->Shared->Prop),Inv X pins σ H s->(∀b∈fp,aDy X pins H b)->tn i s.heap->J.go i H->
  wpAny (model P w) X.A (pyNext (.ref it)) (λr s1=>∃u,r=some u/\
   wpAny (model P w) X.A (letOwnedTupleGo tg (.ref it) u) (λ_ s2=>∃x H',Inv X pins σ H' s2/\RelV x u/\J.yld i H x H'/\tn (i+1) s2.heap/\∀b∈fp,H' b=none) E s1) E s
 done:∀(X:Cx),X.prog=P->X.w=w->X.K=K->X.calm=true->∀(i:Nat) (pins:List (Addr×Obj)) (s:Shared) (σ:St) (H:Hp) (E:Value->Shared->Prop),Inv X pins σ H s->(∀b∈fp,aDy X pins H b)->tn i s.heap->J.stop i H->
  wpAny (model P w) X.A (pyNext (.ref it)) (λr s1=>r=none/\Inv X pins σ H s1) E s
 self:∀(A:Around)(i:Nat)(s:Shared)(Q:Value->Shared->Prop)(E:Value->Shared->Prop),tn i s.heap->Q (.ref it) s->wpAny (model P w) A (pyIter (.ref it)) Q E s
abbrev TI:=St->Hp->(It->Hp->Prop)->Prop
def PIE(X:Cx)(pins:List (Addr×Obj))(σ:St)(tg:Expr)(R:It->Hp->Prop)(itv:Value)(s2:Shared):Prop:=
 ∃(it:Addr)(fp:List Addr)(tn:Nat->Heap->Prop)(J:It)(H':Hp),itv=.ref it/\Inv X pins σ H' s2/\Turn X.prog X.w X.K tg J fp it tn/\tn 0 s2.heap/\(∀b∈fp,aDy X pins H' b)/\R J H'
def PI(X:Cx)(tg iter:Expr)(wi:TI):Prop:=
 ∀(pins:List (Addr×Obj)) (s:Shared) (σ:St) (H:Hp) (R:It->Hp->Prop),Inv X pins σ H s->wi σ H R->
  wpAny (model X.prog X.w) X.A (eval iter X.env) (λv s1=>wpAny (model X.prog X.w) X.A (pyIter v) (PIE X pins σ tg R) X.xe s1) X.xe s
theorem aSl{M:Model}{A:Around}{E:Value->Shared->Prop}{s:Shared}{tg:Expr}{it:Addr}{u:Value}{o:Obj}{n:String}{vs:Array Value}{Q:Unit->Shared->Prop}(ho:s.heap.get? it=some o)(hc:o.cls=.type n)(hd:o.data=.fields vs)
  (hn:["enumerate","zip","dict_itemiterator","dict_reverseitemiterator","odict_iterator","itertools.zip_longest","itertools.pairwise"].contains n=false) (hQ:Q () s):wpAny M A (letOwnedTupleGo tg (.ref it) u) Q E s:=by
 unfold letOwnedTupleGo;cases tg<;>first
  |exact wpAny_pure hQ
  |(cases u<;>first
    |exact wpAny_pure hQ
    | (refine wpAny_bind (wpAny_load ho ?_)
       rw[hc,hd];show wpAny M A (if (["enumerate","zip","dict_itemiterator","dict_reverseitemiterator","odict_iterator","itertools.zip_longest","itertools.pairwise"].contains n&&vs[0]?==some (rawInt _))=true then _ else _) Q E s
       rw[if_neg (by intro h;rw[hn,Bool.false_and]at h;cases h)]
       exact wpAny_pure hQ))
def Itl(K:PySem.W.Frag)(a:Addr):It:=
 ⟨λi H=>∃xs x,SqL K H a xs/\xs[i]?=some x,λi H x H'=>H'=H/\∀xs,SqL K H a xs->xs[i]?=some x,λi H=>∃xs,SqL K H a xs/\xs.length<=i⟩
def Itt(K:PySem.W.Frag)(a:Addr):It:=
 ⟨λi H=>∃xs x,SqT K H a xs/\xs[i]?=some x,λi H x H'=>H'=H/\∀xs,SqT K H a xs->xs[i]?=some x,λi H=>∃xs,SqT K H a xs/\xs.length<=i⟩
def Itr(lo:Int)(n:Nat):It:=⟨λi _=>i<n,λi H x H'=>H'=H/\x=.int (lo+i),λi _=>n<=i⟩
theorem aUz{P:Program}{w:World}{K:PySem.W.Frag}{tg:Expr}(a it:Addr):Turn P w K tg (Itl K a) [it] it (λi h=>h.IsListIter it a i) where
 mem:=by simp
 obj:=λi h st b hb=>by
  have e:b=it:=by simpa using hb
  subst e;obtain⟨o,e,c,d⟩:=st;exact⟨o,e,λv z=>by rw[d]at z;cases z⟩
 keep:=λi h h' st k=>st.at λo e=>k it (by simp) o e
 item:=by
  intro X hP hw hK hc i pins s σ H E I hf st hg;subst hP hw hK;obtain⟨xs,x,hq,hx⟩:=hg;obtain⟨its,rv,p,hz⟩:=I.list hq;obtain⟨u,hu,ru⟩:=rv.get hx;obtain⟨f0,f1,f2,f3,f4,f5⟩:=hf it (by simp)
  refine wpAny_pyNext_list_item st p.isList (x:=u) (by simpa using hu) λh' st' sb=>?_
  have I1:Inv X pins σ H {s with heap:=h'}:=I.turned (t':=s.toks) (λb o hb e=>(sb.2 b hb).trans e) f0 f1 f3 f4 f5
  obtain⟨o,e,c,d⟩:=id st';exact⟨u,rfl,aSl (s:={s with heap:=h'}) e c d (by decide) ⟨x,H,I1,ru,⟨rfl,λys hy=>by rw[I.list_inj hy hq];exact hx⟩,st',λb hb=>(hf b hb).1⟩⟩
 done:=by
  intro X hP hw hK hc i pins s σ H E I hf st hg;subst hP hw hK;obtain⟨xs,hq,hx⟩:=hg;obtain⟨its,rv,p,hz⟩:=I.list hq;obtain⟨f0,f1,f2,f3,f4,f5⟩:=hf it (by simp)
  have hl:=rv.length;exact wpAny_pyNext_list_end (I.ok.hd hc) st p.isList (by simp;omega) λh' eb=>⟨rfl,I.turned (t':=s.toks) (λb o hb e=>eb b o hb e) f0 f1 f3 f4 f5⟩
 self:=λ_ _ _ _ _ st h=>wpAny_pyIter_listiter st h
theorem aQp{P:Program}{w:World}{K:PySem.W.Frag}{tg:Expr}(a it:Addr):Turn P w K tg (Itt K a) [it] it (λi h=>h.IsTupleIter it a i) where
 mem:=by simp
 obj:=λi h st b hb=>by
  have e:b=it:=by simpa using hb
  subst e;obtain⟨o,e,c,d⟩:=st;exact⟨o,e,λv z=>by rw[d]at z;cases z⟩
 keep:=λi h h' st k=>st.at λo e=>k it (by simp) o e
 item:=by
  intro X hP hw hK hc i pins s σ H E I hf st hg;subst hP hw hK;obtain⟨xs,x,hq,hx⟩:=hg;obtain⟨its,rv,p,hz⟩:=I.tuple hq;obtain⟨u,hu,ru⟩:=rv.get hx;obtain⟨f0,f1,f2,f3,f4,f5⟩:=hf it (by simp)
  refine wpAny_pyNext_tuple_item st (show s.heap.IsTuple a its.toArray from p) (x:=u) (by simpa using hu) λh' st' sb=>?_
  have I1:Inv X pins σ H {s with heap:=h'}:=I.turned (t':=s.toks) (λb o hb e=>(sb.2 b hb).trans e) f0 f1 f3 f4 f5
  obtain⟨o,e,c,d⟩:=id st';exact⟨u,rfl,aSl (s:={s with heap:=h'}) e c d (by decide) ⟨x,H,I1,ru,⟨rfl,λys hy=>by rw[I.tuple_inj hy hq];exact hx⟩,st',λb hb=>(hf b hb).1⟩⟩
 done:=by
  intro X hP hw hK hc i pins s σ H E I hf st hg;subst hP hw hK;obtain⟨xs,hq,hx⟩:=hg;obtain⟨its,rv,p,hz⟩:=I.tuple hq;obtain⟨f0,f1,f2,f3,f4,f5⟩:=hf it (by simp)
  have hl:=rv.length;exact wpAny_pyNext_tuple_end (I.ok.hd hc) st (show s.heap.IsTuple a its.toArray from p) (by simp;omega) λh' eb=>⟨rfl,I.turned (t':=s.toks) (λb o hb e=>eb b o hb e) f0 f1 f3 f4 f5⟩
 self:=λ_ _ _ _ _ st h=>wpAny_pyIter_tupleiter st h
theorem aQq{P:Program}{w:World}{K:PySem.W.Frag}{tg:Expr}(it:Addr)(lo:Int)(n:Nat):Turn P w K tg (Itr lo n) [it] it (λi h=>IsRangeIter h it (lo+(i:Nat)*1) ((n:Int)-(i:Nat)) 1) where
 mem:=by simp
 obj:=λi h st b hb=>by
  have e:b=it:=by simpa using hb
  subst e;exact⟨_,st,λv z=>by
   have z':Data.fields _=Data.cell v:=z;cases z'⟩
 keep:=λi h h' st k=>k it (by simp) _ st
 item:=by
  intro X hP hw hK hc i pins s σ H E I hf st hg;subst hP hw hK;obtain⟨f0,f1,f2,f3,f4,f5⟩:=hf it (by simp)
  have W:=Walks.range (prog:=X.prog) (w:=X.w) (I.ok.hd hc) it lo 1 n;refine W.item i s _ _ hg st λv h' tk hv st' kk=>?_
  obtain⟨t,rfl⟩:=hv;have I1:Inv X pins σ H {s with heap:=h',toks:=tk}:=I.turned (λb o hb e=>kk b o (by simpa using hb) e) f0 f1 f3 f4 f5
  refine⟨_,rfl,aSl (s:={s with heap:=h',toks:=tk}) (n:="range_iterator") st' rfl rfl (by decide) ⟨.int (lo+i),H,I1,⟨t,?_⟩,⟨rfl,rfl⟩,st',λb hb=>(hf b hb).1⟩⟩
  rw[Int.mul_one]
 done:=by
  intro X hP hw hK hc i pins s σ H E I hf st hg;subst hP hw hK;obtain⟨f0,f1,f2,f3,f4,f5⟩:=hf it (by simp)
  exact wpAny_pyNext_range_end (I.ok.hd hc) st (by have:n<=i:=hg;omega) λh' eb=>⟨rfl,I.turned (t':=s.toks) (λb o hb e=>eb b o hb e) f0 f1 f3 f4 f5⟩
 self:=λ_ _ _ _ _ st h=>wpAny_pyIter_rangeiter st h
end L2
namespace L2
open PySem PySem.Spec PyProof.Rows
section
variable{X:Cx}{tg:Expr}
theorem aO5{pins:List (Addr×Obj)}{σ:St}{H:Hp}{s:Shared}{R:It->Hp->Prop}{E:Value->Shared->Prop}{lo hi:Int}{t u v:Tok}{tk:Nat}(I:Inv X pins σ H s)(h1 : -(2^62)<=lo)(h2:lo<2^62)(h3 : -(2^62)<=hi)(h4:hi<2^62)
  (q:R (Itr lo (hi-lo).toNat) H):wpAny (model X.prog X.w) X.A (pyIter (.ref s.heap.objs.size)) (PIE X pins σ tg R) E {s with heap:=s.heap.push {cls:=.type "range",data:=.fields #[.int lo t,.int hi u,.int 1 v]},toks:=tk}:=by
 refine wpAny_pyIter_range (IsRange.new ..) (small_one h1 h2 h3 h4) ?_
 have I1:Inv X pins σ H {s with heap:=s.heap.push {cls:=.type "range",data:=.fields #[.int lo t,.int hi u,.int 1 v]},toks:=tk}:=I.kept λb o e=>Heap.get?_push_of_some _ e
 refine⟨(s.heap.push {cls:=.type "range",data:=.fields #[.int lo t,.int hi u,.int 1 v]}).objs.size,[(s.heap.push {cls:=.type "range",data:=.fields #[.int lo t,.int hi u,.int 1 v]}).objs.size],_,_,H,rfl,
  I1.kept (t':=tk) λb o e=>Heap.get?_push_of_some _ e,aQq _ lo (hi-lo).toNat,?_,λb hb=>?_,q⟩
 .have e1:lo+((0:Nat):Int)*1=lo:=by simp
  have e2:(((hi-lo).toNat:Nat):Int)-((0:Nat):Int)=Builtin.Range.rangeSize lo hi 1:=by rw[rangeSize_one];split<;>omega
  show IsRangeIter _ _ (lo+((0:Nat):Int)*1) ((((hi-lo).toNat:Nat):Int)-((0:Nat):Int)) 1;rw[e1,e2];exact Heap.get?_push_size _ rfl
 .have e:b=(s.heap.push {cls:=.type "range",data:=.fields #[.int lo t,.int hi u,.int 1 v]}).objs.size:=by simpa using hb
  subst e;exact I1.fpOk (Nat.le_refl _) (I1.hok.fresh (Nat.le_refl _))
def bI0(ta:TA):TI:=λσ H R=>ta σ H λvs H1=>∃j:Int,vs=[.int j]/\-(2^62)<=j/\j<2^62/\R (Itr 0 j.toNat) H1
def bI1(ta:TA):TI:=λσ H R=>ta σ H λvs H1=>∃i j:Int,vs=[.int i,.int j]/\(-(2^62)<=i/\i<2^62/\-(2^62)<=j/\j<2^62)/\R (Itr i (j-i).toNat) H1
theorem aV0{a:Expr}{ta:TA}{p pos:Pos}(hg:Gl X "range")(hm:X.mg "range"=none)(ha:PA X [a] ta)(hs:starEach [a] X.env=[(false,eval a X.env)]:=by rfl):PI X tg (.Call (.Name "range" p) [a] [] pos) (bI0 ta):=by
 intro pins s σ H R I h;refine Call_ (aDa I hg hm boot_range (PyProof.Rows.callWith_type1 (thn (ha pos pins s σ H _ I h) λus s1 ⟨vs,H1,I1,r1,q1⟩=>?_) hs rfl))
 obtain⟨j,e,q1,q2,q⟩:=q1;subst e;cases r1 with
 |cons r rr=>
  cases rr;obtain⟨t,rfl⟩:=r;exact call_range_1 (aO5 I1 (by omega) (by omega) q1 q2 (by simpa using q))
theorem aV1{a b:Expr}{ta:TA}{p pos:Pos}(hg:Gl X "range")(hm:X.mg "range"=none)(ha:PA X [a,b] ta)(hs:starEach [a,b] X.env=[(false,eval a X.env),(false,eval b X.env)]:=by rfl)(hs2:starEach [b] X.env=[(false,eval b X.env)]:=by rfl) :
  PI X tg (.Call (.Name "range" p) [a,b] [] pos) (bI1 ta):=by
 intro pins s σ H R I h;refine Call_ (aDa I hg hm boot_range (PyProof.Rows.callWith_type1 (thn (ha pos pins s σ H _ I h) λus s1 ⟨vs,H1,I1,r1,q1⟩=>?_) (by rw[hs,hs2]) (by rw[hs2];rfl)))
 obtain⟨i,j,e,⟨q1,q2,q3,q4⟩,q⟩:=q1;subst e;cases r1 with
 |cons r rr=>
  cases rr with
  |cons r' rr=>
   cases rr;obtain⟨t,rfl⟩:=r;obtain⟨t',rfl⟩:=r';exact call_range_2 (aO5 I1 q1 q2 q3 q4 q)
def bKd(wi:TI)(g:TG)(tb:TS):TS:=λD σ H=>wi σ H λJ H1=>∃W:Nat->Nat->St->Hp->Prop,(∃m,W 0 m σ H1)/\∀i m σ H,W i m σ H->
 (J.stop i H/\D.nx σ H)\/(J.go i H/\∃N:St->Hp->Prop,(∀σ' H',N σ' H'->∃m',m' < m/\W (i+1) m' σ' H')/\∀x H',J.yld i H x H'->g x σ H' λσ2 H2=>tb {D with nx:=N,ct:=N,bk:=D.nx} σ2 H2)
def aM9(fp:List Addr)(h:Heap):List (Addr×Obj):=fp.filterMap λb=>(h.get? b).map λo=>(b,o)
theorem xT{fp:List Addr}{h:Heap}{b:Addr}{o:Obj}(hb:b∈fp)(e:h.get? b=some o):(b,o)∈aM9 fp h:=List.mem_filterMap.mpr ⟨b,hb,by rw[e];rfl⟩
theorem aV2{fp:List Addr}{h:Heap}{p:Addr×Obj}(hp:p∈aM9 fp h):p.1∈fp/\h.get? p.1=some p.2:=by
 obtain⟨b,hb,e⟩:=List.mem_filterMap.mp hp;cases q:h.get? b with
 |none=>rw[q]at e;cases e
 |some o=>
  rw[q]at e;have e':(b,o)=p:=Option.some.inj e;subst e';exact⟨hb,q⟩
theorem Inv.pinned{pins:List (Addr×Obj)}{σ:St}{H:Hp}{s:Shared}{fp:List Addr}(I:Inv X pins σ H s)(hf:∀b∈fp,aDy X pins H b)(ho:∀b∈fp,∃o,s.heap.get? b=some o/\∀v,o.data≠.cell v):Inv X (pins++aM9 fp s.heap) σ H s:=
 I.pins_of λp hp=>(List.mem_append.mp hp).elim (λz=>I.pin p (List.mem_append_right _ z)) λz=>by
  obtain⟨hb,e⟩:=aV2 z;obtain⟨f0,f1,f2,_⟩:=hf p.1 hb;obtain⟨o,e',d⟩:=ho p.1 hb;rw[e]at e';cases e';exact⟨e,f0,f1,f2,d⟩
theorem Inv.unpinned{pins pl:List (Addr×Obj)}{σ:St}{H:Hp}{s:Shared}(I:Inv X (pins++pl) σ H s):Inv X pins σ H s:=I.pins_of λp hp=>I.pin p (List.mem_append_right _ (List.mem_append_left _ hp))
theorem bEz{iter:Expr}{body:List Stmt}{wi:TI}{g:TG}{tb:TS}{pos:Pos}(hp:PassesOwn (model X.prog X.w) X.A X.env X.xe)(hc:X.calm=true)(hi:PI X tg iter wi)(hg:PG X tg g)(hb:PSs X body tb)
  (hs:∀x,foldedSetIterable iter X.env x=pure x:=by intro _;rfl):PS X (.For tg iter body [] pos) (bKd wi g tb):=by
 intro pins s σ H D I h;refine wpAny_For (thn (hi pins s σ H _ I h) λv s1 h1=>thn h1 λitv s2 h2=>?_) hs
 obtain⟨it,fp,tn,J,H2,e,I2,T,st2,f2,W,⟨m0,w0⟩,turn⟩:=h2;subst e;have stat:∀{H':Hp},(∀b∈fp,H' b=none)->∀b∈fp,aDy X pins H' b:=λhn b hb=>⟨hn b hb,(f2 b hb).2⟩
 refine codeAny_forLoop_any (λn s'=>∃i σ' H',Inv X pins σ' H' s'/\tn i s'.heap/\(∀b∈fp,H' b=none)/\W i n σ' H') ?_ m0 ⟨0,σ,H2,I2,st2,λb hb=>(f2 b hb).1,w0⟩
 rintro n s3 ⟨i,σ3,H3,I3,st3,fr3,w3⟩;rcases turn i n σ3 H3 w3 with ⟨stop,qn⟩|⟨go,N,hN,step⟩
 .refine wpAny_passesOwn hp (thn (T.done X rfl rfl rfl hc i pins s3 σ3 H3 X.xe I3 (stat fr3) st3 stop) λr s4 ⟨hr,I4⟩=>?_)
  subst hr;exact wpAny_execs_nil ⟨σ3,H3,I4,qn⟩
 .refine wpAny_passesOwn hp (thn (T.item X rfl rfl rfl hc i pins s3 σ3 H3 X.xe I3 (stat fr3) st3 go) λr s4 ⟨u,hr,h4⟩=>?_)
  subst hr;refine wpAny_passesOwn hp (thn h4 λ_ s5 ⟨x,H5,I5,r5,y5,st5,fr5⟩=>?_)
  have I5':=I5.pinned (stat fr5) (T.obj _ _ st5);refine wpAny_passesOwn hp (thn (hg _ s5 σ3 H5 x u _ I5' r5 (step x H5 y5)) λ_ s6 ⟨σ6,H6,I6,q6⟩=>?_)
  refine wpAny_passesOwn hp (thn (hb _ s6 σ6 H6 _ I6 q6) λf s7 q7=>?_)
  have again:∀{σ7:St}{H7:Hp},Inv X (pins++aM9 fp s5.heap) σ7 H7 s7->N σ7 H7->∃m,m<n/\∃i σ' H',Inv X pins σ' H' s7/\tn i s7.heap/\(∀b∈fp,H' b=none)/\W i m σ' H':=λ{σ7 H7} I7 n7=>by
   obtain⟨m',hm,w7⟩:=hN σ7 H7 n7;refine⟨m',hm,i+1,σ7,H7,I7.unpinned,T.keep _ _ _ st5 λb hb o e=>(I7.pin (b,o) (List.mem_append_right _ (List.mem_append_right _ (xT hb e)))).1,λb hb=>?_,w7⟩
   obtain⟨o,e,d⟩:=T.obj _ _ st5 b hb;exact(I7.pin (b,o) (List.mem_append_right _ (List.mem_append_right _ (xT hb e)))).2.1
  cases f with
  |next=>obtain⟨σ7,H7,I7,n7⟩:=q7;exact again I7 n7
  |cont=>obtain⟨σ7,H7,I7,n7⟩:=q7;exact again I7 n7
  |brk=>obtain⟨σ7,H7,I7,q7⟩:=q7;exact⟨σ7,H7,I7.unpinned,q7⟩
  |ret v=>obtain⟨x7,σ7,H7,I7,r7,q7⟩:=q7;exact⟨x7,σ7,H7,I7.unpinned,r7,q7⟩
end
end L2
namespace L2
open PySem PySem.Spec PyProof.Rows
abbrev R2:=V->V->Hp->VK->Prop
def OpR(X:Cx)(f:Value->Value->Sem Value)(r:R2):Prop:=
 ∀(pins:List (Addr×Obj)) (s:Shared) (σ:St) (H:Hp) (x y:V) (v u:Value) (Q:VK),Inv X pins σ H s->RelV x v->RelV y u->r x y H Q->
  wpAny (model X.prog X.w) X.A (f v u) (EP X pins σ Q) X.xe s
def UnR(X:Cx)(f:Value->Sem Value)(r:V->Hp->VK->Prop):Prop:=
 ∀(pins:List (Addr×Obj)) (s:Shared) (σ:St) (H:Hp) (x:V) (v:Value) (Q:VK),Inv X pins σ H s->RelV x v->r x H Q->
  wpAny (model X.prog X.w) X.A (f v) (EP X pins σ Q) X.xe s
def oM(X:Cx)(f:Value)(r:List V->Hp->VK->Prop):Prop:=
 ∀(pins:List (Addr×Obj)) (s:Shared) (σ:St) (H:Hp) (xs:List V) (us:List Value) (Q:VK),Inv X pins σ H s->Vals xs us->r xs H Q->
  wpAny (model X.prog X.w) X.A (call f us) (EP X pins σ Q) X.xe s
def tOp(r:R2)(ta tb:TE):TE:=λσ H Q=>ta σ H λx H1=>tb σ H1 λy H2=>r x y H2 Q
def tUn(r:V->Hp->VK->Prop)(ta:TE):TE:=λσ H Q=>ta σ H λx H1=>r x H1 Q
def rI(C:Int->Int->Prop)(g:Int->Int->V):R2:=λx y H Q=>∃i j,x=.int i/\y=.int j/\C i j/\Q (g i j) H
def rI0(g:Int->Int->V):R2:=λx y H Q=>∃i j,x=.int i/\y=.int j/\Q (g i j) H
def rU(g:Int->V):V->Hp->VK->Prop:=λx H Q=>∃i,x=.int i/\Q (g i) H
section
variable{X:Cx}{a b c:Expr}{ta tb tc:TE}{pos:Pos}
theorem bF0(ha:PE X a ta)(hb:PE X b tb){pins:List (Addr×Obj)}{s:Shared}{σ:St}{H:Hp}{R:V->V->Hp->Prop}(I:Inv X pins σ H s)
  (h:ta σ H λx H1=>tb σ H1 λy H2=>R x y H2) {Q:Value->Shared->Prop} {f:Value->Value->Sem Value}
  (hf:∀v u s2 x y H2,Inv X pins σ H2 s2->RelV x v->RelV y u->R x y H2->wpAny (model X.prog X.w) X.A (f v u) Q X.xe s2) :
  wpAny (model X.prog X.w) X.A (eval a X.env) (λv s₁=>wpAny (model X.prog X.w) X.A (eval b X.env) (λu s₂=>wpAny (model X.prog X.w) X.A (f v u) Q X.xe s₂) X.xe s₁) X.xe s:=by
 refine thn (ha pins s σ H _ I h) λv s1 ⟨x,H1,I1,r1,q1⟩=>?_
 refine thn (hb pins s1 σ H1 _ I1 q1) λu s2 ⟨y,H2,I2,r2,q2⟩=>?_
 exact hf v u s2 x y H2 I2 r1 r2 q2
theorem bDv{op:Operator}{r:R2}(ho:OpR X (binaryOp op) r)(ha:PE X a ta)(hb:PE X b tb):PE X (.BinOp a op b pos) (tOp r ta tb):=by
 intro pins s σ H Q I h;exact wpAny_BinOp (bF0 ha hb I h λv u s2 x y H2 I2 rx ry q=>ho pins s2 σ H2 x y v u Q I2 rx ry q)
theorem bI2{op:UnaryOp}{r:V->Hp->VK->Prop}(ho:UnR X (unaryOp op) r)(ha:PE X a ta):PE X (.UnaryOp op a pos) (tUn r ta):=by
 intro pins s σ H Q I h;exact UnaryOp_ (thn (ha pins s σ H _ I h) λv s1 ⟨x,H1,I1,r1,q1⟩=>ho pins s1 σ H1 x v Q I1 r1 q1)
theorem opI{f:Value->Value->Sem Value}{C:Int->Int->Prop}{g:Int->Int->Int}
  (rule:∀(i j:Int)(t u:Tok)(s:Shared)(Q:Value->Shared->Prop)(E:Value->Shared->Prop),C i j->Q (.int (g i j) s.toks) {s with toks:=s.toks+1}->wpAny (model X.prog X.w) X.A (f (.int i t) (.int j u)) Q E s) :
  OpR X f (rI C λi j=>.int (g i j)):=by
 intro pins s σ H x y v u Q I rx ry h;obtain⟨i,j,rfl,rfl,hc,q⟩:=h;obtain⟨t,rfl⟩:=rx;obtain⟨t',rfl⟩:=ry;exact rule i j t t' s _ _ hc ⟨.int (g i j),H,I.tok _,⟨_,rfl⟩,q⟩
theorem bAt{f:Value->Value->Sem Value}{g:Int->Int->Int}
  (rule:∀(i j:Int)(t u:Tok)(s:Shared)(Q:Value->Shared->Prop)(E:Value->Shared->Prop),Q (.int (g i j) s.toks) {s with toks:=s.toks+1}->wpAny (model X.prog X.w) X.A (f (.int i t) (.int j u)) Q E s) :
  OpR X f (rI0 λi j=>.int (g i j)):=by
 intro pins s σ H x y v u Q I rx ry h;obtain⟨i,j,rfl,rfl,q⟩:=h;obtain⟨t,rfl⟩:=rx;obtain⟨t',rfl⟩:=ry;exact rule i j t t' s _ _ ⟨.int (g i j),H,I.tok _,⟨_,rfl⟩,q⟩
theorem bAu{f:Value->Value->Sem Value}{g:Int->Int->Bool}
  (rule:∀(i j:Int)(t u:Tok)(s:Shared)(Q:Value->Shared->Prop)(E:Value->Shared->Prop),Q (.bool (g i j)) s->wpAny (model X.prog X.w) X.A (f (.int i t) (.int j u)) Q E s) :
  OpR X f (rI0 λi j=>.bl (g i j)):=by
 intro pins s σ H x y v u Q I rx ry h;obtain⟨i,j,rfl,rfl,q⟩:=h;obtain⟨t,rfl⟩:=rx;obtain⟨t',rfl⟩:=ry;exact rule i j t t' s _ _ ⟨.bl (g i j),H,I,rfl,q⟩
def bKe(i j:Int):Prop:=0<j/\j<1073741824
def bI3(i j:Int):Prop:=0<=j/\j<=1000000/\i.natAbs<2^64
def aX9(i j:Int):Prop:=(-(2^64)<i/\i<2^64)\/(-(2^64)<j/\j<2^64)
theorem aX9.ok{i j:Int}(h:aX9 i j):IntMulOk i j:=by
 rcases h with ⟨h1,h2⟩|⟨h1,h2⟩
 .exact .of_left (intBits_le_64 h1 h2)
 .exact .of_right (intBits_le_64 h1 h2)
theorem aQr(k:Nat):(0:Int)<=2^k:=by
 rw[two_pow_cast];exact Int.natCast_nonneg _
theorem bF1:OpR X (binaryOp .Add) (rI0 λi j=>.int (i+j)):=bAt λ_ _ _ _ _ _ _ q=>add_int q
theorem bF2:OpR X (binaryOp .Sub) (rI0 λi j=>.int (i-j)):=bAt λ_ _ _ _ _ _ _ q=>sub_int q
theorem bF3:OpR X (binaryOp .Mult) (rI aX9 λi j=>.int (i*j)):=opI λ_ _ _ _ _ _ _ hc q=>mul_int q hc.ok
theorem bAv:OpR X (binaryOp .FloorDiv) (rI bKe λi j=>.int (i/j)):=opI λi j _ _ _ _ _ hc q=>by
 have h1:(0:Int)<j:=hc.1;have h2:j<1073741824:=hc.2;exact floordiv_int (by omega) (by rw[Int.fdiv_eq_ediv_of_nonneg i (by omega)];exact q) (.inl (PyProof.noPylong_small (by omega)))
theorem bF4:OpR X (binaryOp .Mod) (rI (λ_ j=>0<j) λi j=>.int (i%j)):=opI λi j _ _ _ _ _ hc q=>by
 have h1:(0:Int)<j:=hc;exact mod_int' (by omega) (by rw[Int.fmod_eq_emod_of_nonneg i (by omega)];exact q)
theorem bF5:OpR X (binaryOp .Pow) (rI bI3 λi j=>.int (i^j.toNat)):=opI λ_ _ _ _ _ _ _ hc q=>pow_int_small hc.1 hc.2.1 hc.2.2 q
theorem bF6:OpR X (binaryOp .LShift) (rI bI3 λi j=>.int (i*2^j.toNat)):=opI λ_ _ _ _ _ _ _ hc q=>lshift_int_small hc.1 hc.2.1 hc.2.2 q
theorem bF7:OpR X (binaryOp .RShift) (rI (λ_ j=>0<=j) λi j=>.int (i/2^j.toNat)):=opI λi j _ _ _ _ _ hc q=>
 rshift_int hc (by rw[Int.fdiv_eq_ediv_of_nonneg i (aQr _)];exact q)
theorem bF8:OpR X (binaryOp .BitAnd) (rI0 λi j=>.int (Builtin.bitAnd i j)):=bAt λ_ _ _ _ _ _ _ q=>and_int q
theorem bI4:OpR X (binaryOp .BitOr) (rI0 λi j=>.int (Builtin.bitOr i j)):=bAt λ_ _ _ _ _ _ _ q=>or_int q
theorem unI{f:Value->Sem Value}{g:Int->Int}
  (rule:∀(i:Int)(t:Tok)(s:Shared)(Q:Value->Shared->Prop)(E:Value->Shared->Prop),Q (.int (g i) s.toks) {s with toks:=s.toks+1}->wpAny (model X.prog X.w) X.A (f (.int i t)) Q E s) :
  UnR X f (rU λi=>.int (g i)):=by
 intro pins s σ H x v Q I rx h;obtain⟨i,rfl,q⟩:=h;obtain⟨t,rfl⟩:=rx;exact rule i t s _ _ ⟨.int (g i),H,I.tok _,⟨_,rfl⟩,q⟩
theorem bF9:UnR X (unaryOp .USub) (rU λi=>.int (-i)):=unI λ_ _ _ _ _ q=>neg_int q
end
section
variable{X:Cx}{a b c:Expr}{ta tb tc:TE}{pos:Pos}
theorem aQs{pins:List (Addr×Obj)}{σ:St}{H:Hp}{s:Shared}{Q:VK}{k k':Bool}(I:Inv X pins σ H s)(q:Q (.bl k) H)(e:k=k'):EP X pins σ Q (.bool k') s:=by
 subst e;exact⟨.bl k,H,I,rfl,q⟩
theorem aSm:OpR X (compareOp .Lt) (rI0 λi j=>.bl (decide (i<j))):=bAu λ_ _ _ _ _ _ _ q=>lt_int q
theorem bDw:OpR X (compareOp .LtE) (rI0 λi j=>.bl (decide (i<=j))):=bAu λ_ _ _ _ _ _ _ q=>le_int q
theorem aO6:OpR X (compareOp .Gt) (rI0 λi j=>.bl (decide (j<i))):=bAu λ_ _ _ _ _ _ _ q=>gt_int q
theorem aXa:OpR X (compareOp .GtE) (rI0 λi j=>.bl (decide (j<=i))):=bAu λ_ _ _ _ _ _ _ q=>ge_int q
theorem aV3:OpR X (compareOp .In) (λx y H Q=>∃i j,x=.str i/\y=.str j/\Q (.bl (!(Builtin.Str.occurrences j i 0 j.length 1).isEmpty)) H):=by
 intro pins s σ H x y v u Q I rx ry h;obtain⟨i,j,rfl,rfl,q⟩:=h;obtain⟨t,rfl⟩:=rx;obtain⟨t',rfl⟩:=ry;exact in_str (aQs I q rfl)
theorem bAw:OpR X (compareOp .IsNot) (λx y H Q=>y=.non/\Q (.bl (!decide (x=.non))) H):=by
 intro pins s σ H x y v u Q I rx ry h;obtain⟨rfl,q⟩:=h;cases ry;refine isnot_none_gen (aQs I q ?_);cases x<;>first
  |(cases rx;rfl)
  |(obtain⟨t,rfl⟩:=rx;rfl)
theorem aMa:OpR X (compareOp .NotIn) (λx y H Q=>∃i j,x=.str i/\y=.str j/\Q (.bl (!(!(Builtin.Str.occurrences j i 0 j.length 1).isEmpty))) H):=by
 intro pins s σ H x y v u Q I rx ry h;obtain⟨i,j,rfl,rfl,q⟩:=h;obtain⟨t,rfl⟩:=rx;obtain⟨t',rfl⟩:=ry;exact notIn_str (aQs I q rfl)
theorem OpR.or{f:Value->Value->Sem Value}{r r':R2}(h:OpR X f r)(h':OpR X f r'):OpR X f (λx y H Q=>r x y H Q\/r' x y H Q):=by
 intro pins s σ H x y v u Q I rx ry q;rcases q with q|q
 .exact h pins s σ H x y v u Q I rx ry q
 .exact h' pins s σ H x y v u Q I rx ry q
theorem bK(b:Expr){op:CmpOp}(h:op≠.In:=by decide)(h2:op≠.NotIn:=by decide):behindInMarks op b=false:=by
 have e1:(op==CmpOp.In)=false:=by cases op<;>first|rfl|exact absurd rfl h
 have e2:(op==CmpOp.NotIn)=false:=by cases op<;>first|rfl|exact absurd rfl h2
 cases b<;>simp[behindInMarks,e1,e2]
theorem bAx{op:CmpOp}{r:R2}(ho:OpR X (compareOp op) r)(ha:PE X a ta)(hb:PE X b tb)(hm:behindInMarks op b=false):PE X (.Compare a [op] [b] pos) (tOp r ta tb):=by
 intro pins s σ H Q I h;exact wpAny_Compare1 (bF0 ha hb I h λv u s2 x y H2 I2 rx ry q=>ho pins s2 σ H2 x y v u Q I2 rx ry q) hm
def bI5(t:TE):TT:=λσ H Q=>t σ H λx H'=>∃k,x=.bl k/\Q k H'
theorem bAy{op:CmpOp}{r:R2}(ho:OpR X (compareOp op) r)(ha:PE X a ta)(hb:PE X b tb)(hm:behindInMarks op b=false):PT X (.Compare a [op] [b] pos) (bI5 (tOp r ta tb)):=by
 intro pins s σ H Q I h;refine wpAny_isTrue_Compare1 (thn (ha pins s σ H _ I h) λv s1 ⟨x,H1,I1,r1,q1⟩=>thn (hb pins s1 σ H1 _ I1 q1) λu s2 ⟨y,H2,I2,r2,q2⟩=>
  thn (ho pins s2 σ H2 x y v u _ I2 r1 r2 q2) λc s3 ⟨z,H3,I3,r3,k,e,q3⟩=>?_) hm
 subst e;cases r3;exact wpAny_truthy_bool ⟨H3,I3,q3⟩
theorem aFo:(sizeLine:Nat)<2^63:=by rw[sizeLine_eq];decide
theorem aQt:OpR X (binaryOp .Add) (λx y H Q=>∃i j,x=.str i/\y=.str j/\i.length+j.length<=sizeLine/\Q (.str (i++j)) H):=by
 intro pins s σ H x y v u Q I rx ry h;obtain⟨i,j,rfl,rfl,hz,q⟩:=h;obtain⟨t,rfl⟩:=rx;obtain⟨t',rfl⟩:=ry;exact add_str (λt' tk=>⟨.str (i++j),H,I.tok _,⟨_,rfl⟩,q⟩) hz
theorem vals1{x:V}{us:List Value}(r:Vals [x] us):∃u,us=[u]/\RelV x u:=by
 cases r with
 |cons r1 r2=>cases r2;exact⟨_,rfl,r1⟩
theorem vals2{x y:V}{us:List Value}(r:Vals [x,y] us):∃u w',us=[u,w']/\RelV x u/\RelV y w':=by
 cases r with
 |cons r1 r2=>
  cases r2 with
  |cons r3 r4=>cases r4;exact⟨_,_,rfl,r1,r3⟩
theorem aV4(hc:X.calm=true):oM X (.builtin "max") (λxs H Q=>∃i j,xs=[.int i,.int j]/\Q (.int (if j>i then j else i)) H):=by
 intro pins s σ H xs us Q I r h;obtain⟨i,j,rfl,q⟩:=h;obtain⟨u,w',rfl,⟨t,rfl⟩,⟨t',rfl⟩⟩:=vals2 r;refine max_two_ints (I.ok.hd hc) λh' tk k=>⟨_,H,I.kept k,?_,q⟩
 by_cases hj:j>i
 .rw[if_pos hj,if_pos hj];exact⟨_,rfl⟩
 .rw[if_neg hj,if_neg hj];exact⟨_,rfl⟩
theorem aV5(hc:X.calm=true):oM X (.builtin "min") (λxs H Q=>∃i j,xs=[.int i,.int j]/\Q (.int (if j<i then j else i)) H):=by
 intro pins s σ H xs us Q I r h;obtain⟨i,j,rfl,q⟩:=h;obtain⟨u,w',rfl,⟨t,rfl⟩,⟨t',rfl⟩⟩:=vals2 r;refine min_two_ints (I.ok.hd hc) λh' tk k=>⟨_,H,I.kept k,?_,q⟩
 by_cases hj:j<i
 .rw[if_pos hj,if_pos hj];exact⟨_,rfl⟩
 .rw[if_neg hj,if_neg hj];exact⟨_,rfl⟩
end
end L2
namespace L2
open PySem PySem.Spec PyProof.Rows
structure ObjM(h:Heap)(x dx C:Addr)(mA:Str->Option Value):Prop where
 obj:h.get? x=some (PySem.W.instObj C dx)
 ns:h.Ns1 dx mA
 ne:dx≠x
theorem aV6{h:Heap}{dx:Addr}{mA:Str->Option Value}(n:h.Ns1 dx mA):∃od,h.get? dx=some od/\∀name,PySem.W.lookIn name od=some (mA name):=by
 obtain⟨o,es,ep,ho,hd,hk,_,hm⟩:=n;refine⟨o,ho,λname=>?_⟩
 have e:=hm name;unfold nsFind findBy at e;rw[<-Array.find?_toList]at e;unfold PySem.W.lookIn;rw[hd];dsimp only;split
 .rename_i y q;rw[q]at e;exact congrArg some e
 .rename_i q;rw[q]at e;have a:es.toList.any (·.refKey)=false:=by
   rw[List.any_eq_false];intro y hy;obtain⟨z,t,hkey⟩:=hk y (Array.mem_toList_iff.mp hy);simp[DictEntry.refKey,hkey]
  have a':¬ es.toList.any (·.refKey)=true:=by rw[a];exact Bool.false_ne_true
  rw[if_neg a'];exact congrArg some e
theorem ObjM.look{h:Heap}{x dx C:Addr}{mA:Str->Option Value}(I:ObjM h x dx C mA):∃od,PySem.W.InstAt h x (PySem.W.instObj C dx) C (some od)/\∀name,PySem.W.lookIn name od=some (mA name):=
 let ⟨od,ho,hl⟩:=aV6 I.ns
 ⟨od,⟨I.obj,rfl,rfl,ho⟩,hl⟩
section
variable{prog:Program}{w:World}{A:Around}{E:Value->Shared->Prop}{s:Shared}{K:PySem.W.Frag}{x dx C f:Addr}{mA:Str->Option Value}{name:Str}{v:Value}
theorem bAz{expr:Bool}{Q:Value->Shared->Prop}(X:K.In s.heap)(I:ObjM s.heap x dx C mA)(hg:PySem.W.plainGet K C name=true)(hh:PySem.W.hasDictIn K C=true)
  (ha:PySem.W.findIn K (.ref C) name=some none) (hv:mA name=some v) (hv':PySem.W.handedIn v=true) (h:Q v {s with toks:=s.toks+1}) :
  wpAny (model prog w) A (getAttr (.ref x) name expr) Q E s:=by
 obtain⟨od,J,hl⟩:=I.look;exact PySem.W.get_value X J (PySem.W.plainGet_of hg).1 (PySem.W.findObj_own hh ha rfl (by rw[hl,hv])) hv' h
theorem aXb{pl:Sem Bool}{Q:Value×List Value->Shared->Prop}(X:K.In s.heap)(I:ObjM s.heap x dx C mA)(hg:PySem.W.plainGet K C name=true)
  (hf:PySem.W.findIn K (.ref C) name=some (some (.ref f))) (ht:PySem.W.isFn K (.ref f)=true) (hv:mA name=none) (h:Q (.ref f,[.ref x]) s) :
  wpAny (model prog w) A (getMethod (.ref x) name pl) Q E s:=by
 obtain⟨od,J,hl⟩:=I.look;exact PySem.W.method_fn X J (PySem.W.plainGet_of hg).1 (PySem.W.plainGet_of hg).2 hf (beq_iff_eq.mp ht) (by show (PySem.W.lookIn name od).map (·.isSome)=some false;rw[hl,hv];rfl) h
theorem bB0{ns:List Str}{Q:Unit->Shared->Prop}(X:K.In s.heap)(I:ObjM s.heap x dx C mA)
  (hs:PySem.W.findIn K (.ref C) "__setattr__"=some (some (.builtin "object.__setattr__"))) (hp:PySem.W.plainOver K C=true) (ht:PySem.W.takerIn K C name=some none) (hh:PySem.W.hasDictIn K C=true)
  (hw:PySem.Within mA ns) (hsz:ns.length<=sizeLine)
  (h:∀h',ObjM h' x dx C (λy=>if y=name then some v else mA y)->Heap.SameBut dx s.heap h'->Q () {s with heap:=h',toks:=s.toks+2}) :
  wpAny (model prog w) A (setAttr (.ref x) name v) Q E s:=by
 obtain⟨od,J,hl⟩:=I.look;refine PySem.W.set_plain X J hs (PySem.W.osa_open (s:={s with toks:=s.toks+1}) (r:=none) X J hp ht λb=>?_)
 obtain⟨cd,hc,hd'⟩:=PySem.W.any_some hh;have hx:s.heap.get? x=some ⟨.ref C,some dx,.plain, #[]⟩:=I.obj;refine wpAny_bind (wpAny_pure (wpAny_bind (wpAny_bind (wpAny_loadPart hx (wpAny_bind (PySem.W.Looks.here (s:={s with toks:=s.toks+1}) (PySem.W.looks_clsIn X hc) ?_))))))
 rw[hd'];refine wpAny_pure (a:=some dx) (wpAny_bind (wpAny_pure (wpAny_bind ?_)));refine wpAny_nsSet1 (s:={s with toks:=s.toks+1}) I.ns λh' hn2 hs2=>?_
 obtain⟨oD,esD,epD,hoD,hdD,hcD⟩:=hn2.count (PySem.Within.cons name v hw);refine wpAny_bind (wpAny_lookBehind hoD (by rw[hdD];exact pastItsLine_dict (Nat.le_trans hcD (by rw[List.length_cons];omega))) ?_)
 exact wpAny_pure (h _ ⟨(hs2.2 _ (Ne.symm I.ne)).trans I.obj,hn2,I.ne⟩ hs2)
theorem aXc{R:Result->Shared->Prop}{vs:List Value}{kw:List (Str×Value)}(X:K.In s.heap)(hm:PySem.W.makesIn K C=true)
  (hi:PySem.W.findIn K (.ref C) "__init__"=some (some (.ref f))) (hf:PySem.W.typeIn K (.ref f)=some (.type "function"))
  (h:codeAny (model prog w) (A.under (.builtin "type.__call__" ⟨.ref C::vs,kw⟩)) (.call (.ref f) ⟨.ref (s.heap.objs.size+1)::vs,kw⟩) (PySem.W.InitBack (s.heap.objs.size+1) R)
   {s with heap:=(s.heap.push PySem.W.emptyDict).push (PySem.W.instObj C s.heap.objs.size)}) :
  codeAny (model prog w) A (.call (.ref C) ⟨vs,kw⟩) R s:=by
 obtain⟨hh,g,d,t,os⟩:=s;exact PySem.W.make_core (PySem.W.makes_of X hm) (PySem.W.looks_findIn X hi) (λself=>PySem.W.bind_fn X self hf) (.inl rfl) h
theorem aV7{R:Result->Shared->Prop}(X:K.In s.heap)(hm:PySem.W.makesIn K C=true)
  (hi:PySem.W.findIn K (.ref C) "__init__"=some (some (.builtin "object.__init__")))
  (hb:∀self,PySem.W.Looks (model prog w) s.heap (bindSpecial (.builtin "object.__init__") self) (.builtin "object.__init__",[self]))
  (h:codeAny (model prog w) (A.under (.builtin "type.__call__" ⟨[.ref C],[]⟩)) (.call (.builtin "object.__init__") ⟨[.ref (s.heap.objs.size+1)],[]⟩) (PySem.W.InitBack (s.heap.objs.size+1) R)
   {s with heap:=(s.heap.push PySem.W.emptyDict).push (PySem.W.instObj C s.heap.objs.size)}) :
  codeAny (model prog w) A (.call (.ref C) ⟨[],[]⟩) R s:=by
 obtain⟨hh,g,d,t,os⟩:=s;exact PySem.W.make_core (PySem.W.makes_of X hm) (PySem.W.looks_findIn X hi) hb (.inr ⟨rfl,rfl⟩) h
end
def aA7(f:Str)(v:V):List (Str×V)->List (Str×V)
 |[]=>[(f,v)]
 |(g,x)::r=>if g=f then (g,v)::r else (g,x)::aA7 f v r
theorem aGm(f g:Str)(v:V):∀fs:List (Str×V),(aA7 f v fs).lookup g=if g=f then some v else fs.lookup g
 |[]=>by
  show List.lookup g [(f,v)]=_
  by_cases h:g=f
  .have hb:(g==f)=true:=beq_iff_eq.mpr h;simp only[List.lookup,hb,if_pos h]
  .have hb:(g==f)=false:=beq_eq_false_iff_ne.mpr h;simp only[List.lookup,hb,if_neg h]
 |(k,x)::r=>by
  have ih:=aGm f g v r;rw[show aA7 f v ((k,x)::r)=(if k=f then (k,v)::r else (k,x)::aA7 f v r) from rfl]
  by_cases hk:k=f
  .rw[if_pos hk]
   by_cases h:g=k
   .have hb:(g==k)=true:=beq_iff_eq.mpr h;simp only[List.lookup,hb,if_pos (h.trans hk)]
   .have hb:(g==k)=false:=beq_eq_false_iff_ne.mpr h;simp only[List.lookup,hb,if_neg (λe:g=f=>h (e.trans hk.symm))]
  .rw[if_neg hk]
   by_cases h:g=k
   .have hb:(g==k)=true:=beq_iff_eq.mpr h;simp only[List.lookup,hb,if_neg (λe:g=f=>hk (h.symm.trans e))]
   .have hb:(g==k)=false:=beq_eq_false_iff_ne.mpr h;simp only[List.lookup,hb];exact ih
theorem aFp(f:Str)(v:V):∀fs:List (Str×V),f∈(aA7 f v fs).map (·.1)/\∀g,g∈fs.map (·.1)->g∈(aA7 f v fs).map (·.1)
 |[]=>⟨by simp[aA7],λg h=>by simp at h⟩
 |(k,x)::r=>by
  obtain⟨i1,i2⟩:=aFp f v r;rw[show aA7 f v ((k,x)::r)=(if k=f then (k,v)::r else (k,x)::aA7 f v r) from rfl]
  by_cases hk:k=f
  .rw[if_pos hk];subst hk;exact⟨by simp,λg h=>by simpa using h⟩
  .rw[if_neg hk];refine⟨?_,λg h=>?_⟩
   .rw[List.map_cons];exact List.mem_cons_of_mem _ i1
   .rw[List.map_cons]at h ⊢;rcases List.mem_cons.mp h with e|e
    .exact List.mem_cons.mpr (.inl e)
    .exact List.mem_cons_of_mem _ (i2 g e)
theorem aGn(f:Str)(v:V):∀fs:List (Str×V),(aA7 f v fs).length<=fs.length+1
 |[]=>by simp[aA7]
 |(k,x)::r=>by
  have ih:=aGn f v r;rw[show aA7 f v ((k,x)::r)=(if k=f then (k,v)::r else (k,x)::aA7 f v r) from rfl]
  by_cases hk:k=f
  .rw[if_pos hk,List.length_cons,List.length_cons];omega
  .rw[if_neg hk,List.length_cons,List.length_cons];omega
theorem xR.some_of{v:V}{o:Option Value}(r:xR (some v) o):∃u,o=some u/\RelV v u:=by
 cases o with
 |none=>exact(show False from r).elim
 |some u=>exact⟨u,rfl,r⟩
theorem xR.none_of{o:Option Value}(r:xR none o):o=none:=by
 cases o with
 |none=>rfl
 |some u=>exact(show False from r).elim
theorem aV8{v:V}{u:Value}(r:RelV v u):PySem.W.handedIn u=true:=by
 cases v with
 |non=>cases (show u=Value.none from r);rfl
 |bl b=>cases (show u=Value.bool b from r);rfl
 |int i=>obtain⟨t,e⟩:=(show ∃t,u=Value.int i t from r);cases e;rfl
 |str x=>obtain⟨t,e⟩:=(show ∃t,u=Value.str x t from r);cases e;rfl
 |byt b=>obtain⟨t,e⟩:=(show ∃t,u=Value.bytes b t from r);cases e;rfl
 |flt b=>obtain⟨t,e⟩:=(show ∃t,u=Value.float b t from r);cases e;rfl
 |ref a=>cases (show u=Value.ref a from r);rfl
 |ty n=>cases (show u=Value.type n from r);rfl
section
variable{P:Program}{w:World}{H H':Hp}{h h':Heap}{a C dx:Addr}{fs fs':List (Str×V)}
theorem aMb(hok:HOk P w H h)(e:H a=some (.ins C dx fs)):∃mA,ObjM h a dx C mA/\(∀f,xR (fs.lookup f) (mA f))/\PySem.Within mA (fs.map (·.1))/\fs.length<=1000/\H dx=some (.own a):=by
 obtain⟨d,z,ne,ob,mA,n,r,q⟩:=(show mG P w H h a (.ins C dx fs) from hok a _ e)
 exact⟨mA,⟨ob,n,ne⟩,r,q,z,d⟩
end
structure Cls(K:PySem.W.Frag)(C:Addr):Prop where
 pg:PySem.W.plainGet K C Str.empty=true
 hd:PySem.W.hasDictIn K C=true
 po:PySem.W.plainOver K C=true
 sa:PySem.W.findIn K (.ref C) "__setattr__"=some (some (.builtin "object.__setattr__"))
theorem Cls.get{K:PySem.W.Frag}{C:Addr}(c:Cls K C)(f:Str):PySem.W.plainGet K C f=true:=c.pg
def mJ(K:PySem.W.Frag)(C:Addr)(f:Str):Prop:=PySem.W.findIn K (.ref C) f=some none
theorem mJ.taker{K:PySem.W.Frag}{C:Addr}{f:Str}(n:mJ K C f):PySem.W.takerIn K C f=some none:=by
 unfold PySem.W.takerIn;rw[show PySem.W.findIn K (.ref C) f=some none from n]
 rfl
structure Meth(K:PySem.W.Frag)(C:Addr)(m:Str)(f:Addr):Prop where
 at_:PySem.W.findIn K (.ref C) m=some (some (.ref f))
 fn:PySem.W.isFn K (.ref f)=true
 kp:PySem.W.keepIn K (.ref f)=true
section
variable{X:Cx}{pins:List (Addr×Obj)}{σ:St}{H:Hp}{s:Shared}{a C dx:Addr}{fs:List (Str×V)}{f:Str}{v:V}{A:Around}{E:Value->Shared->Prop}
theorem aQu{b:Bool}{Q:Value->Shared->Prop}(I:Inv X pins σ H s)(e:H a=some (.ins C dx fs))(c:Cls X.K C)(n:mJ X.K C f)(l:fs.lookup f=some v)
  (h:∀u s',Inv X pins σ H s'->RelV v u->Q u s'):wpAny (model X.prog X.w) A (getAttr (.ref a) f b) Q E s:=by
 obtain⟨mA,O,r,_,_,_⟩:=aMb I.hok e;obtain⟨u,hu,ru⟩:=xR.some_of (v:=v) (o:=mA f) (by rw[<-l];exact r f)
 exact bAz I.kIn O (c.get f) c.hd n hu (aV8 ru) (h u _ (I.tok _) ru)
theorem aQv{m:Str}{g:Addr}{pl:Sem Bool}{Q:Value×List Value->Shared->Prop}(I:Inv X pins σ H s)(e:H a=some (.ins C dx fs))(c:Cls X.K C)(k:Meth X.K C m g)(l:fs.lookup m=none)
  (h:Q (.ref g,[.ref a]) s):wpAny (model X.prog X.w) A (getMethod (.ref a) m pl) Q E s:=by
 obtain⟨mA,O,r,_,_,_⟩:=aMb I.hok e;have hn:mA m=none:=xR.none_of (by rw[<-l];exact r m)
 exact aXb I.kIn O (c.get m) k.at_ k.fn hn h
theorem aQw{y:V}{u:Value}{Q:Unit->Shared->Prop}(I:Inv X pins σ H s)(e:H a=some (.ins C dx fs))(c:Cls X.K C)(n:mJ X.K C f)(hl:fs.length<1000)(ry:RelV y u)
  (h:∀s',Inv X pins σ (upd H a (.ins C dx (aA7 f y fs))) s'->Q () s'):wpAny (model X.prog X.w) A (setAttr (.ref a) f u) Q E s:=by
 obtain⟨mA,O,r,wi,_,ho⟩:=aMb I.hok e;have hz:(fs.map (·.1)).length<=sizeLine:=by rw[List.length_map,sizeLine_eq];omega
 refine bB0 I.kIn O c.sa c.po n.taker c.hd wi hz λh' O' sb=>h _ ?_
 have hd:∃o,h'.get? dx=some o:=let ⟨o,_,_,e',_⟩:=O'.ns;⟨o,e'⟩;refine I.write (x:=a) (e:=dx) (by rw[e];exact True.intro) (.inr ho) (λb q hb z=>(sb.2 b hb).trans z) hd ?_
 refine⟨by rw[bQ O.ne];exact ho,?_,O.ne,O'.obj,_,O'.ns,λg=>?_,λg hg=>?_⟩
 .have:=aGn f y fs;omega
 .show xR ((aA7 f y fs).lookup g) (if g=f then some u else mA g)
  rw[aGm]
  by_cases q:g=f
  .rw[if_pos q,if_pos q];exact ry
  .rw[if_neg q,if_neg q];exact r g
 .by_cases q:g=f
  .rw[q];exact(aFp f y fs).1
  .refine(aFp f y fs).2 g (wi g λz=>hg ?_)
   show (if g=f then some u else mA g)=none
   rw[if_neg q];exact z
theorem Inv.made(I:Inv X pins σ H s):Inv X pins σ (upd (upd H s.heap.objs.size (.own (s.heap.objs.size+1))) (s.heap.objs.size+1) (.ins C s.heap.objs.size []))
  {s with heap:=(s.heap.push PySem.W.emptyDict).push (PySem.W.instObj C s.heap.objs.size)}:=by
 have e1:(s.heap.push PySem.W.emptyDict).get? s.heap.objs.size=some PySem.W.emptyDict:=Heap.get?_push_size s.heap rfl;have e2:((s.heap.push PySem.W.emptyDict).push (PySem.W.instObj C s.heap.objs.size)).get? (s.heap.objs.size+1)=some (PySem.W.instObj C s.heap.objs.size):=by
  have:=Heap.get?_push_size (s.heap.push PySem.W.emptyDict) (o:=PySem.W.instObj C s.heap.objs.size) rfl
  rwa [Heap.size_push]at this
 have e3:(s.heap.push PySem.W.emptyDict).Ns s.heap.objs.size (λ_=>none):=⟨PySem.W.emptyDict, #[],_,e1,rfl,(λe he=>absurd he (by simp)),λ_=>rfl⟩
 have I1:=I.laid (a:=s.heap.objs.size) (o:=.own (s.heap.objs.size+1)) (h':=s.heap.push PySem.W.emptyDict) (t':=s.toks) (λb u q=>Heap.get?_push_of_some _ q) (Nat.le_refl _) ⟨_,e1⟩
 refine I1.laid (a:=s.heap.objs.size+1) (o:=.ins C s.heap.objs.size []) (t':=s.toks) (λb u q=>Heap.get?_push_of_some _ q) (Nat.le_of_eq (Heap.size_push _ _)) ?_
 have ne:s.heap.objs.size≠s.heap.objs.size+1:=Nat.ne_of_lt (Nat.lt_succ_self _);refine⟨by rw[bQ ne,cD],Nat.zero_le _,ne,e2,λ_=>none,(Heap.Ns1.of_empty e3).at λo q=>Heap.get?_push_of_some _ q,λ_=>True.intro,λy hy=>absurd rfl hy⟩
theorem bB1{prog:Program}{w:World}{env:Env}{e:Expr}{f:Str}{pos:Pos}{s:Shared}{Q:Value->Shared->Prop}(hb:attributeBase e f env (eval e env)=eval e env)
  (h:wpAny (model prog w) A (eval e env) (λo s₁=>wpAny (model prog w) A (getAttr o f true) Q E s₁) E s):wpAny (model prog w) A (eval (.Attribute e f pos) env) Q E s:=
 Attribute_any_ h (by rw[arm_eval_Attribute,hb])
end
def bKf(K:PySem.W.Frag)(ta:TE)(f:Str):TE:=λσ H Q=>ta σ H λx H1=>∃a C dx fs v,x=.ref a/\H1 a=some (.ins C dx fs)/\Cls K C/\mJ K C f/\fs.lookup f=some v/\Q v H1
def bKg(K:PySem.W.Frag)(ta tv:TE)(f:Str):TS:=λD σ H=>tv σ H λy H1=>ta σ H1 λx H2=>∃a C dx fs,x=.ref a/\H2 a=some (.ins C dx fs)/\Cls K C/\mJ K C f/\fs.length<1000/\
 D.nx σ (upd H2 a (.ins C dx (aA7 f y fs)))
section
variable{X:Cx}{o e value:Expr}{f:Str}{pos pos' tpos:Pos}{ta tv:TE}
theorem bFa(he:PE X e ta)(hb:attributeBase e f X.env (eval e X.env)=eval e X.env):PE X (.Attribute e f pos) (bKf X.K ta f):=by
 intro pins s σ H Q I h;refine bB1 hb (thn (he pins s σ H _ I h) λu s1 ⟨x,H1,I1,rx,a,C,dx,fs,v,ex,ea,c,n,l,q⟩=>?_)
 subst ex;obtain rfl:u=Value.ref a:=rx;exact aQu I1 ea c n l λu' s2 I2 ru=>⟨v,H1,I2,ru,q⟩
theorem bFb(ha:PE X o ta)(hv:PE X value tv)(hs:swapsWith value (some (.Attribute o f pos')) pos.line X.env=pure false):PS X (.Assign [.Attribute o f pos'] value pos) (bKg X.K ta tv f):=by
 intro pins s σ H D I h;refine plainObj_wpAny_Assign_Attribute (thn (hv pins s σ H _ I h) λu s1 ⟨y,H1,I1,ry,q⟩=>thn (ha pins s1 σ H1 _ I1 q) λov s2 ⟨x,H2,I2,rx,a,C,dx,fs,ex,ea,c,n,l,q2⟩=>?_) hs
 subst ex;obtain rfl:ov=Value.ref a:=rx;exact aQw I2 ea c n l ry λs3 I3=>⟨σ,_,I3,q2⟩
end
section
variable{X:Cx}{pins:List (Addr×Obj)}{σ:St}{H:Hp}{s:Shared}{A:Around}{E:Value->Shared->Prop}{Q:Value->Shared->Prop}{c:Value}{b:Bool}
inductive TyOf (K:PySem.W.Frag) (H:Hp):V->Value->Prop where
 |non:TyOf K H .non (.type "NoneType")
 |bl (x:Bool):TyOf K H (.bl x) (.type "bool")
 |int (i:Int):TyOf K H (.int i) (.type "int")
 |str (x:Str):TyOf K H (.str x) (.type "str")
 |flt (x:UInt64):TyOf K H (.flt x) (.type "float")
 |lst {a:Addr} {xs:List V} (e:H a=some (.lst xs)):TyOf K H (.ref a) (.type "list")
 |frz {a:Addr} {o:Obj} {xs:List V} (e:H a=some (.frz o (.lst xs))):TyOf K H (.ref a) (.type "list")
 |tup {a:Addr} {xs:List V} (e:H a=some (.tup xs)):TyOf K H (.ref a) (.type "tuple")
 |dK {a:Addr} {kvs:List (Key×V)} (e:H a=some (.dK kvs)):TyOf K H (.ref a) (.type "dict")
 |dT {a:Addr} {kvs:List (List Key×V)} (e:H a=some (.dT kvs)):TyOf K H (.ref a) (.type "dict")
 |ins {a C dx:Addr} {fs:List (Str×V)} (e:H a=some (.ins C dx fs)) (cl:Cls K C) (ha:PySem.W.findIn K (.ref C) "__class__"=some (some (.builtin "object.__class__")))
   (hn:PySem.W.specialIn K (.builtin "object.__class__") "__get__"=some (some (.builtin "getset_descriptor.__get__"))) (htk:PySem.W.takesIn K (.builtin "object.__class__")=some true)
   (hm:PySem.W.mroIn K C (.type "object")=some true):TyOf K H (.ref a) (.ref C)
end
end L2
namespace L2
open PySem PySem.Spec PyProof.Rows
structure Room(k:Nat)(A:Around):Prop where
 hd:A.handled=none
 dp:A.depth+3*k+5<recursionLimit
 un:A.units+16*k+200<cLine
theorem Room.mono{j k:Nat}{A:Around}(r:Room k A)(h:j<=k):Room j A:=⟨r.hd,by have:=r.dp;omega,by have:=r.un;omega⟩
theorem Room.deeper{k:Nat}{A:Around}(r:Room (k+1) A)(env:Env):Room k (A.deeper env):=
 ⟨r.hd,by have:=r.dp;show A.depth+1+3*k+5<_;omega,by have:=r.un;show A.units+3+16*k+200<_;omega⟩
theorem aQx{A:Around}{C:Addr}{us:List Value}{kw:List (Str×Value)}:(A.under (.builtin "type.__call__" ⟨.ref C::us,kw⟩)).depth=A.depth+1:=by
 first|rfl|simp[Around.under,Code.weight,Code.isCreation,Code.isGuard,Code.isCaller,Code.frames,Code.isFrame,guardIds]
theorem aQy{A:Around}{C:Addr}{us:List Value}{kw:List (Str×Value)}:(A.under (.builtin "type.__call__" ⟨.ref C::us,kw⟩)).units=A.units+1:=by
 first|rfl|simp[Around.under,Code.cUnits,Code.frames,Code.isFrame]
theorem Room.make{k:Nat}{A:Around}(r:Room (k+1) A)(C:Addr)(us:List Value)(kw:List (Str×Value)):Room k (A.under (.builtin "type.__call__" ⟨.ref C::us,kw⟩)):=
 ⟨r.hd,by have:=r.dp;rw[aQx];omega,by have:=r.un;rw[aQy];omega⟩
theorem Room.depth{k:Nat}{A:Around}(r:Room k A):A.depth<recursionLimit:=by have:=r.dp;omega
theorem Room.units{k:Nat}{A:Around}(r:Room k A):A.units+64<cLine:=by have:=r.un;omega
def bKh:TA:=λ_ H Q=>Q [] H
def bI6(ta:TE)(tr:TA):TA:=λσ H Q=>ta σ H λx H1=>tr σ H1 λxs H2=>Q (x::xs) H2
section
variable{X:Cx}{e:Expr}{es:List Expr}{te:TE}{t:TA}{pos:Pos}
theorem jO:PA X [] bKh:=λ_ _ _ _ H Q I h=>Calls.spliced_nil ⟨[],H,I,.nil,h⟩
theorem dJ(ha:PE X e te)(hr:PA X es t)(hs:starEach (e::es) X.env=(false,eval e X.env)::starEach es X.env:=by rfl):PA X (e::es) (bI6 te t):=by
 intro pos pins s σ H Q I h;rw[hs];show wpAny _ _ (spliced ((false,eval e X.env)::backTo pos (starEach es X.env))) _ _ s;refine Calls.spliced_cons (thn (ha pins s σ H _ I h) λu s1 ⟨x,H1,I1,r1,q1⟩=>?_)
 exact thn (hr pos pins s1 σ H1 _ I1 q1) λus s2 ⟨xs,H2,I2,r2,q2⟩=>⟨x::xs,H2,I2,.cons r1 r2,q2⟩
def bKi(t:TA):TE:=λσ H Q=>t σ H λxs H1=>xs.length<=sizeLine/\∀p,H1 p=none->Q (.ref p) (upd H1 p (.tup xs))
def bKj(t:TA):TE:=λσ H Q=>t σ H λxs H1=>xs.length<=sizeLine/\∀p,H1 p=none->Q (.ref p) (upd H1 p (.lst xs))
theorem bFc{x1}(h:PA X es t):PE X (.Tuple es x1 pos) (bKi t):=by
 intro pins s σ H Q I hq;refine wpAny_Tuple_spliced (thn (h pos pins s σ H _ I hq) λus s1 ⟨xs,H1,I1,r,z,q⟩=>⟨by rw[<-r.length];exact z,?_⟩)
 have hf:H1 s1.heap.objs.size=none:=I1.hok.fresh (Nat.le_refl _);refine⟨.ref s1.heap.objs.size,upd H1 s1.heap.objs.size (.tup xs),I1.laid (t':=s1.toks) (λb u e=>Heap.get?_push_of_some _ e) (Nat.le_refl _) ?_,rfl,q _ hf⟩
 exact⟨z,us,r,⟨_,Heap.get?_push_size _ rfl,rfl,_,rfl⟩⟩
theorem aQz(h:PA X es t):PE X (.List es pos) (bKj t):=by
 intro pins s σ H Q I hq;refine wpAny_List_spliced (thn (h pos pins s σ H _ I hq) λus s1 ⟨xs,H1,I1,r,z,q⟩=>⟨by rw[<-r.length];exact z,?_⟩)
 have hf:H1 s1.heap.objs.size=none:=I1.hok.fresh (Nat.le_refl _);refine⟨.ref s1.heap.objs.size,upd H1 s1.heap.objs.size (.lst xs),I1.laid (t':=s1.toks) (λb u e=>Heap.get?_push_of_some _ e) (Nat.le_refl _) ?_,rfl,q _ hf⟩
 exact⟨z,us,0,r,Heap.get?_push_size _ rfl⟩
end
abbrev Sp:=List V->Hp->VK->XK->Prop
abbrev CXT:=List Env->Hp->Shared->XK->Value->Shared->Prop
structure Env0(P:Program)(w:World)(K:PySem.W.Frag)(mg:Str->Option Value)(base:Heap)(A:Around)(outer:List Env)(s:Shared)(H:Hp):Prop where
 frames:A.frames=some outer
 mod:Mod K mg base
 bs:∀b o,base.get? b=some o->s.heap.get? b=some o/\H b=none
 bsz:base.objs.size<=s.heap.objs.size
 funs:s.heap.FunFrames base outer
 frf:∀b∈frs outer,H b=none
 hok:HOk P w H s.heap
 bare:AllBare s.gens
def CE(outer:List Env)(P:Program)(w:World)(H:Hp)(s:Shared)(Q:VK)(u:Value)(s':Shared):Prop:=
 ∃v H',s'.os=s.os/\AllBare s'.gens/\Un (frs outer) [] H H' s.heap s'.heap/\HOk P w H' s'.heap/\RelV v u/\Q v H'
def CR(CX:CXT)(outer:List Env)(P:Program)(w:World)(H:Hp)(s:Shared)(Q:VK)(E:XK)(r:Result)(s':Shared):Prop:=
 match r with
 |.ok (.ret u)=>CE outer P w H s Q u s'
 |.ok _=>False
 |.error e=>CX outer H s E e s'
structure FnOk(P:Program)(w:World)(K:PySem.W.Frag)(mg:Str->Option Value)(base:Heap)(CX:CXT)(k:Nat)(f:Addr)(fd:FuncData)(ps:List Str)(sp:Sp):Prop where
 len:∀vs H Q E,sp vs H Q E->vs.length=ps.length
 run:∀(A:Around)(outer:List Env)(s:Shared)(H:Hp)(args:Args)(us:List Value)(vs:List V)(Q:VK)(E:XK),Room k A->Env0 P w K mg base A outer s H->BindsTo s fd args (ps.zip us)->Vals vs us->sp vs H Q E->
  codeAny (model P w) A (.call (.ref f) args) (CR CX outer P w H s Q E) s
theorem Env0.make{P:Program}{w:World}{K:PySem.W.Frag}{mg:Str->Option Value}{base:Heap}{A:Around}{outer:List Env}{s:Shared}{H:Hp}(e:Env0 P w K mg base A outer s H)(C:Addr)(us:List Value)(kw:List (Str×Value)) :
  Env0 P w K mg base (A.under (.builtin "type.__call__" ⟨.ref C::us,kw⟩)) outer s H:=⟨by first|exact e.frames|(simpa [Around.under,Code.envs,Code.isFrame,pushEnvs] using e.frames),e.mod,e.bs,e.bsz,e.funs,e.frf,e.hok,e.bare⟩
section
variable{X:Cx}{pins:List (Addr×Obj)}{σ:St}{H:Hp}{s s':Shared}
theorem Inv.env0(I:Inv X pins σ H s):Env0 X.prog X.w X.K X.mg X.base X.A X.stack s H:=
 ⟨I.ok.frames,I.ok.mod,I.bs,Nat.le_trans I.ok.bsz I.sz,I.stack,I.stkFree,I.hok,I.bare⟩
theorem Inv.after{Q:VK}{u:Value}(I:Inv X pins σ H s)(h:CE X.stack X.prog X.w H s Q u s'):EP X pins σ Q u s':=by
 obtain⟨v,H',os,bare,un,hok,r,q⟩:=h;obtain⟨hh,g,d,t,os'⟩:=s';obtain rfl:os'=s.os:=os;exact⟨v,H',I.call (h':=hh) (g':=g) (d':=d) (t':=t) (ch:=[]) un hok bare (λb z=>absurd z (by simp)),r,q⟩
end
def bI7(sp:Sp)(dvs:List V)(E:XK)(t:TA):TE:=λσ H Q=>t σ H λvs H1=>sp (vs++dvs) H1 Q E
def bI8(C:Addr)(m:Str)(sp:Sp)(dvs:List V)(E:XK)(ta:TE)(t:TA):TE:=λσ H Q=>ta σ H λx H1=>∃a dx fs,x=.ref a/\H1 a=some (.ins C dx fs)/\fs.lookup m=none/\
 t σ H1 λvs H2=>sp (x::(vs++dvs)) H2 Q E
def bI9(C:Addr)(sp:Sp)(dvs:List V)(E:XK)(t:TA):TE:=λσ H Q=>t σ H λvs H1=>∀x dx,H1 x=none->H1 dx=none->dx≠x->
 sp (.ref x::(vs++dvs)) (upd (upd H1 dx (.own x)) x (.ins C dx [])) (λv H2=>v=.non/\Q (.ref x) H2) E
def Binds(K:PySem.W.Frag)(fd:FuncData)(ps:List Str)(ds:List Value):Prop:=
 ∀(s:Shared)(us:List Value),K.In s.heap->(us++ds).length=ps.length->BindsTo s fd ⟨us,[]⟩ (ps.zip (us++ds))
theorem Binds.all{K:PySem.W.Frag}{fd:FuncData}{ps:List Str}(h:∀us:List Value,us.length=ps.length->bindArgs fd ⟨us,[]⟩=pure (ps.zip us)):Binds K fd ps []:=λs us _ hl=>by
 rw[List.append_nil]at hl ⊢;exact .of_eq (h us hl)
def aFq(CX:CXT)(X:Cx)(E:XK):Prop:=∀(pins:List (Addr×Obj)) (σ:St) (H:Hp) (s:Shared) (e:Value) (s':Shared),Inv X pins σ H s->CX X.stack H s E e s'->X.xe e s'
section
variable{X:Cx}{CX:CXT}{k:Nat}{f C:Addr}{fd:FuncData}{ps:List Str}{sp:Sp}{dvs:List V}{ds:List Value}{E:XK}{x m:Str}{p pos apos:Pos}{e o:Expr}{es:List Expr}{ta:TE}{t:TA}
theorem aXd{pins:List (Addr×Obj)}{σ:St}{H:Hp}{s:Shared}{Q:VK}{us:List Value}{vs:List V}(F:FnOk X.prog X.w X.K X.mg X.base CX k f fd ps sp)(hr:Room k X.A)(hb:Binds X.K fd ps ds)(hd:Vals dvs ds)(hx:aFq CX X E)
  (I:Inv X pins σ H s) (r:Vals vs us) (h:sp (vs++dvs) H Q E):wpAny (model X.prog X.w) X.A (call (.ref f) us) (EP X pins σ Q) X.xe s:=by
 have r2:Vals (vs++dvs) (us++ds):=r.append hd;have hl:(us++ds).length=ps.length:=by rw[<-r2.length];exact F.len _ _ _ _ h
 refine wpAny_call (codeAny_mono (F.run X.A X.stack s H ⟨us,[]⟩ (us++ds) (vs++dvs) Q E hr I.env0 (hb s us I.kIn hl) r2 h) λr s' hq=>?_)
 cases r with
 |error e=>exact hx pins σ H s e s' I hq
 |ok fl=>
  cases fl with
  |ret u=>exact I.after hq
  |next=>exact False.elim hq
  |brk=>exact False.elim hq
  |cont=>exact False.elim hq
theorem aMc(F:FnOk X.prog X.w X.K X.mg X.base CX k f fd ps sp)(hr:Room k X.A)(hg:Gl X x)(hm:X.mg x=some (.ref f))(hk:PySem.W.keepIn X.K (.ref f)=true)(hb:Binds X.K fd ps ds)(hd:Vals dvs ds)(hx:aFq CX X E)
  (ha:PA X (e::es) t) (hdb:(x==("__debug__":Str))=false:=by decide) (he:starEach (e::es) X.env=(false,eval e X.env)::starEach es X.env:=by rfl) (hpl:(backTo pos (starEach es X.env)).any (·.1)=false:=by rfl) :
  PE X (.Call (.Name x p) (e::es) [] pos) (bI7 sp dvs E t):=by
 intro pins s σ H Q I h;refine wpAny_Call_Name_kw (aHp I hg hm ?_ hdb);refine PySem.W.callWith_K (h₀:=X.base) I.ok.mod.kin hk (thn (ha pos pins s σ H _ I h) λus s1 ⟨vs,H1,I1,r,q⟩=>⟨I1.kIn,?_⟩) he hpl
 exact aXd F hr hb hd hx I1 r q
theorem bB2{pl:Sem Bool}(he:PE X o ta)(c:Cls X.K C)(hm:Meth X.K C m f)(F:FnOk X.prog X.w X.K X.mg X.base CX k f fd ps sp)(hr:Room k X.A)(hb:Binds X.K fd ps ds)(hd:Vals dvs ds)(hx:aFq CX X E)(ha:PA X (e::es) t)
  (hst:starEach (e::es) X.env=(false,eval e X.env)::starEach es X.env:=by rfl) (hpl:(backTo pos (starEach es X.env)).any (·.1)=false:=by rfl)
  (ht:eval (.Call (.Attribute o m apos) (e::es) [] pos) X.env=(do
   let ov <- eval o X.env
   standAt apos.atName
   let (f,first) <- holding [ov] (getMethod ov m pl)
   callWith pos f first (backTo pos (starEach (e::es) X.env)) (backToKw pos (keywordEach [] X.env))):=by rfl) :
  PE X (.Call (.Attribute o m apos) (e::es) [] pos) (bI8 C m sp dvs E ta t):=by
 intro pins s σ H Q I h;refine PySem.W.methodCall_KW (pl:=pl) (thn (he pins s σ H _ I h) λu s1 ⟨x,H1,I1,rx,a,dx,fs,ex,ea,l,q⟩=>?_) ht
 subst ex;obtain rfl:u=Value.ref a:=rx;refine aQv I1 ea c hm l ?_
 refine PySem.W.callWith_K (first:=[.ref a]) (h₀:=X.base) I.ok.mod.kin hm.kp (thn (ha pos pins s1 σ H1 _ I1 q) λus s2 ⟨vs,H2,I2,r,q2⟩=>⟨I2.kIn,?_⟩) hst hpl
 exact aXd (us:=.ref a::us) (vs:=.ref a::vs) F hr hb hd hx I2 (.cons rfl r) q2
structure Mk(K:PySem.W.Frag)(C f:Addr):Prop where
 makes:PySem.W.makesIn K C=true
 init:PySem.W.findIn K (.ref C) "__init__"=some (some (.ref f))
 fn:PySem.W.isFn K (.ref f)=true
 kp:PySem.W.keepIn K (.ref C)=true
theorem aXe{pins:List (Addr×Obj)}{σ:St}{H:Hp}{s:Shared}{Q:VK}{us:List Value}{vs:List V}(M:Mk X.K C f)(F:FnOk X.prog X.w X.K X.mg X.base CX k f fd ps sp)(hr:Room (k+1) X.A)(hb:Binds X.K fd ps ds)(hd:Vals dvs ds)
  (hx:aFq CX X E) (I:Inv X pins σ H s) (r:Vals vs us)
  (h:∀x dx,H x=none->H dx=none->dx≠x->sp (.ref x::(vs++dvs)) (upd (upd H dx (.own x)) x (.ins C dx [])) (λv H2=>v=.non/\Q (.ref x) H2) E) :
  wpAny (model X.prog X.w) X.A (call (.ref C) us) (EP X pins σ Q) X.xe s:=by
 have hq:=h (s.heap.objs.size+1) s.heap.objs.size (I.hok.fresh (Nat.le_succ _)) (I.hok.fresh (Nat.le_refl _)) (Nat.ne_of_lt (Nat.lt_succ_self _));have I2:=Inv.made (C:=C) I;have r2:Vals (V.ref (s.heap.objs.size+1)::(vs++dvs)) (Value.ref (s.heap.objs.size+1)::(us++ds)):=.cons rfl (r.append hd);have hl:(Value.ref (s.heap.objs.size+1)::us++ds).length=ps.length:=by
  have e:=r2.length;rw[F.len _ _ _ _ hq]at e;exact e.symm
 refine wpAny_call (aXc (f:=f) I.kIn M.makes M.init (beq_iff_eq.mp M.fn) (codeAny_mono (F.run _ X.stack _ _ ⟨Value.ref (s.heap.objs.size+1)::us,[]⟩ (Value.ref (s.heap.objs.size+1)::(us++ds)) _ _ E (hr.make C us [])
  (I2.env0.make C us []) (hb _ (Value.ref (s.heap.objs.size+1)::us) I2.kIn hl) r2 hq) λr s' hq'=>?_))
 cases r with
 |error e=>exact hx pins σ _ _ e s' I2 hq'
 |ok fl=>
  cases fl with
  |ret u=>
   obtain⟨v,H',I3,rv,ev,q3⟩:=I2.after hq';subst ev;exact⟨rv,⟨V.ref (s.heap.objs.size+1),H',I3,rfl,q3⟩⟩
  |next=>exact False.elim hq'
  |brk=>exact False.elim hq'
  |cont=>exact False.elim hq'
theorem bB3(M:Mk X.K C f)(F:FnOk X.prog X.w X.K X.mg X.base CX k f fd ps sp)(hr:Room (k+1) X.A)(hg:Gl X x)(hm:X.mg x=some (.ref C))(hb:Binds X.K fd ps ds)(hd:Vals dvs ds)(hx:aFq CX X E)
  (ha:PA X (e::es) t) (hdb:(x==("__debug__":Str))=false:=by decide) (he:starEach (e::es) X.env=(false,eval e X.env)::starEach es X.env:=by rfl) (hpl:(backTo pos (starEach es X.env)).any (·.1)=false:=by rfl) :
  PE X (.Call (.Name x p) (e::es) [] pos) (bI9 C sp dvs E t):=by
 intro pins s σ H Q I h;refine wpAny_Call_Name_kw (aHp I hg hm ?_ hdb);refine PySem.W.callWith_K (h₀:=X.base) I.ok.mod.kin M.kp (thn (ha pos pins s σ H _ I h) λus s1 ⟨vs,H1,I1,r,q⟩=>⟨I1.kIn,?_⟩) he hpl
 exact aXe M F hr hb hd hx I1 r q
end
structure FnScope(N P:List Str)(sc:Scope):Prop where
 kind:sc.kind=.function
 co:sc.isCoroutine=false
 gen:sc.isGenerator=false
 nd:N.Nodup
 pre:N.take P.length=P
 par:∀x∈P,sc.names.lookup x=some .local\/sc.names.lookup x=some .cell
 nofree:∀y∈sc.names,y.2≠.free
theorem aKw{kindOf:Str->Option NameKind}{x:Str}:∀{binds:List (Str×Value)} {m:Str->Option Value},(∀v,(x,v)∉binds)->bindL kindOf binds m x=m x
 |[],_,_=>rfl
 |(n,v)::r,m,h=>by
  unfold bindL;rw[aKw λw hw=>h w (List.mem_cons_of_mem _ hw)]
  split
  .have:x≠n:=by rintro rfl;exact h v List.mem_cons_self
   simp[this]
  .rfl
theorem aKx{kindOf:Str->Option NameKind}{x:Str}:∀{binds:List (Str×Value)} {m:Str->Option Value},(∀v,(x,v)∉binds)->bindC kindOf binds m x=m x
 |[],_,_=>rfl
 |(n,v)::r,m,h=>by
  unfold bindC;rw[aKx λw hw=>h w (List.mem_cons_of_mem _ hw)]
  split
  .rfl
  .have:x≠n:=by rintro rfl;exact h v List.mem_cons_self
   simp[this]
theorem aKy{kindOf:Str->Option NameKind}{x:Str}{v:Value}:∀{P:List Str}{vs:List Value}{i:Nat}{m:Str->Option Value},P.Nodup->P[i]?=some x->vs[i]?=some v->kindOf x=some .local->
  bindL kindOf (P.zip vs) m x=some v
 |[],_,_,_,_,h,_,_=>by simp at h
 |_::_,[],_,_,_,_,h,_=>by simp at h
 |p::P,w::vs,0,m,nd,h1,h2,hk=>by
  simp at h1 h2;subst h1;subst h2;show bindL kindOf ((p,w)::P.zip vs) m p=_;unfold bindL;rw[aKw λv hv=>(List.nodup_cons.mp nd).1 (List.of_mem_zip hv).1,if_pos hk]
  simp
 |p::P,w::vs,i+1,m,nd,h1,h2,hk=>by
  show bindL kindOf ((p,w)::P.zip vs) m x=_;unfold bindL;exact aKy (i:=i) (List.nodup_cons.mp nd).2 (by simpa using h1) (by simpa using h2) hk
theorem aKz{kindOf:Str->Option NameKind}{x:Str}{v:Value}:∀{P:List Str}{vs:List Value}{i:Nat}{m:Str->Option Value},P.Nodup->P[i]?=some x->vs[i]?=some v->kindOf x≠some .local->
  bindC kindOf (P.zip vs) m x=some v
 |[],_,_,_,_,h,_,_=>by simp at h
 |_::_,[],_,_,_,_,h,_=>by simp at h
 |p::P,w::vs,0,m,nd,h1,h2,hk=>by
  simp at h1 h2;subst h1;subst h2;show bindC kindOf ((p,w)::P.zip vs) m p=_;unfold bindC;rw[aKx λv hv=>(List.nodup_cons.mp nd).1 (List.of_mem_zip hv).1,if_neg hk]
  simp
 |p::P,w::vs,i+1,m,nd,h1,h2,hk=>by
  show bindC kindOf ((p,w)::P.zip vs) m x=_;unfold bindC;exact aKz (i:=i) (List.nodup_cons.mp nd).2 (by simpa using h1) (by simpa using h2) hk
def start(N:List Str)(vs:List V):St:=vs.map some++List.replicate (N.length-vs.length) none
def aI8(CX:CXT)(P:Program)(w:World)(K:PySem.W.Frag)(mg:Str->Option Value)(base:Heap)(N:List Str)(qual:Str)(scope:Scope)(f:Addr)(cd:Value)(A:Around)(outer:List Env)(s:Shared)(H:Hp)(E:XK):Cx where
 prog:=P
 w:=w
 K:=K
 mg:=mg
 base:=base
 A:=A.deeper (envOfC qual scope s.heap.objs.size f cd)
 N:=N
 s₀:=s
 H₀:=H
 env:=envOfC qual scope s.heap.objs.size f cd
 outer:=outer
 stack:=envOfC qual scope s.heap.objs.size f cd::outer
 ex:=[]
 calm:=true
 fn:=λ_=>true
 pn:=[]
 xe:=λe s'=>wpAny (model P w) (A.deeper (envOfC qual scope s.heap.objs.size f cd)) (leaving (envOfC qual scope s.heap.objs.size f cd) e) (λ_ s''=>CX outer H s E e s'') (λe' s''=>CX outer H s E e' s'') s'
theorem aO7{sc:Scope}{n:Nat}{x:Str}(h:sc.names.lookup x=some .cell):∃c,(cellsFrom n sc.names []).lookup x=some c:=by
 have q:=PySem.W.cellsFrom_some sc.names n [] (.inl h);exact Option.isSome_iff_exists.mp q
theorem aV9{CX:CXT}{P:Program}{w:World}{K:PySem.W.Frag}{mg:Str->Option Value}{base:Heap}{N ps:List Str}{qual:Str}{scope:Scope}{f:Addr}{cd:Value}{A:Around}{outer:List Env}{s s1:Shared}{H:Hp}{E:XK}{us:List Value}{vs:List V}
  (S:FnScope N ps scope) (hd:A.handled=none) (e0:Env0 P w K mg base A outer s H) (hl:vs.length=ps.length) (r:Vals vs us)
  (x:InCallC s s.heap.objs.size (bindL (envOfC qual scope s.heap.objs.size f cd).kindOf (ps.zip us) λ_=>none) (cellsFrom (s.heap.objs.size+1) scope.names []) (bindC (envOfC qual scope s.heap.objs.size f cd).kindOf (ps.zip us) λ_=>none) s1) :
  Inv (aI8 CX P w K mg base N qual scope f cd A outer s H E) [] (start N vs) H s1:=by
 have hpl:ps.length<=N.length:=by have:=congrArg List.length S.pre;rw[List.length_take]at this;omega
 obtain⟨h1,tk,rfl,hk⟩:=x.done;have noA:∀b:Addr,b∉(aI8 CX P w K mg base N qual scope f cd A outer s H E).ex:=λb z=>absurd (show b∈([]:List Addr) from z) (by simp)
 refine⟨⟨e0.mod,S.kind,rfl,rfl,Nat.le_refl _,λy z c h1 h2=>?_,λy hy=>?_,λy c _ h=>?_,λ_=>hd,Around.frames_deeper e0.frames,.inr ⟨rfl,rfl⟩,λb z=>absurd z (noA b),e0.bs,e0.bsz,λb _ _=>noA b,λb z=>absurd z (noA b),e0.funs,e0.frf⟩,
  rfl,e0.bare,Un.kept hk,⟨_,x.toInCall.ns,λi y v h1 h2 h3=>?_⟩,λy c h=>⟨_,x.cell y c h⟩,e0.hok.fresh (Nat.le_refl _),λy c h=>?_,λp hp=>absurd (show p∈([]:List (Addr×Obj)) from hp) (by simp),e0.hok.kept hk,?_⟩
 .exact name_of_addr x.apart (PySem.mem_of_lookup h1) (PySem.mem_of_lookup h2)
 .have hy:scope.names.lookup y=some .cell\/scope.names.lookup y=some .free:=hy;rcases hy with hy|hy
  .exact aO7 hy
  .exact absurd rfl (S.nofree _ (PySem.mem_of_lookup hy))
 .exact Nat.le_of_lt (x.above y c (PySem.mem_of_lookup h))
 .have hi:i<vs.length:=by
   unfold start at h2
   by_cases hi:i<vs.length
   .exact hi
   .rw[List.getElem?_append_right (by simpa using hi)]at h2
    rw[List.getElem?_replicate]at h2;split at h2<;>cases h2
  have ha:vs[i]?=some v:=by
   unfold start at h2;rw[List.getElem?_append_left (by simpa using hi),List.getElem?_map]at h2
   cases e:vs[i]? with
   |none=>rw[e]at h2;cases h2
   |some a=>rw[e]at h2;cases h2;rfl
  obtain⟨u,hu,rv⟩:=r.get ha;have hp:ps[i]?=some y:=by
   rw[<-S.pre,List.getElem?_take_of_lt (by omega)];exact h1
  have ndP:ps.Nodup:=by rw[<-S.pre];exact S.nd.sublist (List.take_sublist _ _)
  refine⟨u,rv,?_⟩;rcases S.par y (List.mem_of_getElem? hp) with k|k
  .exact .inl ⟨k,aKy ndP hp hu k⟩
  .obtain⟨c,e⟩:=aO7 (n:=s.heap.objs.size+1) k;refine .inr ⟨.inl k,c,e,?_⟩;have q:=x.cell y c e;rw[aKz ndP hp hu (by show scope.names.lookup y≠_;rw[k];decide)]at q
   exact q
 .exact e0.hok.fresh (Nat.le_of_lt (x.above y c (PySem.mem_of_lookup h)))
 .unfold start;show _=N.length;rw[List.length_append,List.length_map,List.length_replicate];omega
theorem bDx{CX:CXT}{P:Program}{w:World}{K:PySem.W.Frag}{mg:Str->Option Value}{base:Heap}{k:Nat}{f:Addr}{name qual:Str}{params:Arguments}{body:List Stmt}{scope:Scope}{dV kV doc pm cdv ct oc:Value}{an od:Option Addr}
  {osl:Array (Option Value)} {N ps:List Str} {sp:Sp} (lk:K.lookup f=some ⟨oc,od,.func (PySem.W.fnOf name qual params body scope dV kV doc pm an cdv ct),osl⟩) (hcd:PySem.W.codeIn K cdv qual=true) (S:FnScope N ps scope)
  (len:∀vs H Q E,sp vs H Q E->vs.length=ps.length)
  (hbody:∀(A:Around)(outer:List Env)(s:Shared)(H:Hp)(vs:List V)(Q:VK)(E:XK),Room k (A.deeper (envOfC qual scope s.heap.objs.size f cdv))->sp vs H Q E->
   ∃t,PSs (aI8 CX P w K mg base N qual scope f cdv A outer s H E) body t/\t {nx:=λ_ H'=>Q .non H',rt:=Q} (start N vs) H) :
  FnOk P w K mg base CX (k+1) f (PySem.W.fnOf name qual params body scope dV kV doc pm an cdv ct) ps sp:=by
 refine⟨len,λA outer s H args us vs Q E hr e0 hb r hsp=>?_⟩
 have hl:=len _ _ _ _ hsp;have KX:K.In s.heap:=e0.mod.kin.keeps λb o e=>(e0.bs b o e).1
 have lim:s.heap.NoLimit:=e0.mod.nolimit.keeps λb o e=>(e0.bs b o e).1
 have hkind:∀y∈ps.zip us,scope.names.lookup y.1=some .local\/(scope.names.lookup y.1=some .cell/\((cellsFrom (s.heap.objs.size+1) scope.names []).lookup y.1).isSome=true):=λ⟨n,v⟩ hy=>by
  rcases S.par n (List.of_mem_zip hy).1 with q|q
  .exact .inl q
  .exact .inr ⟨q,PySem.W.cellsFrom_some _ _ _ (.inl q)⟩
 refine codeAny_call_function hr.depth (KX _ _ lk) rfl S.co S.gen rfl (PySem.W.codeRec_of KX hcd) (hb _ _ _ _ ?_);refine wpAny_newFunctionEnv_cells S.kind hkind λenv he s1 x=>?_
 subst he;refine⟨lim.keeps x.toInCall.keep,codeAny_func ?_⟩;obtain⟨t,ht,hq⟩:=hbody A outer s H vs Q E (hr.deeper _) hsp;have I:Inv (aI8 CX P w K mg base N qual scope f cdv A outer s H E) [] (start N vs) H s1:=aV9 S hr.hd e0 hl r x;refine wpAny_mono (ht [] s1 (start N vs) H _ I hq) (λfl s' hs=>?_) λe s' hs=>hs
 have fin:∀{σ':St}{H':Hp}{v:V}{u:Value},Inv (aI8 CX P w K mg base N qual scope f cdv A outer s H E) [] σ' H' s'->RelV v u->Q v H'->CE outer P w H s Q u s':=
  λ{σ' H' v u} J rv q=>⟨v,H',J.os,J.bare,J.base,J.hok,rv,q⟩
 cases fl with
 |ret u=>
  obtain⟨v,σ',H',J,rv,q⟩:=hs;exact fin J rv q
 |next=>
  obtain⟨σ',H',J,q⟩:=hs;exact fin (v:=V.non) (u:=Value.none) J rfl q
 |brk=>
  obtain⟨_,_,_,q⟩:=hs;exact False.elim q
 |cont=>
  obtain⟨_,_,_,q⟩:=hs;exact False.elim q
end L2
namespace L2
open PySem PySem.Spec PyProof.Rows
section
variable{X:Cx}{x:Str}{p pos:Pos}{e:Expr}{es:List Expr}{t:TA}{id T:String}{r:List V->Hp->VK->Prop}
def tCB(r:List V->Hp->VK->Prop)(t:TA):TE:=λσ H Q=>t σ H λvs H1=>r vs H1 Q
theorem tZ(hc:oM X (.builtin id) r)(hg:Gl X x)(hm:X.mg x=none)(hv:bootBuiltins x=some (.builtin id))(ha:PA X (e::es) t)(hn:x≠"__name__":=by decide)(hdb:(x==("__debug__":Str))=false:=by decide)
  (he:starEach (e::es) X.env=(false,eval e X.env)::starEach es X.env:=by rfl) (hpl:(backTo pos (starEach es X.env)).any (·.1)=false:=by rfl):PE X (.Call (.Name x p) (e::es) [] pos) (tCB r t):=by
 intro pins s σ H Q I h;refine wpAny_Call_Name_kw (aDa I hg hm hv ?_ hn hdb);exact PyProof.Rows.callWith_builtin1 (thn (ha pos pins s σ H _ I h) λus s1 ⟨vs,H1,I1,r1,q1⟩=>hc pins s1 σ H1 vs us Q I1 r1 q1) he hpl
theorem aBx(hc:oM X (.type T) r)(hg:Gl X x)(hm:X.mg x=none)(hv:bootBuiltins x=some (.type T))(ha:PA X (e::es) t)(hn:x≠"__name__":=by decide)(hdb:(x==("__debug__":Str))=false:=by decide)
  (he:starEach (e::es) X.env=(false,eval e X.env)::starEach es X.env:=by rfl) (hpl:(backTo pos (starEach es X.env)).any (·.1)=false:=by rfl):PE X (.Call (.Name x p) (e::es) [] pos) (tCB r t):=by
 intro pins s σ H Q I h;refine wpAny_Call_Name_kw (aDa I hg hm hv ?_ hn hdb);exact PyProof.Rows.callWith_type1 (thn (ha pos pins s σ H _ I h) λus s1 ⟨vs,H1,I1,r1,q1⟩=>hc pins s1 σ H1 vs us Q I1 r1 q1) he hpl
end
end L2
namespace HT
open PySem PyProof.Rows
section
open PySem.SeqAt
open PySem.AutoSeq1 (wpAny_loadPart')
open PySem.MeetsSeq PySem.MeetsSeq2 PySem.MeetsSeq3
end
section
variable{prog:Program}{w:World}{A:Around}{E:Value->Shared->Prop}{s:Shared}
def sIx(n d:Nat):Option Int->Nat
 |none=>d
 |some v=>if v<0 then (v+(n:Int)).toNat else min v.toNat n
end
end HT
namespace L2
open PySem PySem.Spec PyProof.Rows
abbrev TO:=St->Hp->(Option Int->Hp->Prop)->Prop
def PO(X:Cx)(e:Option Expr)(t:TO):Prop:=
 ∀(pins:List (Addr×Obj)) (s:Shared) (σ:St) (H:Hp) (Q:Option Int->Hp->Prop),Inv X pins σ H s->t σ H Q->
  wpAny (model X.prog X.w) X.A (evalPart e X.env) (λu s'=>∃o H',Inv X pins σ H' s'/\IsPart u o/\Q o H') X.xe s
def bB4:TO:=λ_ H Q=>Q none H
def bIa(t:TE):TO:=λσ H Q=>t σ H λx H1=>∃i,x=.int i/\Q (some i) H1
section
variable{X:Cx}{e:Expr}{te:TE}{lo hi:Option Expr}{tl th:TO}{pos p2:Pos}
theorem bB5:PO X none bB4:=by
 intro pins s σ H Q I h;rw[evalPart_none];exact wpAny_pure ⟨none,H,I,.none,h⟩
theorem bB6(h:PE X e te):PO X (some e) (bIa te):=by
 intro pins s σ H Q I hw;rw[evalPart_some];refine thn (h pins s σ H _ I hw) λu s1 ⟨x,H1,I1,r1,q1⟩=>?_
 obtain⟨i,rfl,q⟩:=q1;obtain⟨t,rfl⟩:=r1;exact⟨some i,H1,I1,.int i t,q⟩
def SlR(X:Cx)(r:V->Option Int->Option Int->Hp->VK->Prop):Prop:=
 ∀(pins:List (Addr×Obj)) (s:Shared) (σ:St) (H:Hp) (x:V) (v vl vu:Value) (lo hi:Option Int) (sl:Addr) (Q:VK),Inv X pins σ H s->RelV x v->s.heap.IsSliceOf sl vl vu .none->IsPart vl lo->IsPart vu hi->r x lo hi H Q->
  ∃T id,typeLookup (.type T) "__getitem__"=pure (some (.builtin id))/\s.TypeIs v T/\wpAny (model X.prog X.w) X.A (getItem v (.ref sl)) (EP X pins σ Q) X.xe s
theorem SlR.or{r r':V->Option Int->Option Int->Hp->VK->Prop}(h:SlR X r)(h':SlR X r'):SlR X (λx lo hi H Q=>r x lo hi H Q\/r' x lo hi H Q):=by
 intro pins s σ H x v vl vu lo hi sl Q I rx hs pl pu q;rcases q with q|q
 .exact h pins s σ H x v vl vu lo hi sl Q I rx hs pl pu q
 .exact h' pins s σ H x v vl vu lo hi sl Q I rx hs pl pu q
def tSl(r:V->Option Int->Option Int->Hp->VK->Prop)(te:TE)(tl th:TO):TE:=λσ H Q=>te σ H λx H1=>tl σ H1 λl H2=>th σ H2 λu H3=>r x l u H3 Q
theorem aXf{r:V->Option Int->Option Int->Hp->VK->Prop}(hr:SlR X r)(he:PE X e te)(hl:PO X lo tl)(hu:PO X hi th):PE X (.Subscript e (.Slice lo hi none p2) pos) (tSl r te tl th):=by
 intro pins s σ H Q I h;refine Subscript_ (thn (he pins s σ H _ I h) λv s1 ⟨x,H1,I1,r1,q1⟩=>?_)
 refine wpAny_Slice (thn (hl pins s1 σ H1 _ I1 q1) λvl s2 ⟨l,H2,I2,pl,q2⟩=>thn (hu pins s2 σ H2 _ I2 q2) λvu s3 ⟨u,H3,I3,pu,q3⟩=>?_)
 rw[evalPart_none];refine wpAny_pure ?_
 have I4:Inv X pins σ H3 {s3 with heap:=s3.heap.push {cls:=.type "slice",data:=.fields #[vl,vu,.none]} }:=I3.kept (t':=s3.toks) λb ob q=>Heap.get?_push_of_some _ q
 obtain⟨T,id,hT,ht,hg⟩:=hr pins {s3 with heap:=s3.heap.push {cls:=.type "slice",data:=.fields #[vl,vu,.none]} } σ H3 x v vl vu l u s3.heap.objs.size Q I4 r1 (Heap.IsSliceOf.new ..) pl pu q3
 show wpAny (model X.prog X.w) X.A (subscriptTail e (.Slice lo hi none p2) v (.ref s3.heap.objs.size)) (EP X pins σ Q) X.xe {s3 with heap:=s3.heap.push {cls:=.type "slice",data:=.fields #[vl,vu,.none]} }
 exact tail_any (ops:=[.ref s3.heap.objs.size,v]) ht hT hg (by with_unfolding_all rfl)
def aVa(xs:List V)(lo hi:Option Int):List V:=(xs.drop (HT.sIx xs.length 0 lo)).take (HT.sIx xs.length xs.length hi-HT.sIx xs.length 0 lo)
theorem aO8(xs:List V)(lo hi:Option Int):(aVa xs lo hi).length<=xs.length:=by
 unfold aVa;rw[List.length_take,List.length_drop];omega
end
end L2
namespace L2
open PySem PySem.Spec PyProof.Rows
def ixN(n:Nat)(i:Int):Option Nat:=if 0<=i then (if i<n then some i.toNat else none) else if -(n:Int)<=i then some (i+n).toNat else none
def atI{α:Type}(xs:List α)(i:Int):Option α:=(ixN xs.length i).bind λj=>xs[j]?
theorem aSn{n:Nat}{i:Int}{j:Nat}(h:ixN n i=some j):seqIndex? i n=some j/\j<n/\-(n:Int)<=i/\i<n:=by
 unfold ixN at h
 by_cases h0:0<=i
 .rw[if_pos h0]at h
  by_cases h1:i<n
  .rw[if_pos h1]at h;have e:i.toNat=j:=Option.some.inj h;exact⟨by rw[seqIndex_of h0 h1,e],by omega,by omega,h1⟩
  .rw[if_neg h1]at h;cases h
 .rw[if_neg h0]at h
  by_cases h1 : -(n:Int)<=i
  .rw[if_pos h1]at h;have e:(i+n).toNat=j:=Option.some.inj h;exact⟨by rw[seqIndex_neg (by omega) h1,e],by omega,h1,by omega⟩
  .rw[if_neg h1]at h;cases h
theorem aMd{α:Type}{xs:List α}{i:Int}{v:α}(h:atI xs i=some v):∃j,seqIndex? i xs.length=some j/\xs[j]?=some v/\j<xs.length/\-(xs.length:Int)<=i/\i<xs.length:=by
 unfold atI at h;cases e:ixN xs.length i with
 |none=>rw[e]at h;cases h
 |some j=>
  rw[e]at h;obtain⟨h1,h2,h3,h4⟩:=aSn e;exact⟨j,h1,h,h2,h3,h4⟩
theorem atI_nat{α:Type}{xs:List α}{j:Nat}{v:α}(h:xs[j]?=some v):atI xs (j:Int)=some v:=by
 have hj:j<xs.length:=(List.getElem?_eq_some_iff.mp h).1;have e:ixN xs.length (j:Int)=some j:=by
  unfold ixN;rw[if_pos (by omega),if_pos (by omega)];simp
 unfold atI;rw[e];exact h
theorem atI_last{α:Type}(xs:List α)(v:α):atI (xs++[v]) (-1)=some v:=by
 have hl:(xs++[v]).length=xs.length+1:=by simp
 have e:ixN (xs++[v]).length (-1)=some xs.length:=by
  unfold ixN;rw[hl,if_neg (by decide),if_pos (by omega)]
  congr 1;omega
 unfold atI;rw[e];show (xs++[v])[xs.length]?=some v;simp
def aSo(b:Expr):Prop:=∀o i,subscripted b false o i=operate [o,i] (getItem o i)
def IxR(X:Cx)(r:R2):Prop:=
 ∀(value slice:Expr) (pins:List (Addr×Obj)) (s:Shared) (σ:St) (H:Hp) (x y:V) (v u:Value) (Q:VK),Inv X pins σ H s->RelV x v->RelV y u->r x y H Q->
  subscripted slice false v u=operate [v,u] (getItem v u)->wpAny (model X.prog X.w) X.A (subscriptTail value slice v u) (EP X pins σ Q) X.xe s
def MtR(X:Cx)(id:String)(r:V->List V->Hp->VK->Prop):Prop:=
 ∀(pins:List (Addr×Obj)) (s:Shared) (σ:St) (H:Hp) (x:V) (xs:List V) (v:Value) (us:List Value) (Q:VK),Inv X pins σ H s->RelV x v->Vals xs us->r x xs H Q->
  wpAny (model X.prog X.w) X.A (call (.builtin id) (v::us)) (EP X pins σ Q) X.xe s
section
variable{X:Cx}{a b:Expr}{ta tb:TE}{pos:Pos}
theorem IxR.or{r r':R2}(h:IxR X r)(h':IxR X r'):IxR X (λx y H Q=>r x y H Q\/r' x y H Q):=by
 intro value slice pins s σ H x y v u Q I rx ry q hs;rcases q with q|q
 .exact h value slice pins s σ H x y v u Q I rx ry q hs
 .exact h' value slice pins s σ H x y v u Q I rx ry q hs
theorem bIb{r:R2}(hr:IxR X r)(ha:PE X a ta)(hb:PE X b tb)(hs:aSo b):PE X (.Subscript a b pos) (tOp r ta tb):=by
 intro pins s σ H Q I h;exact Subscript_ (bF0 ha hb I h λv u s2 x y H2 I2 rx ry q=>hr a b pins s2 σ H2 x y v u Q I2 rx ry q (hs _ _))
def bIc(K:PySem.W.Frag):R2:=λx y H Q=>∃p xs i v,x=.ref p/\y=.int i/\SqL K H p xs/\atI xs i=some v/\Q v H
def bId(K:PySem.W.Frag):R2:=λx y H Q=>∃p xs i v,x=.ref p/\y=.int i/\SqT K H p xs/\atI xs i=some v/\Q v H
def bIe:R2:=λx y H Q=>∃z i c,x=.str z/\y=.int i/\z.length<=sizeLine/\atI z.cps.toList i=some c/\Q (.str ⟨#[c]⟩) H
theorem bB7:IxR X (bIc X.K):=by
 intro value slice pins s σ H x y v u Q I rx ry h hs;obtain⟨p,xs,i,z,rfl,rfl,hq,he,q⟩:=h;cases rx;obtain⟨t,rfl⟩:=ry;obtain⟨its,r,pl,hz⟩:=I.list hq;obtain⟨j,h1,h2,h3,h4,h5⟩:=aMd he;obtain⟨w,ew,rw'⟩:=r.get h2;have hl:=r.length;have hn:=aFo;have fin:EP X pins σ Q w s:=⟨z,H,I,rw',q⟩
 by_cases h0:0<=i
 .have hj:i.toNat=j:=by
   rw[seqIndex_of h0 h5]at h1;exact Option.some.inj h1
  exact item_listR pl.isList h0 (by omega) (by rw[hj];simpa using ew) fin hs
 .have hj:(i+(its.toArray.size:Int)).toNat=j:=by
   rw[seqIndex_neg (by omega) h4]at h1
   rw[List.size_toArray,<-hl];exact Option.some.inj h1
  exact subscriptTail_builtinR (x:=w) pl.isList.typeIs slot_list_getitem.lookup
   (wpAny_getItem_list_neg (Q:=λr s'=>r=w/\EP X pins σ Q r s') pl.isList (by omega) (by rw[List.size_toArray] <;> omega) (by omega) (by rw[hj];simpa using ew) ⟨rfl,fin⟩) hs
theorem bFd:IxR X (bId X.K):=by
 intro value slice pins s σ H x y v u Q I rx ry h hs;obtain⟨p,xs,i,z,rfl,rfl,hq,he,q⟩:=h;cases rx;obtain⟨t,rfl⟩:=ry;obtain⟨its,r,pl,hz⟩:=I.tuple hq;obtain⟨j,h1,h2,h3,h4,h5⟩:=aMd he;obtain⟨w,ew,rw'⟩:=r.get h2;have hl:=r.length;have hn:=aFo;have fin:EP X pins σ Q w s:=⟨z,H,I,rw',q⟩;exact subscriptTail_builtinR (x:=w) pl.typeIs slot_tuple_getitem.lookup
  (getItem_tuple (j:=j) (Q:=λr s'=>r=w/\EP X pins σ Q r s') pl (by omega) (by omega) (by rw[List.size_toArray,<-hl];exact h1) (by simpa using ew) ⟨rfl,fin⟩) hs
theorem bFe:IxR X bIe:=by
 intro value slice pins s σ H x y v u Q I rx ry h hs;obtain⟨z,i,c,rfl,rfl,hz,he,q⟩:=h;obtain⟨t,rfl⟩:=rx;obtain⟨t',rfl⟩:=ry;obtain⟨j,h1,h2,h3,h4,h5⟩:=aMd he;have hl:z.cps.toList.length=z.length:=by simp[Str.length]
 rw[hl]at h1 h4 h5;have hn:=aFo;exact tail_any (typeIs_str s z t) slot_str_getitem.lookup (getItem_str (c:=c) (by
  have e1:decide (i < -(2^63:Int))=false:=decide_eq_false (by omega)
  have e2:decide (i ≥ 2^63)=false:=decide_eq_false (by omega)
  rw[e1,e2,Bool.or_false]) (by rw[h1];simpa using h2) ⟨.str ⟨#[c]⟩,H,I.tok _,⟨_,rfl⟩,q⟩) hs
def rIx(K:PySem.W.Frag):R2:=λx y H Q=>bIc K x y H Q\/bId K x y H Q\/bIe x y H Q
theorem bFf:IxR X (rIx X.K):=bB7.or (bFd.or bFe)
theorem aR0(its:List Value)(n j:Nat)(u:Value):Obj.mapSeq (·.setIfInBounds j u) {cls:=.type "list",data:=.seq its.toArray n}={cls:=.type "list",data:=.seq (its.set j u).toArray n}:=by
 simp[Obj.mapSeq]
theorem Inv.lst{pins:List (Addr×Obj)}{σ:St}{H:Hp}{s:Shared}{p:Addr}{xs:List V}(I:Inv X pins σ H s)(h:H p=some (.lst xs)) :
  ∃(its:List Value)(n:Nat),Vals xs its/\s.heap.get? p=some {cls:=.type "list",data:=.seq its.toArray n}/\xs.length<=sizeLine:=by
 obtain⟨z,its,n,r,e⟩:=I.hok p _ h;exact⟨its,n,r,e,z⟩
theorem Inv.lstUpd{pins:List (Addr×Obj)}{σ:St}{H:Hp}{s:Shared}{p:Addr}{xs ys:List V}{its its':List Value}{n n':Nat}{f:Obj->Obj}(I:Inv X pins σ H s)(h:H p=some (.lst xs))
  (ho:s.heap.get? p=some {cls:=.type "list",data:=.seq its.toArray n}) (hf:f {cls:=.type "list",data:=.seq its.toArray n}={cls:=.type "list",data:=.seq its'.toArray n'}) (r:Vals ys its') (hz:ys.length<=sizeLine) (t:Nat) :
  Inv X pins σ (upd H p (.lst ys)) {s with heap:=s.heap.update p f,toks:=t}:=by
 have e:(s.heap.update p f).get? p=some {cls:=.type "list",data:=.seq its'.toArray n'}:=by
  rw[Heap.get?_update_self f ho (by rw[hf] <;> rfl),hf]
 refine I.write (x:=p) (e:=p) (by rw[h];trivial) (.inl rfl) (λb u hb q=>(Heap.get?_update_other _ _ (Ne.symm hb)).trans q) ⟨_,e⟩ ?_
 exact⟨hz,its',n',r,e⟩
def bIf:V->V->V->Hp->(Hp->Prop)->Prop:=λo i v H Q=>∃p xs k j,o=.ref p/\i=.int k/\H p=some (.lst xs)/\ixN xs.length k=some j/\Q (upd H p (.lst (xs.set j v)))
theorem set_list:bEw X bIf:=by
 intro pins s σ H o i v ov iv u Q I ro ri rv h;obtain⟨p,xs,k,j,rfl,rfl,hp,hj,q⟩:=h;cases ro;obtain⟨t,rfl⟩:=ri;obtain⟨its,n,r,ho,hz⟩:=I.lst hp;obtain⟨h1,h2,h3,h4⟩:=aSn hj;have hl:=r.length;have hn:=aFo;have I':Inv X pins σ (upd H p (.lst (xs.set j v))) {s with heap:=s.heap.update p (Obj.mapSeq (·.setIfInBounds j u))}:=
  I.lstUpd hp ho (aR0 its n j u) (r.set rv j) (by rw[List.length_set];exact hz) s.toks
 by_cases h0:0<=k
 .have hk:k.toNat=j:=by
   rw[seqIndex_of h0 h4]at h1;exact Option.some.inj h1
  exact PySem.W.ki_setAt ho h0 (by omega) (by rw[List.size_toArray,<-hl];exact h4) (by rw[hk];exact⟨_,I',q⟩)
 .have hk:(k+(its.toArray.size:Int)).toNat=j:=by
   rw[seqIndex_neg (by omega) h3]at h1
   rw[List.size_toArray,<-hl];exact Option.some.inj h1
  exact PySem.W.ki_setBack ho (by omega) (by rw[List.size_toArray,<-hl];exact h3) (by omega) (by rw[hk];exact⟨_,I',q⟩)
theorem aMe(lo hi:Option Int)(n:Nat):(sliceBounds lo hi none n).1=((HT.sIx n 0 lo:Nat):Int)/\(sliceBounds lo hi none n).2.1=((HT.sIx n n hi:Nat):Int)/\(sliceBounds lo hi none n).2.2=1:=by
 refine⟨?_,?_,rfl⟩
 .cases lo with
  |none=>simp[sliceBounds,HT.sIx]
  |some i=>
   simp only[sliceBounds,HT.sIx,Option.getD_none,show (1:Int)>0 by decide,if_true]
   by_cases h:i<0
   .simp only[h,if_true] <;> omega
   .simp only[h,if_false] <;> omega
 .cases hi with
  |none=>simp[sliceBounds,HT.sIx]
  |some i=>
   simp only[sliceBounds,HT.sIx,Option.getD_none,show (1:Int)>0 by decide,if_true]
   by_cases h:i<0
   .simp only[h,if_true] <;> omega
   .simp only[h,if_false] <;> omega
theorem aKh(its:List Value)(lo hi:Option Int):slicePick its.toArray lo hi none=((its.drop (HT.sIx its.length 0 lo)).take (HT.sIx its.length its.length hi-HT.sIx its.length 0 lo)).toArray:=by
 obtain⟨h1,h2,h3⟩:=aMe lo hi its.toArray.size;unfold slicePick;rw[h1,h2,h3];simp only[sliceRange_one,pick_run,List.size_toArray] <;> rfl
def bKk(K:PySem.W.Frag):V->Option Int->Option Int->Hp->VK->Prop:=λx lo hi H Q=>∃a xs,x=.ref a/\SqL K H a xs/\∀p,H p=none->Q (.ref p) (upd H p (.lst (aVa xs lo hi)))
theorem bB8:SlR X (bKk X.K):=by
 intro pins s σ H x v vl vu lo hi sl Q I rx hs pl pu h;obtain⟨a,xs,rfl,hx,q⟩:=h;cases rx;obtain⟨its,r,ht,hz⟩:=I.list hx;have hlen:=r.length;refine⟨"list",_,slot_list_getitem.lookup,ht.isList.typeIs,?_⟩;refine wpAny_getItem_list_slice ht.isList hs pl pu .none (by simp) ?_ (by rw[List.size_toArray] <;> omega)
 rw[aKh,<-hlen];refine⟨.ref s.heap.objs.size,_,I.laid (t':=s.toks) (o:=.lst (aVa xs lo hi)) (λb ob q=>Heap.get?_push_of_some _ q) (Nat.le_refl _) ?_,rfl,q _ (I.hok.fresh (Nat.le_refl _))⟩
 exact⟨Nat.le_trans (aO8 xs lo hi) hz,_,0,(r.drop (HT.sIx xs.length 0 lo)).take (HT.sIx xs.length xs.length hi-HT.sIx xs.length 0 lo),Heap.get?_push_size _ rfl⟩
theorem aMf:oM X (.builtin "len") (λxs H Q=>∃p ys,xs=[.ref p]/\(SqL X.K H p ys\/SqT X.K H p ys)/\Q (.int ys.length) H):=by
 intro pins s σ H xs us Q I r h;obtain⟨p,ys,rfl,hq,q⟩:=h;obtain⟨u,rfl,rx⟩:=vals1 r;cases rx;have hn:=aFo;rcases hq with hq|hq
 .obtain⟨its,r',pl,hz⟩:=I.list hq;have hlen:=r'.length;exact Calls.call_len_list pl.isList (by simp only[List.size_toArray] <;> omega) ⟨.int ys.length,H,I.tok _,⟨s.toks+1,by rw[List.size_toArray,hlen]⟩,q⟩
 .obtain⟨its,r',pl,hz⟩:=I.tuple hq;have hlen:=r'.length;exact len_tuple pl (by simp only[List.size_toArray] <;> omega) ⟨.int ys.length,H,I.tok _,⟨s.toks+1,by rw[List.size_toArray,hlen]⟩,q⟩
theorem aMg:oM X (.builtin "len") (λxs H Q=>∃z,xs=[.str z]/\z.length<=sizeLine/\Q (.int z.length) H):=by
 intro pins s σ H xs us Q I r h;obtain⟨z,rfl,hz,q⟩:=h;obtain⟨u,rfl,t,rfl⟩:=vals1 r;have hn:=aFo;exact len_str (by omega) ⟨.int z.length,H,I.tok _,⟨_,rfl⟩,q⟩
theorem oM.or{f:Value}{r r':List V->Hp->VK->Prop}(h:oM X f r)(h':oM X f r'):oM X f (λxs H Q=>r xs H Q\/r' xs H Q):=by
 intro pins s σ H xs us Q I rs q;rcases q with q|q
 .exact h pins s σ H xs us Q I rs q
 .exact h' pins s σ H xs us Q I rs q
def tyV(K:PySem.W.Frag)(T:String)(x:V)(H:Hp):Prop:=match x with
 |.str _=>T="str"
 |.int _=>T="int"
 |.ref p=>(T="list"/\∃xs,SqL K H p xs)\/(T="tuple"/\∃o,K.lookup p=some o/\o.cls=.type "tuple"/\o.dict=none)\/
   (T="dict"/\((∃kvs,H p=some (.dK kvs))\/∃kvs,H p=some (.dT kvs)))\/(T="set"/\∃S n,H p=some (.set S n))
 |_=>False
theorem aXg{pins:List (Addr×Obj)}{σ:St}{H:Hp}{s:Shared}{T:String}{x:V}{v:Value}(I:Inv X pins σ H s)(r:RelV x v)(ty:tyV X.K T x H) :
  s.TypeIs v T/\∀a,v=.ref a->∃ob,s.heap.get? a=some ob/\ob.dict=none:=by
 cases x with
 |str z=>
  obtain⟨t,rfl⟩:=r;cases (show T="str" from ty)
  exact⟨typeIs_str s z t,λ_ e=>nomatch e⟩
 |int i=>
  obtain⟨t,rfl⟩:=r;cases (show T="int" from ty)
  exact⟨typeIs_int s i t,λ_ e=>nomatch e⟩
 |ref p=>
  cases r;rcases ty with ⟨rfl,xs,hq⟩|⟨rfl,o,hk,hc,hd⟩|⟨rfl,hk⟩|⟨rfl,S,n,hk⟩
  .obtain⟨its,_,pl,_⟩:=I.list hq;refine⟨pl.isList.typeIs,λa e=>?_⟩
   cases e;obtain⟨o,n,e,c,hd,_⟩:=pl;exact⟨o,e,hd⟩
  .refine⟨⟨o,I.kIn p o hk,hc⟩,λa e=>?_⟩
   cases e;exact⟨o,I.kIn _ o hk,hd⟩
  .have z:∃o,s.heap.get? p=some o/\o.ExactDict:=by
    rcases hk with ⟨kvs,hk⟩|⟨kvs,hk⟩
    .obtain⟨_,_,_,_,o,_,_,e,ex,_⟩:=I.hok p _ hk;exact⟨o,e,ex⟩
    .obtain⟨_,_,_,_,o,_,_,e,ex,_⟩:=I.hok p _ hk;exact⟨o,e,ex⟩
   obtain⟨o,e,ex⟩:=z;refine⟨⟨o,e,ex.1⟩,λa e2=>?_⟩
   cases e2;exact⟨o,e,ex.2.1⟩
  .obtain⟨o,_,_,_,e,ex,_⟩:=I.hok p _ hk;refine⟨⟨o,e,ex.1⟩,λa e2=>?_⟩
   cases e2;exact⟨o,e,ex.2.1⟩
 |_=>exact False.elim ty
def bKl(K:PySem.W.Frag)(T:String)(r:V->List V->Hp->VK->Prop)(to:TE):TE:=λσ H Q=>to σ H λx H1=>tyV K T x H1/\r x [] H1 Q
def tBM(K:PySem.W.Frag)(T:String)(r:V->List V->Hp->VK->Prop)(to:TE)(t:TA):TE:=λσ H Q=>to σ H λx H1=>tyV K T x H1/\t σ H1 λxs H2=>r x xs H2 Q
variable{o e:Expr}{es:List Expr}{to:TE}{t:TA}{name:Str}{apos cpos:Pos}{T id:String}{r:V->List V->Hp->VK->Prop}
theorem aR1(pa:PlainAttrs T)(slot:Slot T name id)(hty:typeOf (.builtin id)=pure (.type "method_descriptor"))(hm:MtR X id r)(ho:PE X o to)
  (hbase:attributeBase o name X.env (eval o X.env)=eval o X.env:=by rfl) (hline:(apos.endLine==cpos.line)=true:=by rfl):PE X (.Call (.Attribute o name apos) [] [] cpos) (bKl X.K T r to):=by
 intro pins s σ H Q I h;refine wpAny_Call_method0_late hbase hline (thn (ho pins s σ H _ I h) λv s1 ⟨x,H1,I1,r1,ty,q1⟩=>?_)
 obtain⟨h1,h2⟩:=aXg I1 r1 ty;exact⟨T,id,pa,slot,hty,h1,h2,Calls.callWith_builtin rfl (PySem.evalArgs_none (hm pins s1 σ H1 x [] v [] Q I1 r1 .nil q1))⟩
theorem aSp(pa:PlainAttrs T)(slot:Slot T name id)(hty:typeOf (.builtin id)=pure (.type "method_descriptor"))(hm:MtR X id r)(ho:PE X o to)(ha:PA X (e::es) t)
  (hbase:attributeBase o name X.env (eval o X.env)=eval o X.env:=by rfl)
  (hfew:((backTo cpos (starEach (e::es) X.env)).all (λx=>!x.1)&&(backToKw cpos (keywordEach [] X.env)).all (λx=>x.1.isSome)
   && decide ((e::es).length+([]:List Keyword).length+(if ([]:List Keyword).isEmpty then 0 else 1)<30))=true:=by rfl)
  (hline:(apos.endLine==cpos.line)=true:=by rfl) (hs:starEach (e::es) X.env=(false,eval e X.env)::starEach es X.env:=by rfl) (hplain:(backTo cpos (starEach es X.env)).any (·.1)=false:=by rfl) :
  PE X (.Call (.Attribute o name apos) (e::es) [] cpos) (tBM X.K T r to t):=by
 intro pins s σ H Q I h;refine wpAny_Call_method_late hbase hfew hline rfl (thn (ho pins s σ H _ I h) λv s1 ⟨x,H1,I1,r1,ty,q1⟩=>?_)
 obtain⟨h1,h2⟩:=aXg I1 r1 ty;refine⟨T,id,pa,slot,hty,h1,h2,?_⟩;have hA:=ha cpos pins s1 σ H1 _ I1 q1;rw[hs]at hA ⊢;refine Calls.callWith_builtin (by show (false||(backTo cpos (starEach es X.env)).any (·.1))=false;rw[hplain] <;> rfl) (Calls.evalArgs_plain ?_)
 exact thn hA λus s2 ⟨vs,H2,I2,r2,q2⟩=>hm pins s2 σ H2 x vs v us Q I2 r1 r2 q2
end
end L2
namespace L2
open PySem PySem.Spec PyProof.Rows
def MtM(X:Cx)(id:String)(r:V->List V->Hp->VK->Prop):Prop:=
 ∀(pins:List (Addr×Obj)) (s:Shared) (σ:St) (H:Hp) (x:V) (xs:List V) (v:Value) (us:List Value) (Q:VK),Inv X pins σ H s->RelV x v->Vals xs us->r x xs H Q->
  wpAny (model X.prog X.w) X.A (call (.builtin id) (v::us)) (EP X pins σ Q) X.xe s
theorem Vals.one:∀{x:V}{us:List Value},Vals [x] us->∃u,us=[u]/\RelV x u
 |_,_,.cons r .nil=>⟨_,rfl,r⟩
theorem Vals.two:∀{x y:V}{us:List Value},Vals [x,y] us->∃u v,us=[u,v]/\RelV x u/\RelV y v
 |_,_,_,.cons r (.cons q .nil)=>⟨_,_,rfl,r,q⟩
theorem Vals.zero:∀{us:List Value},Vals [] us->us=[]
 |_,.nil=>rfl
theorem Vals.dropLast{xs:List V}{us:List Value}(h:Vals xs us):Vals xs.dropLast us.dropLast:=by
 induction h with
 |nil=>exact .nil
 |cons r t ih=>
  cases t with
  |nil=>exact .nil
  |cons q t'=>exact .cons r ih
theorem Vals.eraseIdx:∀{xs:List V}{us:List Value}(i:Nat),Vals xs us->Vals (xs.eraseIdx i) (us.eraseIdx i)
 |_,_,_,.nil=>.nil
 |_,_,0,.cons _ t=>t
 |_,_,i+1,.cons r t=>.cons r (Vals.eraseIdx i t)
theorem Vals.reverse{xs:List V}{us:List Value}(h:Vals xs us):Vals xs.reverse us.reverse:=by
 induction h with
 |nil=>exact .nil
 |cons r t ih=>rw[List.reverse_cons,List.reverse_cons];exact Vals.append ih (.cons r .nil)
theorem Vals.rep{xs:List V}{us:List Value}(h:Vals xs us):∀k:Nat,Vals (List.replicate k xs).flatten (List.replicate k us).flatten
 |0=>.nil
 |k+1=>by
  rw[List.replicate_succ,List.replicate_succ,List.flatten_cons,List.flatten_cons];exact Vals.append h (Vals.rep h k)
theorem aR2{α:Type}(l:List α):l.eraseIdx (l.length-1)=l.dropLast:=by
 induction l with
 |nil=>rfl
 |cons a r ih=>
  cases r with
  |nil=>rfl
  |cons b r=>
   have e:(a::b::r).length-1=((b::r).length-1)+1:=by
    have h1:(a::b::r).length=r.length+2:=rfl;have h2:(b::r).length=r.length+1:=rfl;omega
   rw[e,List.eraseIdx_cons_succ,ih]
   all_goals rfl
theorem foldl_rep(its:List Value):∀(k:Nat)(acc:List Value),
  List.foldl (λx1 x2=>x1++x2) acc.toArray (List.replicate k its.toArray)=(acc++(List.replicate k its).flatten).toArray
 |0,acc=>by simp
 |k+1,acc=>by
  have e:acc.toArray++its.toArray=(acc++its).toArray:=by simp
  have e2:(acc++its)++(List.replicate k its).flatten=acc++(List.replicate (k+1) its).flatten:=by
   rw[List.replicate_succ,List.flatten_cons,List.append_assoc]
  rw[<-e2,<-foldl_rep its k (acc++its),<-e,List.replicate_succ,List.foldl_cons]
section
variable{X:Cx}{pins:List (Addr×Obj)}{σ:St}{H:Hp}{s:Shared}{l b:Addr}{xs ys zs:List V}
theorem Inv.lset{its its':List Value}{n:Nat}{f:Array Value->Array Value}{t':Nat}(I:Inv X pins σ H s)(hH:H l=some (.lst xs))
  (e:s.heap.get? l=some {cls:=.type "list",data:=.seq its.toArray n}) (hf:f its.toArray=its'.toArray) (hv:Vals ys its') (hz:ys.length<=sizeLine) :
  Inv X pins σ (upd H l (.lst ys)) {s with heap:=s.heap.update l (Obj.mapSeq f),toks:=t'}:=by
 have q:=PySem.IsL.update e f;rw[hf]at q;refine I.write (x:=l) (e:=l) (by rw[hH];exact trivial) (.inl rfl) (λb' u hb hu=>(Heap.get?_update_other s.heap (Obj.mapSeq f) (Ne.symm hb)).trans hu) ⟨_,q⟩ ?_
 exact⟨hz,its',_,hv,q⟩
theorem Inv.lnew{its:List Value}{t':Nat}(I:Inv X pins σ H s)(hv:Vals ys its)(hz:ys.length<=sizeLine) :
  Inv X pins σ (upd H s.heap.objs.size (.lst ys)) {s with heap:=s.heap.push {cls:=.type "list",data:=.seq its.toArray},toks:=t'}:=
 I.laid (λ_ _ q=>Heap.get?_push_of_some _ q) (Nat.le_refl _) ⟨hz,its,0,hv,Heap.get?_push_size _ rfl⟩
theorem Inv.fresh(I:Inv X pins σ H s):H s.heap.objs.size=none:=I.hok.fresh (Nat.le_refl _)
theorem Inv.lstM(I:Inv X pins σ H s)(hH:H l=some (.lst xs)):xs.length<=sizeLine/\∃(its:List Value)(n:Nat),Vals xs its/\xs.length=its.length/\s.heap.get? l=some {cls:=.type "list",data:=.seq its.toArray n}:=by
 obtain⟨z,its,n,r,e⟩:=I.hok l _ hH;exact⟨z,its,n,r,r.length,e⟩
theorem aO9{n:Nat}(h:n<=sizeLine):Builtin.List.listTooLong n=false:=by
 unfold Builtin.List.listTooLong;exact decide_eq_false (by omega)
end
section
variable{X:Cx}
def bB9:V->List V->Hp->VK->Prop:=λx vs H Q=>∃l xs y,x=.ref l/\vs=[y]/\H l=some (.lst xs)/\xs.length<sizeLine/\Q .non (upd H l (.lst (xs++[y])))
theorem aVb:MtM X "list.append" bB9:=by
 intro pins s σ H x vs v us Q I rx rv h;obtain⟨l,xs,y,rfl,rfl,hH,hz,q⟩:=h;cases rx;obtain⟨u,rfl,ru⟩:=rv.one;obtain⟨z,its,n,r,hl,e⟩:=I.lstM hH;refine call_meets F.slot_list_append ⟨_,e,rfl⟩ F.entry_list_append (F.args_list_append_2 _ _) (PySem.list_append l its.toArray n u (by rw[List.size_toArray];omega)) ⟨e,?_⟩
 refine⟨.non,_,I.lset (its':=its++[u]) hH e (by simp) (r.append (.cons ru .nil)) ?_,rfl,q⟩
 rw[List.length_append,List.length_singleton];omega
def bBa:V->List V->Hp->VK->Prop:=λx vs H Q=>∃l b xs zs,x=.ref l/\vs=[.ref b]/\H l=some (.lst xs)/\H b=some (.lst zs)/\xs.length+zs.length<=sizeLine/\Q .non (upd H l (.lst (xs++zs)))
theorem aVc:MtM X "list.extend" bBa:=by
 intro pins s σ H x vs v us Q I rx rv h;obtain⟨l,b,xs,zs,rfl,rfl,hH,hB,hz,q⟩:=h;cases rx;obtain⟨u,rfl,ru⟩:=rv.one;cases ru;obtain⟨z,its,n,r,hl,e⟩:=I.lstM hH;obtain⟨z2,its2,n2,r2,hl2,e2⟩:=I.lstM hB;have hsz:its.toArray.size+its2.toArray.size<=sizeLine:=by rw[List.size_toArray,List.size_toArray];omega
 have hlong:¬ (!its.toArray.isEmpty&&Builtin.List.listTooLong (its.toArray.size+its2.toArray.size))=true:=by
  rw[aO9 hsz,Bool.and_false];exact Bool.false_ne_true
 refine call_meets F.slot_list_extend ⟨_,e,rfl⟩ F.entry_list_extend (F.args_list_extend_2 _ _)
  (AutoSeq1.list_extend_list_list_0 l its.toArray n b its2.toArray n2 hlong (by rw[List.size_toArray];omega) (by omega)) ⟨e,e2,?_⟩
 refine⟨.non,_,I.lset (its':=its++its2) hH e (by simp) (r.append r2) ?_,rfl,q⟩
 rw[List.length_append];omega
def bKm:V->List V->Hp->VK->Prop:=λx vs H Q=>∃l xs y,x=.ref l/\vs=[]/\H l=some (.lst xs)/\xs[xs.length-1]?=some y/\Q y (upd H l (.lst xs.dropLast))
theorem bFg:MtM X "list.pop" bKm:=by
 intro pins s σ H x vs v us Q I rx rv h;obtain⟨l,xs,y,rfl,rfl,hH,hy,q⟩:=h;cases rx;have hus:=rv.zero;subst hus;obtain⟨z,its,n,r,hl,e⟩:=I.lstM hH;obtain⟨u,hu,ru⟩:=r.get hy;have hy':its.toArray[its.toArray.size-1]?=some u:=by
  show its.toArray[its.length-1]?=some u;rw[<-Array.getElem?_toList,<-hl];exact hu
 refine call_meets F.slot_list_pop ⟨_,e,rfl⟩ F.entry_list_pop (F.args_list_pop_1 _) (MeetsSeq.list_pop_last l its.toArray n u hy' (by rw[List.size_toArray];omega)) ⟨e,?_⟩
 refine⟨y,_,I.lset (its':=its.dropLast) hH e ?_ r.dropLast ?_,ru,q⟩
 .show its.toArray.eraseIdxIfInBounds (its.toArray.size-1)=its.dropLast.toArray;rw[List.size_toArray,List.eraseIdxIfInBounds_toArray,aR2]
 .rw[List.length_dropLast];omega
def bKn:R2:=λx y H Q=>∃l k xs,x=.ref l/\y=.int k/\H l=some (.lst xs)/\-(2^63)<=k/\k<2^63/\xs.length*k.toNat<=sizeLine/\
 ∀p,H p=none->Q (.ref p) (upd H p (.lst (List.replicate k.toNat xs).flatten))
theorem len_rep{α:Type}(xs:List α)(k:Nat):(List.replicate k xs).flatten.length=k*xs.length:=by
 induction k with
 |zero=>simp
 |succ k ih=>rw[List.replicate_succ,List.flatten_cons,List.length_append,ih,Nat.succ_mul,Nat.add_comm]
theorem bFh:OpR X (binaryOp .Mult) bKn:=by
 intro pins s σ H x y v u Q I rx ry h;obtain⟨l,k,xs,rfl,rfl,hH,h1,h2,hz,q⟩:=h;cases rx;obtain⟨t,rfl⟩:=ry;obtain⟨z,its,n,r,hl,e⟩:=I.lstM hH;have hlen:its.toArray.size*k.toNat<=sizeLine:=by rw[List.size_toArray,<-hl];exact hz
 have hcap:¬ its.toArray.size*k.toNat>(2^63-1)/8:=by
  have:(sizeLine:Nat)<=(2^63-1)/8:=by decide
  omega
 have hfit:¬ (!Builtin.List.listFitsIndex k)=true:=by
  rw[fitsIndex_both h1 h2];exact Bool.false_ne_true
 have hlong:¬ Builtin.List.listTooLong (its.toArray.size*k.toNat)=true:=by
  rw[aO9 hlen];exact Bool.false_ne_true
 have hnew:List.foldl (λx1 x2=>x1++x2) #[] (List.replicate (if its.toArray.isEmpty=true then 0 else k.toNat) its.toArray)=(List.replicate k.toNat its).flatten.toArray:=by
  have f0:∀m:Nat,List.foldl (λx1 x2=>x1++x2) #[] (List.replicate m its.toArray)=(List.replicate m its).flatten.toArray:=λm=>by
   have:=foldl_rep its m [];rw[List.nil_append]at this;exact this
  rw[f0];cases its with
  |nil=>simp
  |cons a r'=>rw[if_neg (by simp)]
 refine wpAny_binaryOp_repeat_ref (T:="list") (U:="int") (by decide) ⟨_,e,rfl⟩ (λs'=>typeIs_int s' k t) noFill_list_mul F.fills_int_mul F.slot_int_rmul repeat_list F.slot_int_index.lookup
  (call_meets F.slot_int_rmul (typeIs_int s k t) F.entry_int_rmul (F.args_int_rmul_2 _ _) (int___rmul___int_list k t l its.toArray n)
   ⟨e,rfl,⟨_,e,rfl⟩,call_meets F.slot_list_mul ⟨_,e,rfl⟩ F.entry_list_mul (F.args_list_mul_2 _ _) (AutoListH.list___mul___list_int_3 l its.toArray n k t hfit hcap hlong) ⟨e,?_⟩⟩)
 rw[hnew];exact⟨.ref _,_,I.lnew (t':=s.toks) (r.rep k.toNat) (by rw[len_rep,Nat.mul_comm];exact hz),rfl,q _ I.fresh⟩
end
end L2
namespace Att
open PySem PySem.W PySem.Calls PyProof.Rows
theorem aHf{P:Params}{h:Heap}:∀(ns:List Int)(vs:List Value),WellAll P h vs (ns.map WData.int)->IntsAre vs ns:=by
 intro ns
 induction ns with
 |nil=>
  intro vs w;rw[List.map_nil]at w;cases w;exact .nil
 |cons n ns ih=>
  intro vs w;rw[List.map_cons]at w;cases w with
  |cons a b=>
   cases a;exact .cons _ _ (ih _ b)
theorem aVd{l:OpenLaw}{n:Nat}(hn:l.most=some n){P:Params}{h:Heap}{args:List WData}{vals:List Value}
  (hpre:l.row.toRowW.claim.pre args=true) (hwl:WellAll P h vals args) :
  ∃a vs ns,vals=[Value.ref a]/\args=[WData.list (ns.map WData.int)]/\h.get? a=some {cls:=.type "list",data:=.seq vs.toArray}/\IntsAre vs ns/\ns.length<=n:=by
 have hsh:WShape.hasAll [] args [.list .int]=true:=(pre_splitW hpre).1;have hc:l.pre.holds [] {args:=args}=true:=(pre_splitW hpre).2;obtain⟨d,r,rfl,h1,h2⟩:=hasAllW_cons hsh;obtain rfl:=hasAllW_nil h2;obtain⟨xs,rfl,h3⟩:=hasW_list h1;obtain⟨ns,rfl⟩:=items_int h3;have hlen:ns.length<=n:=by
  unfold OpenLaw.pre at hc;have h4:(WTm.not (.lt (.lit (.int (n:Int))) (.len (.arg 0)))).holds [] {args:=[.list (ns.map .int)]}=true:=by
   have h4:=(holds_andW hc).1;rw[hn]at h4;exact h4
  have h5:=condW_of h4 (w_not (w_lt w_lit (w_len_list (w_arg rfl))));rw[List.length_map]at h5;refine Nat.le_of_not_lt λq=>?_
  have q':(n:Int)<((ns.length:Nat):Int):=by omega
  first
   |(rw[decide_eq_true q']at h5;exact absurd h5 (by decide))
   |(simp at h5;omega)
 cases hwl with
 |cons w1 w2=>
  cases w2;cases w1 with
  |list ho hall=>exact⟨_,_,ns,rfl,rfl,ho,aHf ns _ hall,hlen⟩
theorem aVe(l:OpenLaw)(args:List WData):l.row.toRowW.claim.post args (.bool true) args=true:=
 postW_of (r:=l.row.toRowW) (X:=(true==true))
  (show WShape.has [] (.bool true) .bool=true by first|rfl|decide|simp[WShape.has,WShape.arms,WShape.armsAll])
  (show (WTm.eq .res (.lit (.bool true))).value [] {args:=args,res:=some (.bool true),after:=args}=some (.bool (true==true)) from w_eq_bool (w_res rfl) w_lit) rfl
theorem attach_call{l:OpenLaw}{n:Nat}{q:Program}{loose:List Str}{XP:(Str->Option Value)->Heap->Prop}{YP:World->Heap->Prop}{d:DefRec}
  (hn:l.most=some n) (hdf:d.params.defaults=[])
  (call:∀(w:World)(s₀ s₁:Shared)(mg mb:Str->Option Value)(fa:Addr)(o:Obj)(pm cd doc:Value)(a:Addr)(vs:List Value)(ns:List Int),
   Ground q loose [] XP w s₀ mg mb s₁.heap->YP w s₁.heap->
   s₁.heap.get? fa=some o->o.data=.func (docDef d.name d.params d.body d.scope pm cd doc)->s₁.heap.CodeRec cd d.name->mg d.name=some (.ref fa)->
   s₁.heap.get? a=some {cls:=.type "list",data:=.seq vs.toArray}->IntsAre vs ns->ns.length<=n->s₁.gens = #[]->
   codeAny (model l.prog w) callerA (.call (.ref fa) ⟨[.ref a],[]⟩) (λr s'=>r=.ok (.ret (.bool true))/\OldK s₁.heap s'.heap/\s'.os=s₁.os/\AllBare s'.gens) s₁) :
  WalkO q loose XP YP l.row.toRowW d [] (λf vs=>PySem.call f vs):=by
 intro w s₀ s₁ mg mb G Y fa o pm cd doc dV kV ho hd hcd hD hmg hg args vals as hpre hlay hrd hwl hlo;obtain rfl:dV=.none:=Dflts.none hD hdf;obtain rfl:kV=.none:=Dflts.noKw hD;obtain⟨a,vs,ns,rfl,rfl,hobj,hints,hlen⟩:=aVd hn hpre hwl;refine enter_call (codeAny_mono (call w s₀ s₁ mg mb fa o pm cd doc a vs ns G Y ho (fd_plain hd) hcd hmg hobj hints hlen hg) λr s' hq=>?_)
 obtain⟨rfl,h2,h3,h4⟩:=hq;exact⟨.inl ⟨.bool true,.bool true,[],rfl,λ_=>rfl,.bool true,aVe l _,λ_=>⟨List.Pairwise.nil,λ_ hm=>(nomatch hm)⟩⟩,h2,h3,h4⟩
end Att
namespace L2
open PySem PySem.Spec PyProof.Rows
theorem vals_ints:∀{vs:List Value}{ns:List Int},IntsAre vs ns->Vals (ns.map V.int) vs
 |_,_,.nil=>.nil
 |_,_,.cons n t h=>.cons ⟨t,rfl⟩ (vals_ints h)
def Only(H:Hp):Prop:=∀b,H b=none\/∃o xs,H b=some (.frz o (.lst xs))
theorem aXh{P:Program}{w:World}{K:PySem.W.Frag}{mg mb:Str->Option Value}{CX:CXT}{k:Nat}{fa a:Addr}{fd:FuncData}{x:Str}{sp:Sp}{s₁:Shared}{vs:List Value}{ns:List Int}
  (KX:K.In s₁.heap) (hns:s₁.heap.Ns mainGlobals mg) (hb:s₁.heap.Ns builtinsNs mb) (hbb:∀x:Str,x≠"__name__"->mb x=bootBuiltins x) (hlim:s₁.heap.NoLimit) (hg:s₁.gens = #[])
  (ha:s₁.heap.get? a=some {cls:=.type "list",data:=.seq vs.toArray}) (hi:IntsAre vs ns) (hl:ns.length<=sizeLine) (hr:Room k callerA)
  (F:∀base:Heap,K.In base->base.Ns mainGlobals mg->FnOk P w K mg base CX k fa fd [x] sp) (hbind:∀(s:Shared)(u:Value),BindsTo s fd ⟨[u],[]⟩ [(x,u)])
  (hsp:∀H:Hp,Only H->SqL K H a (ns.map V.int)->sp [.ref a] H (λv _=>v=.bl true) λ_ _ _=>False)
  (hCX:∀H e s',CX [] H s₁ (λ_ _ _=>False) e s'->False) :
  codeAny (model P w) callerA (.call (.ref fa) ⟨[.ref a],[]⟩) (λr s'=>r=.ok (.ret (.bool true))/\OldK s₁.heap s'.heap/\s'.os=s₁.os/\AllBare s'.gens) s₁:=by
 have rv:=vals_ints hi;have lenV:=hi.length;have core:∀H:Hp,Only H->SqL K H a (ns.map V.int)->HOk P w H s₁.heap->(∀b,H b≠none->b=a)->(H a≠none->K.lookup a=none)->
   codeAny (model P w) callerA (.call (.ref fa) ⟨[.ref a],[]⟩) (λr s'=>r=.ok (.ret (.bool true))/\OldK s₁.heap s'.heap/\s'.os=s₁.os/\AllBare s'.gens) s₁:=by
  intro H hO hS hok hA hK;have base_of:∀{b:Addr}{o:Obj},s₁.heap.get? b=some o->H b=none->(aM6 s₁.heap H).get? b=some o:=λe n=>aX3 e n
  have noA:∀{b:Addr}{o:Obj}{es:Array DictEntry}{ep:Nat},s₁.heap.get? b=some o->o.data=.dict es ep->H b=none:=λ{b o es ep} e d=>by
   cases q:H b with
   |none=>rfl
   |some u=>
    have e':b=a:=hA b (by rw[q];simp)
    subst e';rw[ha]at e;cases e;have d':Data.seq vs.toArray _=Data.dict es ep:=d;cases d'
  have nsK:∀{b:Addr}{m:Str->Option Value},s₁.heap.Ns b m->(aM6 s₁.heap H).Ns b m:=λ{b m} ⟨o,es,ep,e,d,r⟩=>⟨o,es,ep,base_of e (noA e d),d,r⟩
  have hKb:K.In (aM6 s₁.heap H):=λb o e=>base_of (KX b o e) (by
   cases q:H b with
   |none=>rfl
   |some u=>
    have e':b=a:=hA b (by rw[q];simp)
    subst e';rw[hK (by rw[q];simp)]at e;cases e)
  have hM:Mod K mg (aM6 s₁.heap H):=⟨hKb,nsK hns,⟨mb,nsK hb,hbb⟩,let ⟨mc,h1,h2⟩:=hlim;⟨mc,nsK h1,h2⟩⟩;have e0:Env0 P w K mg (aM6 s₁.heap H) callerA [] s₁ H:=⟨rfl,hM,λb o e=>bAm e,Nat.le_of_eq (aUy _ _),trivial,λb hb=>absurd (show b∈([]:List Addr) from hb) (by simp),hok,.of_eq hg⟩
  refine codeAny_mono ((F _ hKb (nsK hns)).run callerA [] s₁ H ⟨[.ref a],[]⟩ [.ref a] [.ref a] _ _ hr e0 (hbind s₁ (.ref a)) (.cons rfl .nil) (hsp H hO hS)) λr s' h=>?_
  cases r with
  |error e=>exact(hCX H e s' h).elim
  |ok fl=>
   cases fl with
   |next=>exact False.elim h
   |brk=>exact False.elim h
   |cont=>exact False.elim h
   |ret u=>
    obtain⟨v,H',os,bare,un,hok',r',q⟩:=h;have q':v=.bl true:=q;subst q';obtain rfl:u=Value.bool true:=r';refine⟨rfl,OldK.of_keep λb o e=>?_,os,bare⟩
    cases q:H b with
    |none=>exact un.keep b o e q (by intro z;exact absurd (show b∈([]:List Addr) from z) (by simp)) (by simp)
    |some u=>
     rcases hO b with z|⟨ob,xs,z⟩
     .rw[q]at z;cases z
     .have z2:=un.frzs b ob _ z;obtain⟨e1,_⟩:=hok b _ z;obtain⟨e2,_⟩:=hok' b _ z2;rw[e]at e1;cases e1;exact e2
 cases hk:K.lookup a with
 |some o=>
  have e:=KX a o hk;rw[ha]at e;cases e;refine core (λ_=>none) (λ_=>.inl rfl) (.inr ⟨_,vs.toArray,_,hk,rfl,rfl,rfl,by rw[List.size_toArray,lenV];exact hl,by simpa using rv⟩) (λb u z=>by have z':(none:Option HO)=some u:=z;cases z') (λb z=>absurd rfl z) λz=>absurd rfl z
 |none=>
  refine core (λb=>if b=a then some (.frz {cls:=.type "list",data:=.seq vs.toArray} (.lst (ns.map V.int))) else none) (λb=>?_) (.inl (.inr ⟨{cls:=.type "list",data:=.seq vs.toArray},if_pos rfl⟩)) (λb u z=>?_) (λb z=>?_) λ_=>hk
  .by_cases hb:b=a
   .exact .inr ⟨_,_,if_pos hb⟩
   .exact .inl (if_neg hb)
  .by_cases hb:b=a
   .have z':=(if_pos hb).symm.trans z;cases z';subst hb;exact⟨ha,by rw[List.length_map];exact hl,vs,_,rv,ha⟩
   .have z':=(if_neg hb).symm.trans z;cases z'
  .by_cases hb:b=a
   .exact hb
   .exact absurd (if_neg hb) z
end L2
namespace L2
open PySem PySem.Spec PyProof.Rows
theorem walk_of{l:PySem.W.OpenLaw}{n k:Nat}{q:Program}{loose:List Str}{XP:(Str->Option Value)->Heap->Prop}{YP:World->Heap->Prop}{d:DefRec}{K:Params->PySem.W.Frag}{CX:World->CXT}{sp:World->Sp}{x:Str}
  (hn:l.most=some n) (hn2:n<=sizeLine) (hdf:d.params.defaults=[]) (hr:Room k callerA)
  (hY:∀(w:World)(h:Heap),YP w h->(K w.params).In h)
  (F:∀(w:World)(mg:Str->Option Value)(fa:Addr)(h:Heap),(K w.params).In h->h.Ns mainGlobals mg->mg d.name=some (.ref fa)->
   ∃fd:FuncData,(∀(s:Shared)(u:Value),BindsTo s fd ⟨[u],[]⟩ [(x,u)])/\
    ∀base:Heap,(K w.params).In base->base.Ns mainGlobals mg->FnOk l.prog w (K w.params) mg base (CX w) k fa fd [x] (sp w))
  (hsp:∀(w:World)(H:Hp)(a:Addr)(ns:List Int),ns.length<=n->Only H->SqL (K w.params) H a (ns.map V.int)->sp w [.ref a] H (λv _=>v=.bl true) λ_ _ _=>False)
  (hCX:∀(w:World)(H:Hp)(s:Shared)(e:Value)(s':Shared),CX w [] H s (λ_ _ _=>False) e s'->False) :
  PySem.W.WalkO q loose XP YP l.row.toRowW d [] (λf vs=>PySem.call f vs):=by
 refine Att.attach_call hn hdf λw s₀ s₁ mg mb fa o pm cd doc a vs ns G Y ho hd hcd hmg hobj hints hlen hg=>?_
 have KX:=hY w _ Y;obtain⟨fd,hb,hF⟩:=F w mg fa _ KX G.T.g hmg;exact aXh KX G.T.g G.T.b G.T.builtins G.T.nolimit hg hobj hints (Nat.le_trans hlen hn2) hr hF hb (λH hO hS=>hsp w H a ns hlen hO hS) λH e s'=>hCX w H s₁ e s'
end L2
namespace L2
open PySem PySem.Spec PyProof.Rows
def jA(s:Stmt):Arguments:=match s with
 |.FunctionDef _ a _ _ _ _ _ _ _ _=>a
 |_=>{posonlyargs:=[],args:=[],vararg:=none,kwonlyargs:=[],kw_defaults:=[],kwarg:=none,defaults:=[]}
def fK(s:Stmt):List Stmt:=match s with
 |.FunctionDef _ _ b _ _ _ _ _ _ _=>b
 |_=>[]
def aJ(s:Stmt):Scope:=match s with
 |.FunctionDef _ _ _ _ _ _ sc _ _ _=>sc
 |_=>{kind:=.function,names:=[],isGenerator:=false,isCoroutine:=false}
abbrev CX0:CXT:=λ_ _ _ _ _ _=>False
abbrev E0:XK:=λ_ _ _=>False
theorem aOa{X:Cx}:aFq CX0 X E0:=λ_ _ _ _ _ _ _ h=>h.elim
structure Fun(K:PySem.W.Frag)(x qual:Str)(st:Stmt)(f:Addr)(fd:FuncData):Prop where
 ex:∃(oc:Value)(od:Option Addr)(kV doc pm:Value)(an:Option Addr)(cdv ct:Value) (osl:Array (Option Value)),
  fd=PySem.W.fnOf x qual (jA st) (fK st) (aJ st) .none kV doc pm an cdv ct/\K.lookup f=some ⟨oc,od,.func fd,osl⟩/\PySem.W.codeIn K cdv qual=true
 kp:PySem.W.keepIn K (.ref f)=true
section
variable{P:Program}{w:World}{K:PySem.W.Frag}{mg:Str->Option Value}{base:Heap}
theorem Fun.ok{x qual:Str}{st:Stmt}{f:Addr}{fd:FuncData}{N ps:List Str}{k:Nat}{sp:Sp}(F:Fun K x qual st f fd)(S:FnScope N ps (aJ st))(len:∀vs H Q E,sp vs H Q E->vs.length=ps.length)
  (hbody:∀(cdv:Value)(A:Around)(outer:List Env)(s:Shared)(H:Hp)(vs:List V)(Q:VK)(E:XK),Room k (A.deeper (envOfC qual (aJ st) s.heap.objs.size f cdv))->sp vs H Q E->
   ∃t,PSs (aI8 CX0 P w K mg base N qual (aJ st) f cdv A outer s H E).nox (fK st) t/\t {nx:=λ_ H'=>Q .non H',rt:=Q} (start N vs) H):FnOk P w K mg base CX0 (k+1) f fd ps sp:=by
 obtain⟨oc,od,kV,doc,pm,an,cdv,ct,osl,rfl,lk,hcd⟩:=F.ex;refine bDx lk hcd S len λA outer s H vs Q E hr hsp=>?_
 obtain⟨t,h,q⟩:=hbody cdv A outer s H vs Q E hr hsp;exact⟨t,h.nox,q⟩
theorem Fun.binds{x qual:Str}{st:Stmt}{f:Addr}{fd:FuncData}{ps:List Str}(F:Fun K x qual st f fd)
  (h:∀(kV doc pm:Value)(an:Option Addr)(cdv ct:Value)(us:List Value),us.length=ps.length->bindArgs (PySem.W.fnOf x qual (jA st) (fK st) (aJ st) .none kV doc pm an cdv ct) ⟨us,[]⟩=pure (ps.zip us)):Binds K fd ps []:=by
 obtain⟨oc,od,kV,doc,pm,an,cdv,ct,osl,rfl,lk,hcd⟩:=F.ex;exact .all (h kV doc pm an cdv ct)
theorem bFi{x qual:Str}{st:Stmt}{f:Addr}{oc:Value}{od an:Option Addr}{osl:Array (Option Value)}{kV doc pm cdv ct:Value}(l:K.lookup f=some ⟨oc,od,.func (PySem.W.fnOf x qual (jA st) (fK st) (aJ st) .none kV doc pm an cdv ct),osl⟩)
  (c:PySem.W.codeIn K cdv qual=true) (k:PySem.W.keepIn K (.ref f)=true):Fun K x qual st f (PySem.W.fnOf x qual (jA st) (fK st) (aJ st) .none kV doc pm an cdv ct):=⟨⟨oc,od,kV,doc,pm,an,cdv,ct,osl,rfl,l,c⟩,k⟩
end
section
variable{X:Cx}
theorem pv(i:Nat){x:Str}{pos:Pos}(hN:X.N[i]?=some x:=by rfl)(hv:Vis X.env.scope x:=by first|exact Or.inl rfl|exact Or.inr (Or.inl rfl)|exact Or.inr (Or.inr rfl))(hd:(x==("__debug__":Str))=false:=by decide)
  (hcd:(x==("__classdict__":Str))=false:=by decide):PE X (.Name x pos) (bHp i):=vR hN hv hd hcd
end
def bL(H H':Hp):Prop:=∀b o,H b=some o->H' b=some o
theorem bL.refl(H:Hp):bL H H:=λ_ _ h=>h
theorem bL.trans{H H1 H2:Hp}(a:bL H H1)(b:bL H1 H2):bL H H2:=λc o h=>b c o (a c o h)
theorem bL.free{H H':Hp}(e:bL H H'){l:Addr}(h:H' l=Option.none):H l=Option.none:=by
 cases q:H l with
 |none=>rfl
 |some o=>
  rw[e l o q]at h;cases h
theorem bL.seq{K:PySem.W.Frag}{H H':Hp}{a:Addr}{xs:List V}(e:bL H H')(h:SqL K H a xs):SqL K H' a xs:=by
 rcases h with (h|⟨o,h⟩)|h
 .exact .inl (.inl (e _ _ h))
 .exact .inl (.inr ⟨o,e _ _ h⟩)
 .exact .inr h
end L2
namespace L2
open PySem PySem.Spec PyProof.Rows
section
variable{κ:Type}[DecidableEq κ]
def aDz(kvs:List (κ×V))(k:κ):Option V:=(kvs.find? λkv=>decide (kv.1=k)).map (·.2)
def putK(kvs:List (κ×V))(k:κ)(v:V):List (κ×V):=
 if (kvs.any λkv=>decide (kv.1=k))=true then kvs.map (λkv=>if kv.1=k then (kv.1,v) else kv) else kvs++[(k,v)]
def bDy(kvs:List (κ×V))(k:κ):List (κ×V):=kvs.filter λkv=>decide (kv.1≠k)
theorem aAb{p:κ×V}{r:List (κ×V)}{k:κ}(e:p.1=k):aDz (p::r) k=some p.2:=by simp[aDz,List.find?_cons,e]
theorem aAc{p:κ×V}{r:List (κ×V)}{k:κ}(e:¬ p.1=k):aDz (p::r) k=aDz r k:=by simp[aDz,List.find?_cons,e]
theorem aOb(k:κ):∀kvs:List (κ×V),(kvs.any λkv=>decide (kv.1=k))=(aDz kvs k).isSome
 |[]=>rfl
 |p::r=>by
  rw[List.any_cons]
  by_cases e:p.1=k
  .simp only[aAb e,decide_eq_true e,Bool.true_or,Option.isSome_some]
  .rw[aAc e,decide_eq_false e,Bool.false_or];exact aOb k r
theorem aAd(kvs:List (κ×V))(k:κ)(v:V):(putK kvs k v).length<=kvs.length+1:=by
 unfold putK;split
 .rw[List.length_map];omega
 .rw[List.length_append,List.length_cons,List.length_nil];omega
theorem xR.isSome_eq{o:Option V}{u:Option Value}(r:xR o u):o.isSome=u.isSome:=by
 cases o with
 |none=>cases u with
  |none=>rfl
  |some _=>exact(show False from r).elim
 |some _=>cases u with
  |none=>exact(show False from r).elim
  |some _=>rfl
theorem xR.getD{o:Option V}{u:Option Value}{d:V}{d':Value}(r:xR o u)(rd:RelV d d'):RelV (o.getD d) (u.getD d'):=by
 cases o with
 |none=>cases u with
  |none=>exact rd
  |some _=>exact(show False from r).elim
 |some _=>cases u with
  |none=>exact(show False from r).elim
  |some _=>exact r
theorem KV.val{kvs:List (κ×V)}{vs:List (κ×Value)}(r:KV kvs vs)(k:κ):xR (aDz kvs k) (valueAt vs k):=by
 unfold KV at r
 induction r with
 |nil=>exact True.intro
 |@cons p q ps qs h t ih=>
  obtain⟨h1,h2⟩:=h
  by_cases e:p.1=k
  .have e':q.1=k:=h1.symm.trans e;have b:valueAt (q::qs) k=some q.2:=by simp[valueAt,List.find?_cons,e']
   rw[aAb e,b];exact h2
  .have e':¬ q.1=k:=λz=>e (h1.trans z)
   have b:valueAt (q::qs) k=valueAt qs k:=by simp[valueAt,List.find?_cons,e']
   rw[aAc e,b];exact ih
theorem KV.any{kvs:List (κ×V)}{vs:List (κ×Value)}(r:KV kvs vs)(k:κ):(kvs.any λkv=>decide (kv.1=k))=vs.any λkv=>decide (kv.1=k):=by
 unfold KV at r
 induction r with
 |nil=>rfl
 |cons h t ih=>rw[List.any_cons,List.any_cons,ih,h.1]
theorem KV.repl{kvs:List (κ×V)}{vs:List (κ×Value)}(r:KV kvs vs)(k:κ){y:V}{u:Value}(ry:RelV y u) :
  KV (kvs.map λkv=>if kv.1=k then (kv.1,y) else kv) (vs.map λkv=>if kv.1=k then (kv.1,u) else kv):=by
 unfold KV at r ⊢
 induction r with
 |nil=>exact .nil
 |@cons p q ps qs h t ih=>
  rw[List.map_cons,List.map_cons];refine .cons ?_ ih;obtain⟨h1,h2⟩:=h
  by_cases e:p.1=k
  .rw[if_pos e,if_pos (h1.symm.trans e)];exact⟨h1,ry⟩
  .rw[if_neg e,if_neg (λz=>e (h1.trans z))];exact⟨h1,h2⟩
theorem KV.put{kvs:List (κ×V)}{vs:List (κ×Value)}(r:KV kvs vs)(k:κ){y:V}{u:Value}(ry:RelV y u):KV (putK kvs k y) (stored vs k u):=by
 unfold putK stored;rw[r.any k]
 by_cases e:(vs.any λkv=>decide (kv.1=k))=true
 .rw[if_pos e,if_pos e];exact r.repl k ry
 .rw[if_neg e,if_neg e];exact Paired.snoc r ⟨rfl,ry⟩
theorem KV.drop{kvs:List (κ×V)}{vs:List (κ×Value)}(r:KV kvs vs)(k:κ):KV (bDy kvs k) (without vs k):=by
 unfold KV at r ⊢;unfold bDy without
 induction r with
 |nil=>exact .nil
 |@cons p q ps qs h t ih=>
  obtain⟨h1,h2⟩:=h;rw[List.filter_cons,List.filter_cons]
  by_cases e:p.1=k
  .have a:¬ decide (p.1≠k)=true:=by simp[e]
   have b:¬ decide (q.1≠k)=true:=by simp[h1.symm.trans e]
   rw[if_neg a,if_neg b];exact ih
  .have e':¬ q.1=k:=λz=>e (h1.trans z)
   have a:decide (p.1≠k)=true:=by simp[e]
   have b:decide (q.1≠k)=true:=by simp[e']
   rw[if_pos a,if_pos b];exact .cons ⟨h1,h2⟩ ih
theorem KV.length{kvs:List (κ×V)}{vs:List (κ×Value)}(r:KV kvs vs):kvs.length=vs.length:=Paired.length r
end
theorem aI9{P:Program}{w:World}{k:Key}{u:Value}(r:RelV (kV k) u):(gB P w).is k u=true:=by
 cases k with
 |inl i=>obtain⟨t,e⟩:=(show ∃t,u=Value.int i t from r);subst e;exact aO2 P w i t
 |inr x=>obtain⟨t,e⟩:=(show ∃t,u=Value.str x t from r);subst e;exact aO3 P w x t
theorem aL0{P:Program}{w:World}:∀{ks:List Key}{us:List Value},Vals (ks.map kV) us->ItemsAre (gB P w) ks us
 |[],_,r=>by rw[List.map_nil]at r;cases r;exact .nil
 |k::ks,_,r=>by
  rw[List.map_cons]at r;cases r with
  |cons h t=>exact .cons (aI9 h) (aL0 t)
abbrev KT(H:Hp):List (List Key×V)->List (List Key×Addr×Value)->Prop:=Paired λp q=>p.1=q.1/\H q.2.1=some (.tup (p.1.map kV))/\RelV p.2 q.2.2
theorem KT.val{H:Hp}{kvs:List (List Key×V)}{xs:List (List Key×Addr×Value)}(r:KT H kvs xs)(k:List Key):xR (aDz kvs k) ((atKey xs k).map (·.2)):=by
 induction r with
 |nil=>exact True.intro
 |@cons p q ps qs h t ih=>
  obtain⟨h1,_,h2⟩:=h
  by_cases e:p.1=k
  .have e':q.1=k:=h1.symm.trans e;have b:atKey (q::qs) k=some q.2:=by simp[atKey,List.find?_cons,e']
   rw[aAb e,b];exact h2
  .have e':¬ q.1=k:=λz=>e (h1.trans z)
   have b:atKey (q::qs) k=atKey qs k:=by simp[atKey,List.find?_cons,e']
   rw[aAc e,b];exact ih
theorem KT.repl{H:Hp}{kvs:List (List Key×V)}{xs:List (List Key×Addr×Value)}(r:KT H kvs xs)(k:List Key){y:V}{u:Value}(ry:RelV y u) :
  KT H (kvs.map λkv=>if kv.1=k then (kv.1,y) else kv) (xs.map (putAt k u)):=by
 induction r with
 |nil=>exact .nil
 |@cons p q ps qs h t ih=>
  rw[List.map_cons,List.map_cons];refine .cons ?_ ih;obtain⟨h1,h2,h3⟩:=h;unfold putAt
  by_cases e:p.1=k
  .rw[if_pos e,if_pos (h1.symm.trans e)];exact⟨h1,h2,ry⟩
  .rw[if_neg e,if_neg (λz=>e (h1.trans z))];exact⟨h1,h2,h3⟩
theorem KT.put{H:Hp}{kvs:List (List Key×V)}{xs:List (List Key×Addr×Value)}(r:KT H kvs xs)(k:List Key){b:Addr}{y:V}{u:Value}(hb:H b=some (.tup (k.map kV)))(ry:RelV y u) :
  KT H (putK kvs k y) (storedH xs k b u):=by
 have e:(kvs.any λkv=>decide (kv.1=k))=(atKey xs k).isSome:=by
  rw[aOb,(r.val k).isSome_eq,Option.isSome_map]
 unfold putK storedH;rw[e]
 by_cases q:(atKey xs k).isSome=true
 .rw[if_pos q,if_pos q];exact r.repl k ry
 .rw[if_neg q,if_neg q];exact Paired.snoc r ⟨rfl,hb,ry⟩
theorem KT.keeps{H H':Hp}{kvs:List (List Key×V)}{xs:List (List Key×Addr×Value)}(r:KT H kvs xs)(ht:∀b ys,H b=some (.tup ys)->H' b=some (.tup ys)):KT H' kvs xs:=
 Paired.mapP r λ_ _ z=>⟨z.1,ht _ _ z.2.1,z.2.2⟩
section
variable{P:Program}{w:World}{H:Hp}{h:Heap}{a:Addr}
theorem bDz{u:HO}(ok:HOk P w H h)(e:Rd H a u):mG P w H h a u:=e.ok ok
theorem aGo{kvs:List (Key×V)}(ok:HOk P w H h)(e:Rd H a (.dK kvs)):kvs.length<=sizeLine/\(a==sysModules)=false/\∃vs,KV kvs vs/\h.DictOf (gB P w) a vs:=
 show mG P w H h a (.dK kvs) from bDz ok e
theorem aSq{kvs:List (Key×V)}(ok:HOk P w H h)(e:H a=some (.dK kvs)):kvs.length<=sizeLine/\(a==sysModules)=false/\∃vs,KV kvs vs/\h.DictOf (gB P w) a vs:=aGo ok (.inl e)
theorem aFr{ks:List Key}(ok:HOk P w H h)(e:H a=some (.tup (ks.map kV))):(tupleKind (gB P w)).is h ks a:=by
 obtain⟨_,its,r,o,h1,h2,n,h3⟩:=(show mG P w H h a (.tup (ks.map kV)) from ok a _ e)
 exact⟨o,its.toArray,n,h1,h2,h3,by simpa using aL0 r⟩
theorem aIa{kvs:List (List Key×V)}(ok:HOk P w H h)(e:Rd H a (.dT kvs)):kvs.length<=sizeLine/\(a==sysModules)=false/\
  ∃xs,KT H kvs xs/\h.DictOfH (tupleKind (gB P w)) a xs:=by
 obtain⟨z,y,xs,r,o,es,ep,h1,h2,h3,h4,h5⟩:=(show mG P w H h a (.dT kvs) from bDz ok e)
 refine⟨z,y,xs,r,o,es,ep,h1,h2,h3,h4,λx hx=>?_,h5⟩
 have all:∀{l:List (List Key×V)} {m:List (List Key×Addr×Value)},KT H l m->∀x∈m,(tupleKind (gB P w)).is h x.1 x.2.1:=by
  intro l m q
  induction q with
  |nil=>intro x hx;exact nomatch hx
  |@cons p q ps qs hq t ih=>
   intro x hx;rcases List.mem_cons.mp hx with e|hx
   .subst e;exact aFr ok (by rw[<-hq.1];exact hq.2.1)
   .exact ih x hx
 exact all r x hx
theorem bIg{kvs:List (List Key×V)}(ok:HOk P w H h)(e:H a=some (.dT kvs)):kvs.length<=sizeLine/\(a==sysModules)=false/\
  ∃xs,KT H kvs xs/\h.DictOfH (tupleKind (gB P w)) a xs:=aIa ok (.inl e)
end
def aCj(H:Hp)(a:Addr)(y:V)(r:Option V):Prop:=
 (∃kvs k,Rd H a (.dK kvs)/\y=kV k/\r=aDz kvs k)\/∃kvs k b,Rd H a (.dT kvs)/\y=.ref b/\H b=some (.tup (k.map kV))/\r=aDz kvs k
def aMh(H:Hp)(a:Addr)(y v:V)(H':Hp):Prop:=
 (∃kvs k,H a=some (.dK kvs)/\y=kV k/\kvs.length<sizeLine/\H'=upd H a (.dK (putK kvs k v)))\/
 ∃kvs k b,H a=some (.dT kvs)/\y=.ref b/\H b=some (.tup (k.map kV))/\kvs.length<sizeLine/\H'=upd H a (.dT (putK kvs k v))
theorem aCj.k{H:Hp}{a:Addr}{kvs:List (Key×V)}{k:Key}(e:H a=some (.dK kvs)):aCj H a (kV k) (aDz kvs k):=.inl ⟨kvs,k,.inl e,rfl,rfl⟩
theorem aCj.t{H:Hp}{a b:Addr}{kvs:List (List Key×V)}{k:List Key}(e:H a=some (.dT kvs))(eb:H b=some (.tup (k.map kV))):aCj H a (.ref b) (aDz kvs k):=.inr ⟨kvs,k,b,.inl e,rfl,eb,rfl⟩
theorem aMh.k{H:Hp}{a:Addr}{kvs:List (Key×V)}{k:Key}{v:V}(e:H a=some (.dK kvs))(hl:kvs.length<sizeLine):aMh H a (kV k) v (upd H a (.dK (putK kvs k v))):=.inl ⟨kvs,k,e,rfl,hl,rfl⟩
theorem aMh.t{H:Hp}{a b:Addr}{kvs:List (List Key×V)}{k:List Key}{v:V}(e:H a=some (.dT kvs))(eb:H b=some (.tup (k.map kV)))(hl:kvs.length<sizeLine) :
  aMh H a (.ref b) v (upd H a (.dT (putK kvs k v))):=.inr ⟨kvs,k,b,e,rfl,eb,hl,rfl⟩
section
variable{X:Cx}{pins:List (Addr×Obj)}{σ:St}{H:Hp}{s:Shared}{a:Addr}{y v:V}{u r:Value}{o:Option V}{A:Around}{E:Value->Shared->Prop}
theorem Inv.big(I:Inv X pins σ H s):sysModules<s.heap.objs.size:=by
 have h:mainGlobals<s.heap.objs.size:=(I.mod.glob.keeps I.bk).lt;exact Nat.lt_trans (by decide) h
theorem aVf{Q:Value->Shared->Prop}(hu:A.units+1<cLine)(I:Inv X pins σ H s)(g:aCj H a y (some v))(ry:RelV y u)(h:∀w' s',Inv X pins σ H s'->RelV v w'->Q w' s') :
  wpAny (model X.prog X.w) A (getItem (.ref a) u) Q E s:=by
 rcases g with ⟨kvs,k,e,ey,l⟩|⟨kvs,k,b,e,ey,eb,l⟩
 .subst ey;obtain⟨z,hd,vs,rel,dd⟩:=aGo I.hok e;obtain⟨w',hw,rw'⟩:=xR.some_of (v:=v) (o:=valueAt vs k) (by rw[l];exact rel.val k)
  exact wpAny_getItem_of (aI9 ry) dd.mapOf hw (h w' _ (I.tok _) rw')
 .subst ey;cases (show u=Value.ref b from ry)
  obtain⟨z,hd,xs,rel,dd⟩:=aIa I.hok e;obtain⟨w',hw,rw'⟩:=xR.some_of (v:=v) (o:=(atKey xs k).map (·.2)) (by rw[l];exact rel.val k)
  obtain⟨p,hp,hp2⟩:=Option.map_eq_some_iff.mp hw;refine wpAny_getItem_heap (tupleKind_room_in1 hu) (aFr I.hok eb) dd hp ?_
  rw[hp2];exact h w' _ (I.tok _) rw'
theorem bKo{Q:Value->Shared->Prop}(hu:A.units+1<cLine)(I:Inv X pins σ H s)(g:aCj H a y o)(ry:RelV y u)(h:∀s',Inv X pins σ H s'->Q (.bool o.isSome) s') :
  wpAny (model X.prog X.w) A (compareOp .In u (.ref a)) Q E s:=by
 rcases g with ⟨kvs,k,e,ey,l⟩|⟨kvs,k,b,e,ey,eb,l⟩
 .subst ey;obtain⟨z,hd,vs,rel,dd⟩:=aGo I.hok e;refine wpAny_in_of (aI9 ry) hd dd.mapOf ?_
  rw[<-(rel.val k).isSome_eq,<-l];exact h _ (I.tok _)
 .subst ey;cases (show u=Value.ref b from ry)
  obtain⟨z,hd,xs,rel,dd⟩:=aIa I.hok e;refine wpAny_in_heap (tupleKind_room_in1 hu) (aFr I.hok eb) hd dd ?_
  have q:=(rel.val k).isSome_eq;rw[Option.isSome_map]at q;rw[<-q,<-l];exact h _ (I.tok _)
theorem bBb{Q:Value->Shared->Prop}(hu:A.units+1<cLine)(I:Inv X pins σ H s)(g:aCj H a y o)(ry:RelV y u)(h:∀s',Inv X pins σ H s'->Q (.bool (!o.isSome)) s') :
  wpAny (model X.prog X.w) A (compareOp .NotIn u (.ref a)) Q E s:=by
 rcases g with ⟨kvs,k,e,ey,l⟩|⟨kvs,k,b,e,ey,eb,l⟩
 .subst ey;obtain⟨z,hd,vs,rel,dd⟩:=aGo I.hok e;refine wpAny_notIn_of (aI9 ry) hd dd.mapOf ?_
  rw[<-(rel.val k).isSome_eq,<-l];exact h _ (I.tok _)
 .subst ey;cases (show u=Value.ref b from ry)
  obtain⟨z,hd,xs,rel,dd⟩:=aIa I.hok e;refine wpAny_notIn_heap (tupleKind_room_in1 hu) (aFr I.hok eb) hd dd ?_
  have q:=(rel.val k).isSome_eq;rw[Option.isSome_map]at q;rw[<-q,<-l];exact h _ (I.tok _)
theorem aMi{h':Heap}{t':Nat}{ob:HO}(I:Inv X pins σ H s)(mu:Mut (H a))(hs:Heap.SameBut a s.heap h')(he:∃q,h'.get? a=some q)(new:mG X.prog X.w (upd H a ob) h' a ob) :
  Inv X pins σ (upd H a ob) {s with heap:=h',toks:=t'}:=
 I.write (x:=a) (e:=a) mu (.inl rfl) (λb q hb z=>(hs.2 b hb).trans z) he new
theorem aXi{P:Program}{w:World}{H':Hp}{h':Heap}{kvs:List (Key×V)}{vs:List (Key×Value)}(z:kvs.length<=sizeLine)(hd:(a==sysModules)=false)(rel:KV kvs vs)(dd:h'.DictOf (gB P w) a vs) :
  mG P w H' h' a (.dK kvs):=⟨z,hd,vs,rel,dd⟩
theorem aVg{H':Hp}{Q:Unit->Shared->Prop}(hu:A.units+1<cLine)(I:Inv X pins σ H s)(g:aMh H a y v H')(ry:RelV y u)(rv:RelV v r)(h:∀s',Inv X pins σ H' s'->Q () s') :
  wpAny (model X.prog X.w) A (setItem (.ref a) u r) Q E s:=by
 rcases g with ⟨kvs,k,e,ey,l,eH⟩|⟨kvs,k,b,e,ey,eb,l,eH⟩
 .subst ey eH;obtain⟨z,hd,vs,rel,dd⟩:=aSq I.hok e;have hz:vs.length<=sizeLine:=by rw[<-rel.length];exact z
  have hl:(putK kvs k v).length<=sizeLine:=by have:=aAd kvs k v;omega
  refine wpAny_setItem_pairs (hsz:=hz) (aI9 ry) dd λh' dd' hs=>h _ ?_
  have he:∃q,h'.get? a=some q:=let ⟨q,_,_,hq,_⟩:=dd';⟨q,hq⟩;exact aMi I (by rw[e];exact True.intro) hs he (aXi hl hd (rel.put k rv) dd')
 .subst ey eH;cases (show u=Value.ref b from ry)
  obtain⟨z,hd,xs,rel,dd⟩:=bIg I.hok e;have hz:xs.length<=sizeLine:=by rw[<-Paired.length rel];exact z
  have hl:(putK kvs k v).length<=sizeLine:=by have:=aAd kvs k v;omega
  refine wpAny_setItem_heap (hsz:=hz) (tupleKind_room_in1 hu) (aFr I.hok eb) dd λh' dd' hs=>h _ ?_
  obtain⟨q,es,ep,hq,h2,h3,h4,_,h5⟩:=dd';refine aMi I (by rw[e];exact True.intro) hs ⟨q,hq⟩ ⟨hl,hd,_,(rel.put k eb rv).keeps λc ys ec=>?_,q,es,ep,hq,h2,h3,h4,h5⟩
  rw[bQ (bHo ec e (λz=>nomatch z))]
  exact ec
end
section
variable{X:Cx}{pins:List (Addr×Obj)}{σ:St}{H:Hp}{s:Shared}{a:Addr}{kvs:List (Key×V)}{k:Key}{u:Value}{A:Around}{E:Value->Shared->Prop}
theorem bIh{Q:Value->Shared->Prop}(I:Inv X pins σ H s)(e:Rd H a (.dK kvs))(h:∀t s',Inv X pins σ H s'->Q (.int kvs.length t) s'):wpAny (model X.prog X.w) A (call (.builtin "len") [.ref a]) Q E s:=by
 obtain⟨z,hd,vs,rel,dd⟩:=aGo I.hok e;refine call_len_dict hd dd (by rw[<-rel.length];rw[sizeLine_eq]at z;omega) ?_
 rw[<-rel.length];exact h _ _ (I.tok _)
end
theorem aOc{X:Cx}{pins:List (Addr×Obj)}{σ:St}{H:Hp}{s:Shared}{a:Addr}{y:V}{o:Option V}(I:Inv X pins σ H s)(g:aCj H a y o):s.TypeIs (.ref a) "dict":=by
 rcases g with ⟨kvs,k,e,_,_⟩|⟨kvs,k,b,e,_,_,_⟩
 .obtain⟨_,_,vs,_,dd⟩:=aGo I.hok e;exact dd.typeIs
 .obtain⟨_,_,xs,_,dd⟩:=aIa I.hok e;exact dd.typeIs
def sDPut(td ty tv:TE):TS:=λD σ H=>tv σ H λv H1=>td σ H1 λx H2=>ty σ H2 λy H3=>∃a H4,x=.ref a/\aMh H3 a y v H4/\D.nx σ H4
theorem aOd{P:Program}{w:World}{H:Hp}(h:Heap)(hb:sysModules<h.objs.size):mG P w H (h.push {cls:=.type "dict",data:=.dict #[]}) h.objs.size (.dK []):=
 ⟨Nat.zero_le _,beq_eq_false_iff_ne.mpr (Ne.symm (Nat.ne_of_lt hb)),[],.nil,Heap.DictOf.new h⟩
def bFj:TE:=λ_ H Q=>∀p,H p=none->Q (.ref p) (upd H p (.dK []))
section
variable{X:Cx}{pos:Pos}
theorem aXj:PE X (.Dict [] [] pos) bFj:=λpins s σ H Q I h=>
 wpAny_Dict_empty ⟨.ref s.heap.objs.size,_,I.laid (a:=s.heap.objs.size) (o:=.dK []) (t':=s.toks) (λ_ _ q=>Heap.get?_push_of_some _ q) (Nat.le_refl _) (aOd s.heap I.big),rfl,h _ (I.hok.fresh (Nat.le_refl _))⟩
end
def aR3:List (TE×TE)->St->Hp->(List (V×V)->Hp->Prop)->Prop
 |[],_,H,Q=>Q [] H
 |(tk,tv)::r,σ,H,Q=>tk σ H λx H1=>tv σ H1 λy H2=>aR3 r σ H2 λps H3=>Q ((x,y)::ps) H3
abbrev VV:List (V×V)->List (Value×Value)->Prop:=Paired λp q=>RelV p.1 q.1/\RelV p.2 q.2
def PPs(X:Cx)(pos:Pos)(keys:List (Option Expr))(values:List Expr)(trs:List (TE×TE)):Prop:=
 ∀(pins:List (Addr×Obj)) (s:Shared) (σ:St) (H:Hp) (Q:List (V×V)->Hp->Prop),Inv X pins σ H s->aR3 trs σ H Q->
  wpAny (model X.prog X.w) X.A (evalPairs (pairTrees keys values X.env pos)) (λvs s'=>∃ps H',Inv X pins σ H' s'/\VV ps vs/\Q ps H') X.xe s
theorem bBc{X:Cx}{pos:Pos}:PPs X pos [] [] []:=λpins s σ H Q I h=>pairTrees_nil_walk ⟨[],H,I,.nil,h⟩
theorem aXk{X:Cx}{pos:Pos}{k v:Expr}{ks:List (Option Expr)}{vs:List Expr}{tk tv:TE}{trs:List (TE×TE)}(hk:PE X k tk)(hv:PE X v tv)(hr:PPs X pos ks vs trs) :
  PPs X pos (some k::ks) (v::vs) ((tk,tv)::trs):=λpins s σ H Q I h=>
 pairTrees_cons_walk (thn (hk pins s σ H _ I h) λu s1 ⟨x,H1,I1,rx,q1⟩=>thn (hv pins s1 σ H1 _ I1 q1) λw2 s2 ⟨y,H2,I2,ry,q2⟩=>
  thn (hr pins s2 σ H2 _ I2 q2) λws s3 ⟨ps,H3,I3,rel,q3⟩=>⟨(x,y)::ps,H3,I3,.cons ⟨rx,ry⟩ rel,q3⟩)
def aFs(kvs more:List (Key×V)):List (Key×V):=more.foldl (λacc kv=>putK acc kv.1 kv.2) kvs
theorem KV.merge:∀{more:List (Key×V)} {rs:List (Key×Value)} {kvs:List (Key×V)} {vs:List (Key×Value)},KV more rs->KV kvs vs->KV (aFs kvs more) (merged vs rs):=by
 intro more rs kvs vs r;unfold KV at r
 induction r generalizing kvs vs with
 |nil=>intro q;exact q
 |@cons p q ps qs h t ih=>
  intro r0;have e:KV (putK kvs p.1 p.2) (stored vs q.1 q.2):=by
   have:=r0.put p.1 h.2;rw[<-h.1];exact this
  exact ih e
theorem aCm:∀(more kvs:List (Key×V)),(aFs kvs more).length<=kvs.length+more.length
 |[],kvs=>by show kvs.length<=kvs.length+0;omega
 |p::r,kvs=>by
  have h1:=aCm r (putK kvs p.1 p.2);have h2:=aAd kvs p.1 p.2;show (aFs (putK kvs p.1 p.2) r).length<=_;rw[List.length_cons];omega
theorem aIb{P:Program}{w:World}:∀{kvs:List (Key×V)} {ws:List (Value×Value)},VV (kvs.map λkv=>(kV kv.1,kv.2)) ws->∃rs,Carries (gB P w) ws rs/\KV kvs rs
 |[],_,r=>by rw[List.map_nil]at r;cases r;exact⟨[],True.intro,.nil⟩
 |p::kvs,_,r=>by
  rw[List.map_cons]at r;cases r with
  |@cons a b as bs h t=>
   obtain⟨rs,c,q⟩:=aIb (P:=P) (w:=w) t;obtain⟨b1,b2⟩:=b;exact⟨(p.1,b2)::rs,⟨aI9 h.1,rfl,c⟩,.cons ⟨rfl,h.2⟩ q⟩
def bIi(trs:List (TE×TE)):TE:=λσ H Q=>∀p,H p=none->aR3 trs σ (upd H p (.dK [])) λps H2=>H2 p=some (.dK [])/\∃kvs:List (Key×V),ps=kvs.map (λkv=>(kV kv.1,kv.2))/\kvs.length<=15/\Q (.ref p) (upd H2 p (.dK (aFs [] kvs)))
theorem bBd{X:Cx}{pos:Pos}{keys:List (Option Expr)}{values:List Expr}{trs:List (TE×TE)}(h:PPs X pos keys values trs)(hall:keys.all (·.isSome)=true)(hl:keys.length=values.length)(h0:keys≠[])
  (h15:keys.length<=15):PE X (.Dict keys values pos) (bIi trs):=by
 intro pins s σ H Q I q;have hn:=I.hok.fresh (Nat.le_refl s.heap.objs.size);have I1:=I.laid (a:=s.heap.objs.size) (o:=.dK []) (h':=s.heap.push {cls:=.type "dict",data:=.dict #[]}) (t':=s.toks) (λ_ _ q=>Heap.get?_push_of_some _ q) (Nat.le_refl _) (aOd s.heap I.big)
 refine wpAny_Dict_walk (knd:=gB X.prog X.w) hall hl h0 h15 (thn (h pins _ σ _ _ I1 (q _ hn)) λws s2 ⟨ps,H2,I2,rel,e,kvs,ep,lk,q2⟩=>?_)
 subst ep;obtain⟨rs,c,rk⟩:=aIb (P:=X.prog) (w:=X.w) rel;obtain⟨z,hd,vs0,r0,dd⟩:=aSq I2.hok e;cases r0;refine⟨rs,c,dd,λh' dd' hs=>⟨.ref s.heap.objs.size,_,?_,rfl,q2⟩⟩
 have hz:(aFs [] kvs).length<=sizeLine:=by
  have h1:=aCm kvs [];rw[List.length_nil]at h1;rw[sizeLine_eq];omega
 have he:∃q,h'.get? s.heap.objs.size=some q:=let ⟨q,_,_,hq,_⟩:=dd';⟨q,hq⟩;exact aMi I2 (by rw[e];exact True.intro) hs he (aXi hz hd (rk.merge .nil) dd')
structure M1(X:Cx)(o:Expr)(m:Str)(apos:Pos)(e:Expr)(cpos:Pos):Prop where
 base:attributeBase o m X.env (eval o X.env)=eval o X.env
 few:((backTo cpos (starEach [e] X.env)).all (λx=>!x.1)&&(backToKw cpos (keywordEach [] X.env)).all (λx=>x.1.isSome)
  && decide (([e]:List Expr).length+([]:List Keyword).length+(if ([]:List Keyword).isEmpty then 0 else 1)<30))=true
 line:(apos.endLine==cpos.line)=true
 trees:backTo cpos (starEach [e] X.env)=[(false,eval e X.env)]
def IsD(H:Hp)(a:Addr):Prop:=(∃kvs,Rd H a (.dK kvs))\/∃kvs,Rd H a (.dT kvs)
theorem bFk{X:Cx}{pins:List (Addr×Obj)}{σ:St}{H:Hp}{s:Shared}{a:Addr}(I:Inv X pins σ H s)(d:IsD H a) :
  s.TypeIs (.ref a) "dict"/\(∀b,Value.ref a=.ref b->∃ob,s.heap.get? b=some ob/\ob.dict=none)/\(a==sysModules)=false:=by
 rcases d with ⟨kvs,e⟩|⟨kvs,e⟩
 .obtain⟨_,hd,vs,_,dd⟩:=aGo I.hok e;refine⟨dd.typeIs,λb q=>?_,hd⟩
  cases q;obtain⟨ob,_,_,h1,h2,_⟩:=dd;exact⟨ob,h1,h2.2.1⟩
 .obtain⟨_,hd,xs,_,dd⟩:=aIa I.hok e;refine⟨dd.typeIs,λb q=>?_,hd⟩
  cases q;obtain⟨ob,_,_,h1,h2,_⟩:=dd;exact⟨ob,h1,h2.2.1⟩
section
variable{X:Cx}{pins:List (Addr×Obj)}{σ:St}{H:Hp}{s:Shared}{a:Addr}{y d:V}{u r:Value}{o:Option V}{A:Around}{E:Value->Shared->Prop}
theorem bFl{Q:Value->Shared->Prop}(hu:A.units+1<cLine)(I:Inv X pins σ H s)(g:aCj H a y o)(ry:RelV y u)(h:∀w' s',Inv X pins σ H s'->RelV (o.getD .non) w'->Q w' s') :
  wpAny (model X.prog X.w) A (call (.builtin "dict.get") [.ref a,u]) Q E s:=by
 rcases g with ⟨kvs,k,e,ey,l⟩|⟨kvs,k,b,e,ey,eb,l⟩
 .subst ey;obtain⟨z,hd,vs,rel,dd⟩:=aGo I.hok e;refine call_meetsIn PySem.F.slot_dict_get dd.typeIs PySem.F.entry_dict_get (PySem.F.args_dict_get_2 _ _) (meets_dict_get (gB X.prog X.w) a (aI9 ry) hd) ⟨_,dd.mapOf,h _ _ (I.tok _) ?_⟩;rw[l];exact(rel.val k).getD rfl
 .subst ey;cases (show u=Value.ref b from ry)
  obtain⟨z,hd,xs,rel,dd⟩:=aIa I.hok e;refine call_meetsIn PySem.F.slot_dict_get dd.typeIs PySem.F.entry_dict_get (PySem.F.args_dict_get_2 _ _) (meetsH_dict_get (tupleKind (gB X.prog X.w)) a b hd) ⟨tupleKind_room_in1 hu,k,xs,aFr I.hok eb,dd,h _ _ (I.tok _) ?_⟩;rw[l];exact(rel.val k).getD rfl
end
def bFm(td ty:TE):TE:=λσ H Q=>td σ H λx H1=>∃a,x=.ref a/\IsD H1 a/\ty σ H1 λy H2=>∃o,aCj H2 a y o/\Q (o.getD .non) H2
section
variable{X:Cx}{o e f:Expr}{apos cpos:Pos}{td ty tx:TE}
theorem aXl(hu:X.A.units+1<cLine)(ho:PE X o td)(he:PE X e ty)(m:M1 X o "get" apos e cpos):PE X (.Call (.Attribute o "get" apos) [e] [] cpos) (bFm td ty):=by
 intro pins s σ H Q I h;refine wpAny_Call_method m.base m.few m.line PySem.F.plainAttrs_dict PySem.F.slot_dict_get PySem.F.type_dict_get (thn (ho pins s σ H _ I h) λu s1 ⟨x,H1,I1,rx,a,ex,d,q1⟩=>?_)
 subst ex;obtain rfl:u=Value.ref a:=rx;obtain⟨t1,t2,_⟩:=bFk I1 d;refine⟨t1,t2,?_⟩;rw[m.trees];refine Calls.callWith_builtin rfl (Calls.evalArgs_plain (Calls.spliced_cons (thn (he pins s1 σ H1 _ I1 q1) λiv s2 ⟨y,H2,I2,ry,ov,g,q2⟩=>Calls.spliced_nil ?_)))
 exact bFl hu I2 g ry λw' s3 I3 rw'=>⟨_,H2,I3,rw',q2⟩
end
end L2
set_option maxHeartbeats 1000000
open PySem.W (Frag findIn mroIn nsIn notCls keepIn kia_one fnOf codeIn mg_of isFn makesIn emptyDict instObj Looks OpenLaw mg_none_of WalkO InK)
open List (foldl_cons mem_cons_self mem_cons_of_mem map_cons getD_eq_getElem?_getD length_cons length_append length_singleton cons_append length_map filter_cons_of_pos filter_cons_of_neg length_range getElem?_cons_succ append_nil zip_cons_cons nil_append length_filter_le mem_cons length_nil exists_mem_of_ne_nil not_mem_nil nodup_nil filter_nil all_cons any_cons length_set drop_zero forIn_nil forIn_cons lookup_cons)
open Nat (zero_le testBit_or zero_testBit eq_of_testBit_eq testBit_and mod_lt le_succ not_lt_zero)
open Array (ext' getElem?_toList getD_eq_getD_getElem? toList_push)
open Int (toNat_natCast)
open Option (getD_some map_some)
open Bool (or_eq_true and_eq_true not_eq_true')
variable{α:Type}{c n np i m q L j ch G x1 t' ep:Nat}{b:Bool}{l rk u ks Gs z:List Nat}{a C fa I A_Again A_EarlyNo A_EarlyYes A_Lasting A_Settled A_Machine:PySem.Addr}{tg o e elt:PySem.Expr}{x qual name:PySem.Str}{E Q Qf:PySem.Value->PySem.Shared->Prop}{S:List (List Nat)}{s:PySem.Shared}{al al':Nat->Bool}{acc:List (Nat×List Nat)}{B A fp:List PySem.Addr}{w:PySem.World}{ns:List Int}{Y X:L2.Cx}{H H' H1:L2.Hp}{v:L2.V}{vs dvs:List L2.V}{es elts:List PySem.Expr}{pos p0 pos' p2 p1 apos cpos px:PySem.Pos}{op:PySem.CmpOp}{gv:Int->Int->L2.V}{fd:PySem.FuncData}{ps N loose:List PySem.Str}{sm:PySem.Stmt}{h h' base:PySem.Heap}{items:Array PySem.Value}{M:PySem.Model}{env:PySem.Env}{body:List PySem.Stmt}{P prog:PySem.Program}{mg:PySem.Str->Option PySem.Value}{scope:PySem.Scope}{pins:List (PySem.Addr×PySem.Obj)}{te:L2.TE}{tt:L2.TT}{dV oc:PySem.Value}{osl:Array (Option PySem.Value)}{newId:String}{t_LETTERS t_MOST_ROOMS t_MOST_LETTERS:PySem.Tok}{XP:(PySem.Str->Option PySem.Value)->PySem.Heap->Prop}
namespace Pu
inductive D where
 |non|bl (b:Bool)|int (i:Int)|str (s:List Nat)|tup (xs:List D)|lst (xs:List D)
 |dct (t:Bool) (ks vs:List D)
 |ins (c:String) (ns:List String) (xs:List D)
 |exn (c:String) (ns:List String) (xs:List D)
 |fn (f:String)
inductive R (α:Type) where
 |ok (a:α)|exc (x:D)|bad
@[inline] def R.bind{α β:Type}(r:R α)(f:α->R β):R β:=match r with
 |.ok a=>f a
 |.exc x=>.exc x
 |.bad=>.bad
theorem R.ok_of{β:Type}{r:R α}{f:α->R β}{b:β}(h:r.bind f=.ok b):∃a,r=.ok a/\f a=.ok b:=by
 cases r with
 |ok a=>exact⟨a,rfl,h⟩
 |exc x=>exact nomatch h
 |bad=>exact nomatch h
noncomputable section
open Classical in
def aY{α:Type}(c:Prop)(r:R α):R α:=if c then r else .bad
theorem aF{c:Prop}{r:R α}(h:c):aY c r=r:=if_pos h
theorem aW{c:Prop}{r:R α}{a:α}(h:aY c r=.ok a):c/\r=.ok a:=by
 unfold aY at h;split at h
 .exact⟨by assumption,h⟩
 .exact nomatch h
inductive OK where
 |l|d (t:Bool) (ks:List D)|i (n:Nat) (c:String) (ns:List String)
def ofK:OK->List D->D
 |.l,xs=>.lst xs
 |.d t ks,xs=>.dct t ks xs
 |.i _ c ns,xs=>.ins c ns xs
inductive Sl where
 |v (d:D)|o (k:OK) (xs:List D)
abbrev PSt:=List (Option Sl)
abbrev Ex:=PSt->R D
inductive Fl where
 |nx (st:PSt)|rt (d:D)|bk (st:PSt)|ct (st:PSt)
abbrev Bd:=PSt->R Fl
@[irreducible] def big:Nat:=10000000
theorem rR:big=10000000:=by unfold big;rfl
theorem eN(h:n<=10000000):n<=big:=by rw[rR];exact h
theorem aMj(h:n<10000000):n<big:=by rw[rR];exact h
theorem xU{n:Int}(h:n<=10000000):n<=(big:Int):=by rw[rR];exact h
theorem aE0{n:Int}(h : -10000000<=n) : -(big:Int)<=n:=by rw[rR];exact h
def sIx(n d:Nat):Option Int->Nat
 |none=>d
 |some v=>if v<0 then (v+(n:Int)).toNat else min v.toNat n
def ixN(n:Nat)(i:Int):Option Nat:=if 0<=i then (if i<n then some i.toNat else none) else if -(n:Int)<=i then some (i+n).toNat else none
def atI{α:Type}(xs:List α)(i:Int):Option α:=(ixN xs.length i).bind λj=>xs[j]?
def cut{α:Type}(xs:List α)(lo hi:Option Int):List α:=(xs.drop (sIx xs.length 0 lo)).take (sIx xs.length xs.length hi-sIx xs.length 0 lo)
def rep{α:Type}(n:Nat)(xs:List α):List α:=(List.replicate n xs).flatten
def ofO{α:Type}:Option α->R α
 |some a=>.ok a
 |none=>.bad
abbrev Op2:=D->D->R D
def oG:Op2
 |.int i,.int j=>.ok (.int (i+j))
 |.str x,.str y=>aY (x.length+y.length<=big) (.ok (.str (x++y)))
 |.lst x,.lst y=>aY (x.length+y.length<=big) (.ok (.lst (x++y)))
 |_,_=>.bad
def bBe:Op2
 |.int i,.int j=>.ok (.int (i-j))
 |_,_=>.bad
def aAe:Op2
 |.int i,.int j=>aY (0<j/\j<1073741824) (.ok (.int (i/j)))
 |_,_=>.bad
def pO:Op2
 |.int i,.int j=>aY (0<j) (.ok (.int (i%j)))
 |_,_=>.bad
def aVh:Op2
 |.int i,.int j=>aY (0<=j/\j<=1000000/\i.natAbs<18446744073709551616) (.ok (.int (i^j.toNat)))
 |_,_=>.bad
def aOe:D->R D
 |.int i=>.ok (.int (-i))
 |_=>.bad
def aXm:D->Bool
 |.int _=>true
 |.str _=>true
 |_=>false
def keyOk(t:Bool)(d:D):Bool:=match d with
 |.int _=>!t
 |.str _=>!t
 |.tup xs=>t&&xs.all aXm
 |_=>false
mutual
def eqK:D->D->Bool
 |.int i,.int j=>i==j
 |.str x,.str y=>x==y
 |.tup x,.tup y=>aR4 x y
 |_,_=>false
def aR4:List D->List D->Bool
 |[],[]=>true
 |a::x,b::y=>eqK a b&&aR4 x y
 |_,_=>false
end
def aAf(ks vs:List D)(k:D):Option D:=((ks.zip vs).find? λp=>eqK p.1 k).map (·.2)
def xV(ks:List D)(k:D):Bool:=ks.any λx=>eqK x k
def zK(ks:List D)(k:D):List D:=if xV ks k=true then ks else ks++[k]
def aCn(ks vs:List D)(k v:D):List D:=if xV ks k=true then (ks.zip vs).map (λp=>if eqK p.1 k=true then v else p.2) else vs++[v]
def dIx:Op2
 |.dct t ks vs,k=>aY (keyOk t k=true) (ofO (aAf ks vs k))
 |.lst x,.int i=>ofO (atI x i)
 |.tup x,.int i=>ofO (atI x i)
 |.str x,.int i=>aY (x.length<=big) (ofO ((atI x i).map λc=>.str [c]))
 |_,_=>.bad
mutual
def eqD:D->D->Bool
 |.non,.non=>true
 |.bl a,.bl b=>a==b
 |.bl a,.int j=>(if a then (1:Int) else 0)==j
 |.int i,.bl b=>i==(if b then (1:Int) else 0)
 |.int i,.int j=>i==j
 |.str x,.str y=>x==y
 |.tup x,.tup y=>jP x y
 |.lst x,.lst y=>jP x y
 |_,_=>false
def jP:List D->List D->Bool
 |[],[]=>true
 |a::x,b::y=>eqD a b&&jP x y
 |_,_=>false
end
mutual
def dep:D->Nat
 |.tup x=>mQ x+1
 |.lst x=>mQ x+1
 |.non=>0
 |.bl _=>0
 |.int _=>0
 |.str _=>0
 |.dct _ _ _=>0
 |.ins _ _ _=>0
 |.exn _ _ _=>0
 |.fn _=>0
def mQ:List D->Nat
 |[]=>0
 |a::x=>max (dep a) (mQ x)
end
mutual
def plain:D->Bool
 |.tup x=>fW x
 |.lst x=>fW x
 |.non=>true
 |.bl _=>true
 |.int _=>true
 |.str _=>true
 |.dct _ _ _=>false
 |.ins _ _ _=>false
 |.exn _ _ _=>false
 |.fn _=>false
def fW:List D->Bool
 |[]=>true
 |a::x=>plain a&&fW x
end
def dEq:Op2:=λa b=>aY (dep a<=64/\plain a=true/\plain b=true) (.ok (.bl (eqD a b)))
def dNe:Op2:=λa b=>aY (dep a<=64/\plain a=true/\plain b=true) (.ok (.bl (!eqD a b)))
def dLe:Op2
 |.int i,.int j=>.ok (.bl (decide (i<=j)))
 |_,_=>.bad
def dGt:Op2
 |.int i,.int j=>.ok (.bl (decide (j<i)))
 |_,_=>.bad
def dGe:Op2
 |.int i,.int j=>.ok (.bl (decide (j<=i)))
 |_,_=>.bad
def lU:D->R D
 |.dct false ks _=>.ok (.int ks.length)
 |.lst x=>.ok (.int x.length)
 |.tup x=>.ok (.int x.length)
 |.str x=>aY (x.length<=big) (.ok (.int x.length))
 |_=>.bad
def aMk:D->Bool
 |.ins _ _ _=>false
 |.exn _ _ _=>false
 |.fn _=>false
 |_=>true
def isN:D->Bool
 |.non=>true
 |_=>false
def aXn:D->Bool
 |.str _=>true
 |_=>false
def bFn:D->Bool
 |.bl _=>true
 |_=>false
def isIn:D->Bool
 |.bl _=>true
 |.int _=>true
 |_=>false
def bIj:D->Bool
 |.tup _=>true
 |_=>false
def bIk:D->Bool
 |.dct _ _ _=>true
 |_=>false
def aVi:D->Bool
 |.lst _=>true
 |_=>false
def kY(x y:List Nat)(lo:Nat):Option Nat:=(List.range' lo (x.length+1-lo)).find? λi=>decide (i+y.length<=x.length)&&((x.drop i).take y.length==y)
def aAg:Option Nat->Int
 |some i=>i
 |none=>-1
def vU(x y:List Nat):List Nat:=(((x.dropWhile λc=>y.contains c).reverse).dropWhile λc=>y.contains c).reverse
abbrev Mop:=D->List D->R D
def aOf:Mop
 |.str x,[.str y]=>.ok (.int (aAg (kY x y 0)))
 |.str x,[.str y,.int i]=>aY (0<=i) (.ok (.int (aAg (kY x y i.toNat))))
 |_,_=>.bad
def aIc:Mop
 |.str x,[.str y]=>(ofO (kY x y 0)).bind λi=>.ok (.int i)
 |_,_=>.bad
def aIe:Mop
 |.str x,[.str y]=>aY (x.length<=big) (.ok (.str (vU x y)))
 |_,_=>.bad
def aSr:D->D->R D
 |.int i,.int j=>.ok (.int (if j>i then j else i))
 |_,_=>.bad
def aXo:D->D->R D
 |.int i,.int j=>.ok (.int (if j<i then j else i))
 |_,_=>.bad
def inD(x:D)(ys:List D):Bool:=ys.any λy=>eqD y x
def dIn:D->D->R D
 |k,.dct t ks _=>aY (keyOk t k=true) (.ok (.bl (xV ks k)))
 |x,.lst ys=>aY (mQ ys<=60/\plain x=true/\fW ys=true) (.ok (.bl (inD x ys)))
 |x,.tup ys=>aY (mQ ys<=60/\plain x=true/\fW ys=true) (.ok (.bl (inD x ys)))
 |.str x,.str y=>.ok (.bl (kY y x 0).isSome)
 |_,_=>.bad
def aAh:D->D->R D
 |k,.dct t ks _=>aY (keyOk t k=true) (.ok (.bl (!xV ks k)))
 |x,.lst ys=>aY (mQ ys<=60/\plain x=true/\fW ys=true) (.ok (.bl (!inD x ys)))
 |x,.tup ys=>aY (mQ ys<=60/\plain x=true/\fW ys=true) (.ok (.bl (!inD x ys)))
 |.str x,.str y=>.ok (.bl (!(kY y x 0).isSome))
 |_,_=>.bad
def aAi:D->D->R D
 |x,.non=>.ok (.bl (!isN x))
 |.bl a,.bl b=>.ok (.bl (!(a==b)))
 |_,_=>.bad
def aB(i:Nat):Ex:=λst=>match st[i]? with
 |some (some (.v d))=>.ok d
 |_=>.bad
def kZ(i:Nat):Ex:=λst=>match st[i]? with
 |some (some (.v d))=>.ok d
 |some (some (.o k xs))=>.ok (ofK k xs)
 |_=>.bad
def eC(d:D):Ex:=λ_=>.ok d
def e2(op:Op2)(f g:Ex):Ex:=λst=>(f st).bind λx=>(g st).bind λy=>op x y
def e1(op:D->R D)(f:Ex):Ex:=λst=>(f st).bind op
def eB(p:D->Bool)(f:Ex):Ex:=λst=>(f st).bind λx=>aY (aMk x=true) (.ok (.bl (p x)))
def onB{α:Type}(d:D)(f:Bool->R α):R α:=match d with
 |.bl b=>f b
 |_=>.bad
theorem vV{d:D}{f:Bool->R α}{a:α}(h:onB d f=.ok a):∃b,d=.bl b/\f b=.ok a:=by
 cases d<;>first|exact⟨_,rfl,h⟩|exact nomatch h
def oH(f g:Ex):Ex:=λst=>(f st).bind λx=>onB x λb=>if b=true then g st else .ok (.bl false)
def eOr(f g:Ex):Ex:=λst=>(f st).bind λx=>onB x λb=>if b=true then .ok (.bl true) else g st
def mR(f:Ex):Ex:=λst=>(f st).bind λx=>onB x λb=>.ok (.bl (!b))
def eIf(c f g:Ex):Ex:=λst=>(c st).bind λx=>onB x λb=>if b=true then f st else g st
abbrev Exs:=PSt->R (List D)
def aU:Exs:=λ_=>.ok []
def aD(f:Ex)(r:Exs):Exs:=λst=>(f st).bind λx=>(r st).bind λxs=>.ok (x::xs)
def aVj(r:Exs):Ex:=λst=>(r st).bind λxs=>aY (xs.length<=big) (.ok (.tup xs))
def jX(r:Exs):Ex:=λst=>(r st).bind λxs=>aY (xs.length<=big) (.ok (.lst xs))
def aV(p:List D->R D)(r:Exs):Ex:=λst=>(r st).bind p
def eMt(m:Mop)(f:Ex)(r:Exs):Ex:=λst=>(f st).bind λx=>(r st).bind λxs=>m x xs
def inI(d:D){α:Type}(f:Int->R α):R α:=match d with
 |.int i=>f i
 |_=>.bad
theorem aFt{d:D}{f:Int->R α}{a:α}(h:inI d f=.ok a):∃i,d=.int i/\f i=.ok a:=by
 cases d<;>first|exact⟨_,rfl,h⟩|exact nomatch h
abbrev ExO:=PSt->R (Option Int)
def aL1:ExO:=λ_=>.ok none
def aL2(f:Ex):ExO:=λst=>(f st).bind λx=>inI x λi=>.ok (some i)
def dSl(x:D)(lo hi:Option Int):R D:=match x with
 |.lst xs=>.ok (.lst (cut xs lo hi))
 |.str xs=>aY (xs.length<=big) (.ok (.str (cut xs lo hi)))
 |_=>.bad
def eSl(f:Ex)(lo hi:ExO):Ex:=λst=>(f st).bind λx=>(lo st).bind λl=>(hi st).bind λh=>dSl x l h
abbrev ItE:=PSt->R (List D)
def itE(f:Ex):ItE:=λst=>(f st).bind λx=>match x with
 |.lst xs=>.ok xs
 |.tup xs=>.ok xs
 |.str xs=>aY (xs.length<=big) (.ok (xs.map λc=>.str [c]))
 |_=>.bad
def kJ(lo:Int)(n:Nat):List D:=(List.range n).map λ(k:Nat)=>.int (lo+(k:Int))
def xW(f:Ex):ItE:=λst=>(f st).bind λx=>inI x λj=>aY (-(big:Int)<=j/\j<=(big:Int)) (.ok (kJ 0 j.toNat))
def bFo(f g:Ex):ItE:=λst=>(f st).bind λx=>(g st).bind λy=>inI x λi=>inI y λj=>aY (-(big:Int)<=i/\i<=(big:Int)/\-(big:Int)<=j/\j<=(big:Int)) (.ok (kJ i (j-i).toNat))
abbrev Tg:=D->PSt->R PSt
def tgN(i:Nat):Tg:=λd st=>.ok (st.set i (some (.v d)))
def aIf:List Nat->List D->PSt->R PSt
 |[],[],st=>.ok st
 |i::is,d::ds,st=>aIf is ds (st.set i (some (.v d)))
 |_,_,_=>.bad
def tgT(is:List Nat):Tg:=λd st=>match d with
 |.tup xs=>aIf is xs st
 |.lst xs=>aIf is xs st
 |_=>.bad
def gU(tg:Tg)(c f:Ex)(st:PSt):List D->R (List D)
 |[]=>.ok []
 |d::ds=>(tg d st).bind λs1=>(c s1).bind λx=>onB x λb=>if b=true then (f s1).bind λy=>(gU tg c f st ds).bind λys=>.ok (y::ys) else gU tg c f st ds
def clr(is:List Nat)(st:PSt):PSt:=is.foldl (λs i=>s.set i none) st
def cY(is:List Nat)(tg:Tg)(it:ItE)(c f:Ex):Ex:=λst=>(it st).bind λxs=>aY (xs.length<=big) ((gU tg c f (clr is st) xs).bind λys=>.ok (.lst ys))
def dD:Ex:=λ_=>.ok (.bl true)
def aKi(r:R Fl)(f:PSt->R Fl):R Fl:=r.bind λx=>match x with
 |.nx st=>f st
 |.rt d=>.ok (.rt d)
 |.bk st=>.ok (.bk st)
 |.ct st=>.ok (.ct st)
def cP:Bd:=λst=>.ok (.nx st)
def bB(a b:Bd):Bd:=λst=>aKi (a st) b
def cB(i:Nat)(f:Ex):Bd:=λst=>(f st).bind λd=>.ok (.nx (st.set i (some (.v d))))
def sJ(i:Nat)(f:Ex):Bd:=λst=>(f st).bind λd=>match d with
 |.lst xs=>.ok (.nx (st.set i (some (.o .l xs))))
 |_=>.bad
def bFp(tg:Tg)(f:Ex):Bd:=λst=>(f st).bind λd=>(tg d st).bind λs1=>.ok (.nx s1)
def aE1(i:Nat)(f:Ex):Bd:=λst=>(f st).bind λd=>match st[i]? with
 |some (some (.o .l xs))=>aY (xs.length<big) (.ok (.nx (st.set i (some (.o .l (xs++[d]))))))
 |_=>.bad
def aOg(i:Nat)(g f:Ex):Bd:=λst=>(f st).bind λd=>(g st).bind λx=>inI x λj=>match st[i]? with
 |some (some (.o .l xs))=>(ofO (ixN xs.length j)).bind λk=>.ok (.nx (st.set i (some (.o .l (xs.set k d)))))
 |_=>.bad
def bBf(i:Nat)(f:Ex):Bd:=λst=>(f st).bind λd=>match d with
 |.lst ys=>(match st[i]? with
  |some (some (.o .l xs))=>aY (xs.length+ys.length<=big) (.ok (.nx (st.set i (some (.o .l (xs++ys))))))
  |_=>.bad)
 |_=>.bad
def aXp(i:Nat)(t:Bool):Bd:=λst=>.ok (.nx (st.set i (some (.o (.d t []) []))))
def sDPut(i:Nat)(g f:Ex):Bd:=λst=>(f st).bind λd=>(g st).bind λk=>match st[i]? with
 |some (some (.o (.d t ks) vs))=>aY (keyOk t k=true/\vs.length<big) (.ok (.nx (st.set i (some (.o (.d t (zK ks k)) (aCn ks vs k d))))))
 |_=>.bad
def aL3(i:Nat)(c f:String)(e:Ex):Bd:=λst=>(e st).bind λd=>match st[i]? with
 |some (some (.o (.i n c' ns) xs))=>aY (c'=c/\f∉ns/\ns.length<900) (.ok (.nx (st.set i (some (.o (.i n c' (ns++[f])) (xs++[d]))))))
 |_=>.bad
def jJ(c f:String):D->R D
 |.ins c' ns xs=>aY (c'=c) (ofO ((ns.zip xs).lookup f))
 |_=>.bad
def dY(c m:String)(p:List D->R D)(dv:List D)(f:Ex)(r:Exs):Ex:=λst=>(f st).bind λx=>(r st).bind λxs=>match x with
 |.ins c' ns _=>aY (c'=c/\m∉ns) (p (x::(xs++dv)))
 |_=>.bad
def vW:Bd:=λ_=>.bad
def fz1(st:PSt)(i:Nat):PSt:=match st[i]? with
 |some (some (.o k xs))=>st.set i (some (.v (ofK k xs)))
 |_=>st
def sFz(is:List Nat)(b:Bd):Bd:=λst=>b (is.foldl fz1 st)
def cF(f:Ex):Bd:=λst=>(f st).bind λd=>.ok (.rt d)
def bFq(f:Ex):Bd:=λst=>(f st).bind λ_=>.ok (.nx st)
def sIf(c:Ex)(a b:Bd):Bd:=λst=>(c st).bind λx=>onB x λq=>if q=true then a st else b st
def forR(tg:Tg)(body:Bd):List D->PSt->R Fl
 |[],st=>.ok (.nx st)
 |d::ds,st=>(tg d st).bind λs1=>(body s1).bind λx=>match x with
  |.nx s2=>forR tg body ds s2
  |.ct s2=>forR tg body ds s2
  |.bk s2=>.ok (.nx s2)
  |.rt v=>.ok (.rt v)
def oN(tg:Tg)(it:ItE)(body:Bd):Bd:=λst=>(it st).bind λxs=>forR tg body xs st
def nJ(c:Ex)(body:Bd):Nat->PSt->R Fl
 |0,_=>.bad
 |n+1,st=>(c st).bind λx=>onB x λq=>if q=true then (body st).bind λx=>(match x with
  |.nx s2=>nJ c body n s2
  |.ct s2=>nJ c body n s2
  |.bk s2=>.ok (.nx s2)
  |.rt v=>.ok (.rt v)) else .ok (.nx st)
def aIg(n:Nat)(c:Ex)(body:Bd):Bd:=λst=>nJ c body n st
def cJ(np n:Nat)(b:Bd)(ds:List D):R D:=
 aY (ds.length=np) ((b (ds.map (λd=>some (.v d))++List.replicate (n-np) none)).bind λx=>match x with
  |.nx _=>.ok .non
  |.rt d=>.ok d
  |_=>.bad)
def aL4(c:String)(np n:Nat)(b:Bd)(x:Nat)(ds:List D):R D:=
 aY (ds.length=np) ((b (some (.o (.i x c []) [])::(ds.map (λd=>some (.v d))++List.replicate (n-np-1) none))).bind λ(fl:Fl)=>match fl with
  |.nx st=>(match (st[0]?:Option (Option Sl)) with
   |some (some (.o (.i y c' ns) xs))=>aY (y=x) (.ok (.ins c' ns xs))
   |_=>.bad)
  |_=>.bad)
open Classical in
def aMl(c:String)(np n:Nat)(b:Bd)(ds:List D):R D:=if h:∃d,∀x,aL4 c np n b x ds=.ok d then .ok (choose h) else .bad
theorem bBg{c:String} {b:Bd} {ds:List D} {d:D} (h:∀x,aL4 c np n b x ds=.ok d):aMl c np n b ds=.ok d:=by
 unfold aMl;rw[dif_pos ⟨d,h⟩];have:=Classical.choose_spec (p:=λd=>∀x,aL4 c np n b x ds=.ok d) ⟨d,h⟩ 0
 rw[h 0]at this;exact this.symm
theorem aSs{c:String} {b:Bd} {ds:List D} {d:D} (h:aMl c np n b ds=.ok d) (x:Nat):aL4 c np n b x ds=.ok d:=by
 unfold aMl at h;split at h
 .rename_i e;have:=Classical.choose_spec e x;rw[this];exact h
 .cases h
end
end Pu
variable{d y:Pu.D}{ds xs ys dv:List Pu.D}{f g:Pu.Ex}{st':Pu.PSt}{r:Pu.Exs}{p:List Pu.D->Pu.R Pu.D}{it:Pu.ItE}{x4:Option Pu.Sl}{bd bd':Pu.Bd}
namespace Pu
@[simp] theorem bg1:1<=big:=eN (by decide)
@[simp] theorem bg3:3<=big:=eN (by decide)
@[simp] theorem aO{β:Type}(a:α)(f:α->R β):(R.ok a).bind f=f a:=rfl
@[simp] theorem pP(b:Bool)(f:Bool->R α):onB (.bl b) f=f b:=rfl
@[simp] theorem bJo(i:Int)(f:Int->R α):inI (.int i) f=f i:=rfl
@[simp] theorem bJp(st:PSt)(f:PSt->R Fl):aKi (.ok (.nx st)) f=f st:=rfl
@[simp] theorem aSt(i:Nat)(st:PSt):aB i st=(match st[i]? with|some (some (.v d))=>R.ok d|_=>.bad):=rfl
@[simp] theorem aSu(d:D)(st:PSt):eC d st=.ok d:=rfl
@[simp] theorem aE2(op:Op2)(f g:Ex)(st:PSt):e2 op f g st=(f st).bind λx=>(g st).bind λy=>op x y:=rfl
@[simp] theorem aOh(op:D->R D)(f:Ex)(st:PSt):e1 op f st=(f st).bind op:=rfl
@[simp] theorem bKz(p:D->Bool)(f:Ex)(st:PSt):eB p f st=(f st).bind λx=>aY (aMk x=true) (.ok (.bl (p x))):=rfl
@[simp] theorem aSv(f g:Ex)(st:PSt):oH f g st=(f st).bind λx=>onB x λb=>if b=true then g st else .ok (.bl false):=rfl
@[simp] theorem bFr(f g:Ex)(st:PSt):eOr f g st=(f st).bind λx=>onB x λb=>if b=true then .ok (.bl true) else g st:=rfl
@[simp] theorem aSw(f:Ex)(st:PSt):mR f st=(f st).bind λx=>onB x λb=>.ok (.bl (!b)):=rfl
@[simp] theorem bJq(st:PSt):aU st=.ok []:=rfl
@[simp] theorem aXq(f:Ex)(r:Exs)(st:PSt):aD f r st=(f st).bind λx=>(r st).bind λxs=>.ok (x::xs):=rfl
@[simp] theorem bBh(r:Exs)(st:PSt):jX r st=(r st).bind λxs=>aY (xs.length<=big) (.ok (.lst xs)):=rfl
@[simp] theorem aXr(p:List D->R D)(r:Exs)(st:PSt):aV p r st=(r st).bind p:=rfl
@[simp] theorem bKp(m:Mop)(f:Ex)(r:Exs)(st:PSt):eMt m f r st=(f st).bind λx=>(r st).bind λxs=>m x xs:=rfl
@[simp] theorem aXs(st:PSt):aL1 st=.ok none:=rfl
@[simp] theorem aXt(f:Ex)(st:PSt):aL2 f st=(f st).bind λx=>inI x λi=>.ok (some i):=rfl
@[simp] theorem bFs(f:Ex)(lo hi:ExO)(st:PSt):eSl f lo hi st=(f st).bind λx=>(lo st).bind λl=>(hi st).bind λh=>dSl x l h:=rfl
@[simp] theorem bBi(f:Ex)(st:PSt):xW f st=(f st).bind λx=>inI x λj=>aY (-(big:Int)<=j/\j<=(big:Int)) (.ok (kJ 0 j.toNat)):=rfl
@[simp] theorem bBj(f g:Ex)(st:PSt):bFo f g st=(f st).bind λx=>(g st).bind λy=>inI x λi=>inI y λj=>aY (-(big:Int)<=i/\i<=(big:Int)/\-(big:Int)<=j/\j<=(big:Int)) (.ok (kJ i (j-i).toNat)):=rfl
@[simp] theorem bIl(tg:Tg)(b:Bd)(st:PSt):forR tg b [] st=.ok (.nx st):=rfl
theorem nZ(tg:Tg)(b:Bd)(d:D)(ds:List D)(st:PSt):forR tg b (d::ds) st=(tg d st).bind λs1=>(b s1).bind λx=>match x with
  |.nx s2=>forR tg b ds s2
  |.ct s2=>forR tg b ds s2
  |.bk s2=>.ok (.nx s2)
  |.rt v=>.ok (.rt v):=rfl
theorem aGp(c:Ex)(b:Bd)(n:Nat)(st:PSt):nJ c b (n+1) st=(c st).bind λx=>onB x λq=>if q=true then (b st).bind λx=>(match x with
  |.nx s2=>nJ c b n s2
  |.ct s2=>nJ c b n s2
  |.bk s2=>.ok (.nx s2)
  |.rt v=>.ok (.rt v)) else .ok (.nx st):=rfl
@[simp] theorem bFt(f:Ex)(st:PSt):itE f st=(f st).bind λx=>match x with|.lst xs=>.ok xs|.tup xs=>.ok xs|.str xs=>aY (xs.length<=big) (.ok (xs.map λc=>.str [c]))|_=>.bad:=rfl
@[simp] theorem aVk(n:Nat)(c:Ex)(b:Bd)(st:PSt):aIg n c b st=nJ c b n st:=rfl
@[simp] theorem bBk(i:Nat)(f:Ex)(st:PSt):aE1 i f st=(f st).bind λd=>match st[i]? with|some (some (.o .l xs))=>aY (xs.length<big) (.ok (.nx (st.set i (some (.o .l (xs++[d]))))))|_=>.bad:=rfl
@[simp] theorem aXu(i:Nat)(f:Ex)(st:PSt):sJ i f st=(f st).bind λd=>match d with|.lst xs=>.ok (.nx (st.set i (some (.o .l xs))))|_=>.bad:=rfl
@[simp] theorem bBl(i:Nat)(f:Ex)(st:PSt):bBf i f st=(f st).bind λd=>match d with|.lst ys=>(match st[i]? with|some (some (.o .l xs))=>aY (xs.length+ys.length<=big) (.ok (.nx (st.set i (some (.o .l (xs++ys))))))|_=>.bad)|_=>.bad:=rfl
@[simp] theorem aXv(i:Nat)(c f:String)(e:Ex)(st:PSt):aL3 i c f e st=(e st).bind λd=>match st[i]? with|some (some (.o (.i n c' ns) xs))=>aY (c'=c/\f∉ns/\ns.length<900) (.ok (.nx (st.set i (some (.o (.i n c' (ns++[f])) (xs++[d]))))))|_=>.bad:=rfl
@[simp] theorem aE3(c f c':String)(ns:List String)(xs:List D):jJ c f (.ins c' ns xs)=aY (c'=c) (ofO ((ns.zip xs).lookup f)):=rfl
@[simp] theorem aE4(c m:String)(p:List D->R D)(dv:List D)(f:Ex)(r:Exs)(st:PSt):dY c m p dv f r st=(f st).bind λx=>(r st).bind λxs=>match x with|.ins c' ns _=>aY (c'=c/\m∉ns) (p (x::(xs++dv)))|_=>.bad:=rfl
@[simp] theorem bKq(is:List Nat)(b:Bd)(st:PSt):sFz is b st=b (is.foldl fz1 st):=rfl
@[simp] theorem bKr(st:PSt)(i:Nat):fz1 st i=(match st[i]? with|some (some (.o k xs))=>st.set i (some (.v (ofK k xs)))|_=>st):=rfl
@[simp] theorem bJr(x y:List Nat):aOf (.str x) [.str y]=.ok (.int (aAg (kY x y 0))):=rfl
@[simp] theorem bIm(x y:List Nat):aIe (.str x) [.str y]=aY (x.length<=big) (.ok (.str (vU x y))):=rfl
@[simp] theorem bE0(i:Nat):aAg (some i)=i:=rfl
@[simp] theorem bJs(i j:Int):dGe (.int i) (.int j)=.ok (.bl (decide (j<=i))):=rfl
@[simp] theorem bIn(b:Int):aMk (.int b)=true:=rfl
@[simp] theorem bIo(b:List Nat):aMk (.str b)=true:=rfl
@[simp] theorem bIp(b:List D):aMk (.lst b)=true:=rfl
@[simp] theorem bKs(i:Nat)(d:D)(st:PSt):tgN i d st=.ok (st.set i (some (.v d))):=rfl
@[simp] theorem bJt(st:PSt):clr [] st=st:=rfl
@[simp] theorem bIq(i:Nat)(is:List Nat)(st:PSt):clr (i::is) st=clr is (st.set i none):=rfl
theorem nM(tg:Tg)(c f:Ex)(st:PSt)(d:D)(ds:List D):gU tg c f st (d::ds)=(tg d st).bind λs1=>(c s1).bind λx=>onB x λb=>if b=true then (f s1).bind λy=>(gU tg c f st ds).bind λys=>.ok (y::ys) else gU tg c f st ds:=rfl
@[simp] theorem aE5(is:List Nat)(tg:Tg)(it:ItE)(c f:Ex)(st:PSt):cY is tg it c f st=(it st).bind λxs=>aY (xs.length<=big) ((gU tg c f (clr is st) xs).bind λys=>.ok (.lst ys)):=rfl
@[simp] theorem bIr(st:PSt):cP st=.ok (.nx st):=rfl
@[simp] theorem aSx(a b:Bd)(st:PSt):bB a b st=aKi (a st) b:=rfl
@[simp] theorem aSy(i:Nat)(f:Ex)(st:PSt):cB i f st=(f st).bind λd=>.ok (.nx (st.set i (some (.v d)))):=rfl
@[simp] theorem uT(f:Ex)(st:PSt):cF f st=(f st).bind λd=>.ok (.rt d):=rfl
@[simp] theorem aR5(c:Ex)(a b:Bd)(st:PSt):sIf c a b st=(c st).bind λx=>onB x λq=>if q=true then a st else b st:=rfl
@[simp] theorem aSz(tg:Tg)(it:ItE)(body:Bd)(st:PSt):oN tg it body st=(it st).bind λxs=>forR tg body xs st:=rfl
@[simp] theorem bIs(i j:Int):pO (.int i) (.int j)=aY (0<j) (.ok (.int (i%j))):=rfl
@[simp] theorem bJu(i j:Int):dLe (.int i) (.int j)=.ok (.bl (decide (i<=j))):=rfl
@[simp] theorem aR6(x y:D):dEq x y=aY (dep x<=64/\plain x=true/\plain y=true) (.ok (.bl (eqD x y))):=rfl
@[simp] theorem aMm(x y:D):dNe x y=aY (dep x<=64/\plain x=true/\plain y=true) (.ok (.bl (!eqD x y))):=rfl
@[simp] theorem bJv(i:Int):dep (.int i)=0:=by unfold dep;rfl
@[simp] theorem bJw(s:List Nat):dep (.str s)=0:=by unfold dep;rfl
@[simp] theorem bJx(x:List D):dep (.lst x)=mQ x+1:=by conv=>lhs;unfold dep
@[simp] theorem bHf:plain .non=true:=by unfold plain;rfl
@[simp] theorem bIt(b:Bool):plain (.bl b)=true:=by unfold plain;rfl
@[simp] theorem bHg(i:Int):plain (.int i)=true:=by unfold plain;rfl
@[simp] theorem bHh(s:List Nat):plain (.str s)=true:=by unfold plain;rfl
@[simp] theorem bHi(x:List D):plain (.tup x)=fW x:=by conv=>lhs;unfold plain
@[simp] theorem bHj(x:List D):plain (.lst x)=fW x:=by conv=>lhs;unfold plain
@[simp] theorem bHk(t:Bool)(k v:List D):plain (.dct t k v)=false:=by unfold plain;rfl
@[simp] theorem bHl(c:String)(n:List String)(v:List D):plain (.ins c n v)=false:=by unfold plain;rfl
@[simp] theorem bHm(c:String)(n:List String)(v:List D):plain (.exn c n v)=false:=by unfold plain;rfl
@[simp] theorem bIu(f:String):plain (.fn f)=false:=by unfold plain;rfl
@[simp] theorem bFu:fW []=true:=by unfold fW;rfl
@[simp] theorem lA(a:D)(x:List D):fW (a::x)=(plain a&&fW x):=by conv=>lhs;unfold fW
@[simp] theorem bIv:mQ []=0:=by unfold mQ;rfl
@[simp] theorem aBy(a:D)(x:List D):mQ (a::x)=max (dep a) (mQ x):=by conv=>lhs;unfold mQ
@[simp] theorem bJy(i j:Int):eqD (.int i) (.int j)=(i==j):=by unfold eqD;rfl
@[simp] theorem bJz(i j:List Nat):eqD (.str i) (.str j)=(i==j):=by unfold eqD;rfl
@[simp] theorem bE1(x:List D)(y:List D):eqD (.lst x) (.lst y)=jP x y:=by conv=>lhs;unfold eqD
@[simp] theorem bBm:jP [] []=true:=by unfold jP;rfl
@[simp] theorem bAk(b:D)(y:List D):jP [] (b::y)=false:=by unfold jP;rfl
@[simp] theorem bAl(b:D)(y:List D):jP (b::y) []=false:=by unfold jP;rfl
@[simp] theorem bIw(x:List D):lU (.lst x)=.ok (.int x.length):=rfl
@[simp] theorem bK0(x:List D)(i:Int):dIx (.lst x) (.int i)=ofO (atI x i):=rfl
@[simp] theorem bK1(x:List Nat)(l h:Option Int):dSl (.str x) l h=aY (x.length<=big) (.ok (.str (cut x l h))):=rfl
@[simp] theorem bIx(a:α):ofO (some a)=.ok a:=rfl
@[simp] theorem gR{c:Prop}{r:R α}(h:c):aY c r=r:=aF h
@[simp] theorem aT0{b:Bd} (h:ds.length=np):cJ np n b ds=(b (ds.map (λd=>some (.v d))++List.replicate (n-np) none)).bind λx=>match x with
  |.nx _=>.ok .non
  |.rt d=>.ok d
  |_=>.bad:=aF h
theorem bFv{xs:List α}{i:Int}(h0:0<=i)(h:i<xs.length):atI xs i=some (xs[i.toNat]'(by omega)):=by
 unfold atI ixN;rw[if_pos h0,if_pos h];exact List.getElem?_eq_getElem (by omega)
theorem atI_nat{xs:List α}{i:Nat}(h:i<xs.length):atI xs (i:Int)=some xs[i]:=by
 rw[bFv (by omega) (by omega)]
 simp
def aGq:D->R D
 |.lst x=>.ok (.lst x)
 |.tup x=>.ok (.lst x)
 |_=>.bad
def bls:List D->R (List Bool)
 |[]=>.ok []
 |.bl b::r=>(bls r).bind λx=>.ok (b::x)
 |_::_=>.bad
def aAj:List D->R (List Int)
 |[]=>.ok []
 |.int i::r=>(aAj r).bind λx=>.ok (i::x)
 |_::_=>.bad
def aHg:D->R D
 |.lst x=>(bls x).bind λl=>.ok (.bl (l.all id))
 |_=>.bad
def aMn:List Int->Int
 |[]=>0
 |i::r=>r.foldl (λa b=>if b>a then b else a) i
noncomputable def aOi:D->R D
 |.lst x=>(aAj x).bind λl=>aY (0<l.length) (.ok (.int (aMn l)))
 |_=>.bad
theorem aXw:∀{x:List D}{l:List Bool},bls x=.ok l->x=l.map D.bl
 |[],l,h=>by cases h;rfl
 |d::x,l,h=>by
  cases d<;>first|(cases h;done)|skip
  obtain⟨l',h1,h2⟩:=R.ok_of h;cases h2;rw[aXw h1];rfl
theorem aE6:∀{x:List D}{l:List Int},aAj x=.ok l->x=l.map D.int
 |[],l,h=>by cases h;rfl
 |d::x,l,h=>by
  cases d<;>first|(cases h;done)|skip
  obtain⟨l',h1,h2⟩:=R.ok_of h;cases h2;rw[aE6 h1];rfl
theorem aT1:∀(l:List Bool),bls (l.map D.bl)=.ok l
 |[]=>rfl
 |b::l=>by show (bls (l.map D.bl)).bind _=_;rw[aT1 l];rfl
theorem wO:∀(l:List Int),aAj (l.map D.int)=.ok l
 |[]=>rfl
 |b::l=>by show (aAj (l.map D.int)).bind _=_;rw[wO l];rfl
theorem aFu:∀(r:List Int)(a:Int),a<=r.foldl (λa b=>if b>a then b else a) a/\(∀x∈r,x<=r.foldl (λa b=>if b>a then b else a) a)/\(r.foldl (λa b=>if b>a then b else a) a=a\/r.foldl (λa b=>if b>a then b else a) a∈r)
 |[],a=>⟨Int.le_refl _,λ_ h=>(by cases h),.inl rfl⟩
 |b::r,a=>by
  obtain⟨h1,h2,h3⟩:=aFu r (if b>a then b else a)
  rw[foldl_cons];have ha:a<=(if b>a then b else a):=by split<;>omega
  have hb:b<=(if b>a then b else a):=by split<;>omega
  refine⟨Int.le_trans ha h1,λx hx=>?_,?_⟩
  .rcases List.mem_cons.mp hx with rfl|hx
   .exact Int.le_trans hb h1
   .exact h2 x hx
  .rcases h3 with h3|h3
   .rw[h3];split
    .exact .inr mem_cons_self
    .exact .inl rfl
   .exact .inr (mem_cons_of_mem _ h3)
theorem aT2{l:List Int}{m:Int}(hm:m∈l)(hx:∀x∈l,x<=m):aMn l=m:=by
 cases l with
 |nil=>cases hm
 |cons i r=>
  obtain⟨h1,h2,h3⟩:=aFu r i;have ha:aMn (i::r)<=m:=by
   rcases h3 with h3|h3
   .exact hx _ (by show r.foldl _ i∈_;rw[h3];exact mem_cons_self)
   .exact hx _ (mem_cons_of_mem _ h3)
  have hb:m<=aMn (i::r):=by
   rcases List.mem_cons.mp hm with e|e
   .rw[e];exact h1
   .exact h2 _ e
  omega
inductive NFl where
 |nx (xss:List (List D)) (st:PSt)|rt (d:D)
abbrev NB:=List (List D)->PSt->R NFl
def aXx(i:Nat):Bd:=λst=>match st[i]? with
 |some (some (.o .l xs))=>.ok (.rt (.lst xs))
 |_=>.bad
def aE7(bd:Bd)(i:Nat):Bd:=λst=>match bd st with
 |.ok (.nx s)=>aXx i s
 |_=>.bad
def aAk(l:List Int):List Int:=l.foldl (λacc x=>if acc.any (· == x) then acc else acc++[x]) []
def atom:D->Bool
 |.non=>true
 |.bl _=>true
 |.int _=>true
 |.str _=>true
 |_=>false
def bIy:D->Bool
 |.lst xs=>xs.all atom
 |_=>false
noncomputable section
def bFw:D->R D
 |.lst xs=>aY (xs.length<=big/\xs.all bIy=true) (.ok (.lst xs))
 |_=>.bad
def unL:D->List D
 |.lst xs=>xs
 |_=>[]
open Classical in
def bL0(c:String)(np n:Nat)(b:Bd)(ds:List D):R D:=if h:∃r,∀x,aL4 c np n b x ds=r then choose h else .bad
end
def aE8:List Nat->List D->List D
 |c::z,d::ds=>.tup [.str [c],d] :: aE8 z ds
 |_,_=>[]
def bE2(f g:Ex):ItE:=λst=>(f st).bind λx=>(g st).bind λy=>match x,y with
 |.str z,.lst ds=>.ok (aE8 z ds)
 |_,_=>.bad
noncomputable section
def aE9:D->R D
 |.int n=>aY (-(big:Int)<=n/\n<=(big:Int)) (.ok (.lst (kJ 0 n.toNat)))
 |_=>.bad
def aR7(i:Nat)(g f:Ex):Bd:=λst=>(g st).bind λk=>(f st).bind λd=>aY (aXm k=true/\atom d=true) (.ok (.nx (st.set i (some (.o (.d false [k]) [d])))))
end
noncomputable section
def aKj:Op2
 |.int i,.int j=>aY (0<=j/\j<=1000000/\i.natAbs<18446744073709551616) (.ok (.int (i*2^j.toNat)))
 |_,_=>.bad
def aFv:Op2
 |.int i,.int j=>aY (0<=j) (.ok (.int (i/2^j.toNat)))
 |_,_=>.bad
def uA:Op2
 |.int i,.int j=>aY (0<=i/\0<=j) (.ok (.int ((i.toNat&&&j.toNat:Nat):Int)))
 |_,_=>.bad
def dOr:Op2
 |.int i,.int j=>aY (0<=i/\0<=j) (.ok (.int ((i.toNat|||j.toNat:Nat):Int)))
 |_,_=>.bad
def aT3:Mop
 |.lst xs,[.int k]=>(aAj xs).bind λl=>(ofO (l.findIdx? λi=>i==k)).bind λn=>aY (xs.length<=big) (.ok (.int (n:Int)))
 |_,_=>.bad
end
def sO(i:Int):Nat:=if i=0 then 0 else i.natAbs.log2+1
def aHq:D->R D
 |.int i=>.ok (.int (sO i:Nat))
 |_=>.bad
noncomputable def aIh:D->R D
 |.dct false ks ds=>aY (ks.length<=big) (.ok (.lst (List.zipWith (λk d=>.tup [k,d]) ks ds)))
 |_=>.bad
def uU(bd:Bd)(f:Ex):Bd:=λst=>match bd st with
 |.ok (.nx s)=>(f s).bind λd=>match d with
  |.lst xs=>.ok (.rt (.lst xs))
  |_=>.bad
 |_=>.bad
def aMo:Op2
 |.int i,.int j=>.ok (.bl (decide (i<j)))
 |_,_=>.bad
noncomputable def uV:Op2
 |.int i,.int j=>aY ((-18446744073709551616<i/\i<18446744073709551616)\/(-18446744073709551616<j/\j<18446744073709551616)) (.ok (.int (i*j)))
 |_,_=>.bad
@[simp] theorem bIz(i j:Int):aMo (.int i) (.int j)=.ok (.bl (decide (i<j))):=rfl
end Pu
variable{nb:Pu.NB}
namespace Pu
noncomputable section
def aHh(l:List Int):List Int:=l.mergeSort λa b=>decide (a<=b)
theorem aAl(l:List Int):(aHh l).Perm l:=List.mergeSort_perm _ _
theorem aXy(l:List Int):(aHh l).Pairwise (· <= ·):=by
 have h:=List.pairwise_mergeSort (le:=λa b:Int=>decide (a<=b)) (λa b c h1 h2=>by
  have:=of_decide_eq_true h1;have:=of_decide_eq_true h2;exact decide_eq_true (by omega)) (λa b=>by
  rcases Int.le_total a b with h|h
  .simp[h]
  .simp[h]) l
 exact h.imp λh=>of_decide_eq_true h
def aMp:D->R D
 |.lst x=>(aAj x).bind λl=>aY (l.length<=4000/\(aAk l).length<64) (.ok (.lst ((aHh (aAk l)).map D.int)))
 |_=>.bad
end
noncomputable section
def aIi:D->D->D->R D
 |.dct t ks vs,k,x=>aY (keyOk t k=true) (if xV ks k=true then ofO (aAf ks vs k) else .ok x)
 |_,_,_=>.bad
def aXz(f g h:Ex):Ex:=λst=>(f st).bind λd=>(g st).bind λk=>(h st).bind λx=>aIi d k x
end
noncomputable section
def bE3(r:Exs)(g:Ex):Ex:=λst=>(r st).bind λxs=>(g st).bind λy=>inI y λj=>aY (xs.length<=big/\xs.length*j.toNat<=big/\-4611686018427387904<=j/\j<4611686018427387904) (.ok (.lst (rep j.toNat xs)))
end
noncomputable section
def aL5(c:String):Ex:=λ_=>.ok (.ins c [] [])
def pQ(f g:Ex):Ex:=λst=>match f st with
 |.bad=>g st
 |r=>r
theorem bFx{st:PSt} (h:pQ f g st=.ok d):f st=.ok d\/g st=.ok d:=by
 unfold pQ at h;split at h
 .exact .inr h
 .exact .inl h
def aT4(i j:Nat)(p:List D->R D)(f:Ex):Bd:=λst=>(f st).bind λx=>match st[j]? with
 |some (some (.o .l ys))=>(match ys.getLast? with
  |some d=>aY (ys.length<=big) ((p [x,d]).bind λy=>.ok (.nx ((st.set j (some (.o .l ys.dropLast))).set i (some (.v y)))))
  |none=>.bad)
 |_=>.bad
end
noncomputable section
def aGr:Bd:=bB (sIf (e2 aMo (aB 1) (e1 lU (aB 0))) (cF (e2 pO (e2 dIx (aB 0) (aB 1)) (e2 aVh (eC (.int 10)) (eC (.int 30))))) (cP)) (bB (cB 2 (eC (.int 0))) (bB (sIf (e2 dGt (e1 lU (aB 0)) (eC (.int 0))) (cB 2 (e2 pO (e2 dIx (aB 0) (e2 pO (aB 1) (e1 lU (aB 0)))) (eC (.int 999983)))) (cP)) (cF (e2 pO (e2 uV (e2 oG (e2 oG (e2 uV (aB 2) (eC (.int 48271))) (e2 uV (eC (.int 7919)) (aB 1))) (eC (.int 11))) (e2 oG (aB 1) (eC (.int 2)))) (eC (.int 2147483647))))))
def rF:List D->R D:=cJ 2 3 aGr
def aGs:Bd:=bB (cB 3 (e2 pO (e2 oG (aB 0) (e2 uV (eC (.int 15485863)) (aB 1))) (eC (.int 2147483629)))) (bB (cB 3 (e2 pO (e2 uV (e2 pO (e2 uV (aB 3) (aB 3)) (eC (.int 2147483647))) (eC (.int 69621))) (eC (.int 2147483629)))) (cF (e2 pO (e2 aAe (e2 pO (e2 uV (aB 3) (aB 3)) (eC (.int 2147483587))) (eC (.int 32))) (aB 2))))
def rG:List D->R D:=cJ 3 4 aGs
def zL(st:PSt):R Fl:=(bB (aE1 2 (e2 pO (aB 0) (aB 3))) (cB 0 (e2 aAe (aB 0) (aB 3)))) st
def aCo:Bd:=bB (sJ 2 (jX (aU))) (bB (oN (tgN 3) (itE (aB 1)) (zL)) (sFz [2] (cF (aB 2))))
def kE:List D->R D:=cJ 2 4 aCo
def aGt:Bd:=bB (sIf (e2 dEq (aB 2) (eC (.int 1))) (cF (e2 aSr (aB 0) (aB 1))) (cP)) (bB (sIf (oH (e2 dEq (aB 2) (eC (.int 2))) (e2 aMo (e2 aAe (aB 1) (eC (.int 2))) (e2 aAe (aB 0) (eC (.int 2))))) (cF (e2 aXo (e2 bBe (aB 3) (eC (.int 1))) (e2 oG (e2 bBe (aB 0) (e2 pO (aB 0) (eC (.int 2)))) (e2 pO (aB 1) (eC (.int 2)))))) (cP)) (cF (aB 1)))
def uW:List D->R D:=cJ 4 4 aGt
def jB(st:PSt):R D:=(aV rG (aD (aB 3) (aD (e2 oG (eC (.int 1)) (aB 9)) (aD (e2 dIx (aB 4) (aB 9)) (aU))))) st
def pR(st:PSt):R D:=(aV rG (aD (aB 10) (aD (e2 oG (eC (.int 11)) (aB 12)) (aD (e2 dIx (aB 4) (aB 12)) (aU))))) st
def wQ(st:PSt):R D:=(aV uW (aD (aB 9) (aD (aB 13) (aD (e2 dIx (aB 5) (eC (.int 4))) (aD (aB 6) (aU)))))) st
def pU(st:PSt):R Fl:=(bB (cB 10 (aV rF (aD (aB 0) (aD (e2 oG (e2 oG (aB 1) (eC (.int 1))) (aB 9)) (aU))))) (bB (cB 11 (aV kE (aD (aB 10) (aD (aB 4) (aU))))) (bB (sIf (e2 dEq (e2 pO (aB 3) (eC (.int 2))) (eC (.int 0))) (cB 11 (cY [12] (tgN 12) (xW (e1 lU (aB 4))) dD (pR))) (cP)) (bB (aE1 7 (cY [13] (tgN 13) (itE (eSl (aB 11) (aL1) (aL2 (e1 aOe (eC (.int 1)))))) dD (wQ))) (aE1 8 (e2 oG (e2 dIx (jX (aD (eC (.int 0)) (aD (eC (.int 0)) (aD (eC (.int 1)) (aD (e2 aVh (eC (.int 10)) (eC (.int 29))) (aU)))))) (e2 dIx (aB 5) (eC (.int 2)))) (e2 dIx (aB 11) (e1 aOe (eC (.int 1)))))))))) st
def aAm:Bd:=bB (cB 3 (aV rF (aD (aB 0) (aD (aB 1) (aU))))) (bB (cB 4 (jX (aD (aB 2) (aD (eC (.int 3)) (aD (eC (.int 4)) (aD (eC (.int 4)) (aD (eC (.int 3)) (aU)))))))) (bB (cB 5 (cY [9] (tgN 9) (xW (eC (.int 5))) dD (jB))) (bB (sIf (e2 dEq (e2 pO (aB 3) (eC (.int 2))) (eC (.int 1))) (cB 5 (aV kE (aD (e2 aAe (aB 3) (eC (.int 2))) (aD (aB 4) (aU))))) (cP)) (bB (cB 6 (e2 oG (eC (.int 1)) (e2 dIx (aB 5) (eC (.int 0))))) (bB (cB 4 (e2 oG (bE3 (aD (aB 6) (aU)) (e2 oG (eC (.int 1)) (e2 dIx (aB 5) (eC (.int 1))))) (jX (aD (e2 dIx (jX (aD (eC (.int 2)) (aD (eC (.int 3)) (aD (eC (.int 4)) (aD (eC (.int 6)) (aU)))))) (e2 dIx (aB 5) (eC (.int 3)))) (aU))))) (bB (sJ 7 (jX (aU))) (bB (sJ 8 (jX (aU))) (bB (oN (tgN 9) (xW (aB 6)) (pU)) (sFz [7,8] (cF (aVj (aD (aB 7) (aD (aB 8) (aU))))))))))))))
def lB:List D->R D:=cJ 3 14 aAm
def aGu:Bd:=bB (sIf (e2 dEq (aB 0) (eC (.int 0))) (cF (aL5 "EarlyNo")) (cP)) (bB (sIf (e2 dEq (aB 0) (eC (.int 1))) (cF (aL5 "EarlyYes")) (cP)) (bB (sIf (e2 dEq (aB 0) (eC (.int 2))) (cF (aL5 "Settled")) (cP)) (bB (sIf (e2 dEq (aB 0) (eC (.int 3))) (cF (aL5 "Again")) (cP)) (cF (aL5 "Lasting")))))
def uX:List D->R D:=cJ 1 1 aGu
def aAn(st:PSt):R Fl:=(cB 3 (e2 dOr (aB 3) (e2 aKj (eC (.int 1)) (aB 4)))) st
def aAo(st:PSt):R Fl:=(bB (cB 3 (eC (.int 0))) (bB (oN (tgN 4) (itE (aB 2)) (aAn)) (aE1 1 (aB 3)))) st
def aEa:Bd:=bB (sJ 1 (jX (aU))) (bB (oN (tgN 2) (itE (aB 0)) (aAo)) (sFz [1] (cF (aB 1))))
def tD:List D->R D:=cJ 1 5 aEa
def aAp(st:PSt):R Fl:=(sIf (e2 dEq (e2 uA (e2 aFv (aB 3) (aB 6)) (eC (.int 1))) (eC (.int 1))) (cB 5 (e2 dOr (aB 5) (e2 uA (e2 dIx (aB 0) (aB 6)) (aB 1)))) (cP)) st
def uB(st:PSt):R Fl:=(bB (cB 5 (aB 3)) (bB (oN (tgN 6) (xW (e1 lU (aB 0))) (aAp)) (bB (cB 4 (e2 dNe (aB 5) (aB 3))) (cB 3 (aB 5))))) st
def aAq(st:PSt):R D:=(aB 4) st
def aEb:Bd:=bB (cB 3 (e2 uA (aB 2) (aB 1))) (bB (cB 4 (eC (.bl true))) (bB (aIg 100000 (aAq) (uB)) (cF (aB 3))))
def gF:List D->R D:=cJ 3 7 aEb
def uC(st:PSt):R D:=(aB 5) st
def uD(st:PSt):R D:=(oH (e2 dEq (e2 uA (e2 aFv (aB 3) (aB 5)) (eC (.int 1))) (eC (.int 1))) (e2 dNe (aV gF (aD (aB 0) (aD (aB 3) (aD (e2 dIx (aB 0) (aB 5)) (aU))))) (aB 3))) st
def nO(st:PSt):R Fl:=(sIf (e2 dEq (e2 uA (aB 3) (aB 1)) (aB 3)) (bB (cB 4 (cY [5] (tgN 5) (xW (e1 lU (aB 0))) (uD) (uC))) (sIf (e2 dEq (aB 4) (jX (aU))) (aE1 2 (aB 3)) (cP))) (cP)) st
def wR:Bd:=bB (sJ 2 (jX (aU))) (bB (oN (tgN 3) (bFo (eC (.int 1)) (e2 oG (aB 1) (eC (.int 1)))) (nO)) (sFz [2] (cF (aB 2))))
def jC:List D->R D:=cJ 2 6 wR
def xX(st:PSt):R D:=(e2 dIx (aB 0) (aB 2)) st
def xY(st:PSt):R D:=(e2 dEq (e2 uA (e2 aFv (aB 1) (aB 2)) (eC (.int 1))) (eC (.int 1))) st
def aDb:Bd:=cF (e1 aOi (cY [2] (tgN 2) (xW (e1 lU (aB 0))) (xY) (xX)))
def xZ:List D->R D:=cJ 2 3 aDb
def aGv:Bd:=cF (e2 dEq (e2 pO (aV xZ (aD (aB 0) (aD (aB 1) (aU)))) (eC (.int 2))) (eC (.int 0)))
def lC:List D->R D:=cJ 2 2 aGv
def zM(st:PSt):R Fl:=(sDPut 3 (aB 4) (aV gF (aD (aB 0) (aD (eC (.int 255)) (aD (aB 4) (aU)))))) st
def zN(st:PSt):R D:=(aB 4) st
def zO(st:PSt):R D:=(aV lC (aD (aB 2) (aD (aB 4) (aU)))) st
def zP(st:PSt):R D:=(aB 4) st
def zQ(st:PSt):R D:=(mR (aV lC (aD (aB 2) (aD (aB 4) (aU))))) st
def rT(st:PSt):R Fl:=(bB (cB 9 (e2 dGt (e2 uA (e2 dIx (kZ 3) (aB 4)) (aB 8)) (eC (.int 0)))) (bB (cB 10 (e2 dGt (e2 uA (e2 dIx (kZ 3) (aB 8)) (aB 4)) (eC (.int 0)))) (bB (aOg 7 (eC (.int 0)) (oH (e2 dIx (kZ 7) (eC (.int 0))) (mR (aB 10)))) (bB (aOg 7 (eC (.int 1)) (oH (e2 dIx (kZ 7) (eC (.int 1))) (mR (aB 9)))) (bB (aOg 7 (eC (.int 2)) (oH (e2 dIx (kZ 7) (eC (.int 2))) (mR (oH (aB 9) (aB 10))))) (bB (aOg 7 (eC (.int 3)) (oH (e2 dIx (kZ 7) (eC (.int 3))) (e2 dNe (e2 uA (aB 4) (aB 8)) (aB 4)))) (aOg 7 (eC (.int 4)) (oH (e2 dIx (kZ 7) (eC (.int 4))) (e2 dNe (e2 uA (aB 4) (aB 8)) (aB 8)))))))))) st
def wU(st:PSt):R Fl:=(oN (tgN 8) (itE (aB 6)) (rT)) st
def aCp:Bd:=bB (aXp 3 false) (bB (oN (tgN 4) (itE (aB 1)) (zM)) (bB (cB 5 (cY [4] (tgN 4) (itE (aB 1)) (zO) (zN))) (bB (cB 6 (cY [4] (tgN 4) (itE (aB 1)) (zQ) (zP))) (bB (sJ 7 (jX (aD (eC (.bl true)) (aD (eC (.bl true)) (aD (eC (.bl true)) (aD (eC (.bl true)) (aD (eC (.bl true)) (aU)))))))) (bB (oN (tgN 4) (itE (aB 5)) (wU)) (sFz [7] (cF (aB 7))))))))
def mU:List D->R D:=cJ 3 11 aCp
def pW(st:PSt):R D:=(aB 2) st
def pX(st:PSt):R D:=(e2 dIn (aB 2) (eSl (eC (.str [97,98,99])) (aL1) (aL2 (aB 1)))) st
def aAr:Bd:=cF (oH (eB aXn (aB 0)) (e2 dEq (e1 lU (cY [2] (tgN 2) (itE (aB 0)) (pX) (pW))) (e1 lU (aB 0))))
def oO:List D->R D:=cJ 2 3 aAr
def aEc(st:PSt):R Fl:=(bB (cB 1 (e2 dIx (e2 dIx (aB 0) (aB 1)) (eMt aIc (eC (.str [97,98,99])) (aD (aB 4) (aU))))) (aE1 3 (aB 1))) st
def aIj:Bd:=bB (sJ 3 (jX (aU))) (bB (oN (tgN 4) (itE (aB 2)) (aEc)) (sFz [3] (cF (aB 3))))
def pY:List D->R D:=cJ 3 5 aIj
def aAs(st:PSt):R Fl:=(cB 4 (e2 dOr (aB 4) (e2 aKj (eC (.int 1)) (aB 5)))) st
def aEd:Bd:=bB (cB 3 (aV pY (aD (aB 0) (aD (aB 1) (aD (aB 2) (aU)))))) (bB (sIf (eOr (e2 dEq (aB 3) (jX (aU))) (e2 dNe (e2 dIx (aB 3) (e1 aOe (eC (.int 1)))) (aB 1))) (cF (eC (.int 0))) (cP)) (bB (cB 4 (eC (.int 0))) (bB (oN (tgN 5) (itE (aB 3)) (aAs)) (cF (aB 4)))))
def oR:List D->R D:=cJ 3 6 aEd
def aEe:Bd:=bB (sIf (eOr (e2 dEq (aB 0) (eC (.int 0))) (e2 dEq (aB 0) (eC (.int 4)))) (cF (oH (mR (aB 1)) (aB 2))) (cP)) (bB (sIf (e2 dEq (aB 0) (eC (.int 2))) (cF (e2 dNe (aB 1) (aB 2))) (cP)) (cF (oH (aB 1) (mR (aB 2)))))
def tE:List D->R D:=cJ 3 3 aEe
def aAt(st:PSt):R Fl:=(sIf (mR (aV oO (aD (aB 4) (aD (e1 lU (e2 dIx (aB 0) (eC (.int 0)))) (aU))))) (cF (eC (.bl false))) (cP)) st
def aEf:Bd:=bB (sIf (eOr (mR (eB bIj (aB 3))) (e2 dNe (e1 lU (aB 3)) (eC (.int 4)))) (cF (eC (.bl false))) (cP)) (bB (oN (tgN 4) (itE (aB 3)) (aAt)) (bB (bFp (tgT [9,10,11,12]) (aB 3)) (bB (cB 5 (e2 dIx (e2 oG (jX (aD (eC (.int 0)) (aU))) (aV pY (aD (aB 0) (aD (eC (.int 0)) (aD (aB 9) (aU)))))) (e1 aOe (eC (.int 1))))) (bB (cB 6 (e2 dIx (e2 oG (jX (aD (aB 5) (aU))) (aV pY (aD (aB 0) (aD (aB 5) (aD (aB 11) (aU)))))) (e1 aOe (eC (.int 1))))) (bB (cB 7 (aV oR (aD (aB 0) (aD (aB 5) (aD (aB 10) (aU)))))) (bB (cB 8 (aV oR (aD (aB 0) (aD (aB 6) (aD (aB 12) (aU)))))) (bB (sIf (eOr (e2 dEq (aB 7) (eC (.int 0))) (eOr (e2 dEq (aB 8) (eC (.int 0))) (oH (e2 dGt (aB 2) (eC (.int 1))) (eOr (e2 dNe (aB 11) (eC (.str []))) (e2 dNe (e2 uA (aB 7) (aB 8)) (aB 7)))))) (cF (eC (.bl false))) (cP)) (cF (aV tE (aD (aB 2) (aD (aV lC (aD (aB 1) (aD (aB 7) (aU)))) (aD (aV lC (aD (aB 1) (aD (aB 8) (aU)))) (aU)))))))))))))
def tH:List D->R D:=cJ 4 13 aEf
def aDc:Bd:=cF (e2 dEq (e2 uA (e2 aFv (aB 0) (aB 1)) (eC (.int 1))) (eC (.int 1)))
def iV:List D->R D:=cJ 2 2 aDc
def yC(st:PSt):R D:=(aB 1) st
def yD(st:PSt):R D:=(aV iV (aD (aB 0) (aD (aB 1) (aU)))) st
def aDd:Bd:=cF (cY [1] (tgN 1) (xW (e1 aHq (aB 0))) (yD) (yC))
def bW:List D->R D:=cJ 1 2 aDd
def oA(st:PSt):R Fl:=(cB 1 (e2 dOr (aB 1) (e2 aKj (eC (.int 1)) (aB 2)))) st
def aFw:Bd:=bB (cB 1 (eC (.int 0))) (bB (oN (tgN 2) (itE (aB 0)) (oA)) (cF (aB 1)))
def kI:List D->R D:=cJ 1 3 aFw
def aAu(st:PSt):R Fl:=(sDPut 3 (aB 4) (e2 uA (e2 dOr (aV kI (aD (e2 dIx (aB 0) (aB 4)) (aU))) (e2 aKj (eC (.int 1)) (aB 4))) (aB 1))) st
def oU(st:PSt):R Fl:=(sIf (aV iV (aD (e2 dIx (kZ 3) (aB 4)) (aD (aB 5) (aU)))) (sDPut 3 (aB 4) (e2 dOr (e2 dIx (kZ 3) (aB 4)) (e2 dIx (kZ 3) (aB 5)))) (cP)) st
def aAv(st:PSt):R Fl:=(oN (tgN 4) (itE (aB 2)) (oU)) st
def aEg:Bd:=bB (cB 2 (aV bW (aD (aB 1) (aU)))) (bB (aXp 3 false) (bB (oN (tgN 4) (itE (aB 2)) (aAu)) (bB (oN (tgN 5) (itE (aB 2)) (aAv)) (sFz [3] (cF (aB 3))))))
def lV:List D->R D:=cJ 2 6 aEg
def aGw:Bd:=cF (aV kI (aD (e1 aE9 (e1 (jJ "Machine" "many") (aB 0))) (aU)))
def rH:List D->R D:=cJ 1 1 aGw
def aGx:Bd:=cF (e2 dIx (aV lV (aD (e1 (jJ "Machine" "steps") (aB 0)) (aD (aV rH (aD (aB 0) (aU))) (aU)))) (aB 1))
def jK:List D->R D:=cJ 2 2 aGx
def oV(st:PSt):R D:=(e2 dIx (e1 (jJ "Machine" "ranks") (aB 0)) (aB 5)) st
def aEh(st:PSt):R D:=(aB 4) st
def aEi(st:PSt):R D:=(e2 dEq (e2 dEq (e2 pO (aB 4) (eC (.int 2))) (eC (.int 0))) (aB 2)) st
def zR:Bd:=bB (cB 3 (e1 aMp (cY [5] (tgN 5) (itE (aV bW (aD (aB 1) (aU)))) dD (oV)))) (cF (cY [4] (tgN 4) (itE (aB 3)) (aEi) (aEh)))
def nC:List D->R D:=cJ 3 6 zR
def aEj:Bd:=bB (cB 2 (aV bW (aD (aB 1) (aU)))) (cF (eOr (e2 dGt (e1 lU (aB 2)) (eC (.int 1))) (e2 dIn (e2 dIx (aB 2) (eC (.int 0))) (e2 dIx (aB 0) (e2 dIx (aB 2) (eC (.int 0)))))))
def tK:List D->R D:=cJ 2 3 aEj
def zT(st:PSt):R D:=(aB 6) st
def zU(st:PSt):R D:=(aV iV (aD (e2 dIx (aB 2) (aB 6)) (aD (aB 4) (aU)))) st
def rW(st:PSt):R Fl:=(bB (cB 5 (aV kI (aD (cY [6] (tgN 6) (itE (aV bW (aD (e2 dIx (aB 2) (aB 4)) (aU)))) (zU) (zT)) (aU)))) (sIf (oH (e2 aAh (aB 5) (kZ 3)) (aV tK (aD (aB 0) (aD (aB 5) (aU))))) (aE1 3 (aB 5)) (cP))) st
def aCq:Bd:=bB (cB 2 (aV lV (aD (aB 0) (aD (aB 1) (aU))))) (bB (sJ 3 (jX (aU))) (bB (oN (tgN 4) (itE (aV bW (aD (aB 1) (aU)))) (rW)) (sFz [3] (cF (aB 3)))))
def qT:List D->R D:=cJ 2 7 aCq
def aEk:Bd:=cF (aV qT (aD (e1 (jJ "Machine" "steps") (aB 0)) (aD (aB 1) (aU))))
def gG:List D->R D:=cJ 2 2 aEk
def tL(st:PSt):R D:=(e2 dIx (e1 (jJ "Machine" "ranks") (aB 0)) (aB 2)) st
def aDe:Bd:=bB (sIf (e2 dEq (aB 1) (eC (.int 0))) (vW) (cP)) (cF (e1 aOi (cY [2] (tgN 2) (itE (aV bW (aD (aB 1) (aU)))) dD (tL))))
def pZ:List D->R D:=cJ 2 3 aDe
def aFx(st:PSt):R D:=(aB 5) st
def aFy(st:PSt):R D:=(e2 dLe (e2 dIx (e1 (jJ "Machine" "ranks") (aB 0)) (aB 5)) (aB 2)) st
def lW(st:PSt):R D:=(aB 4) st
def lX(st:PSt):R D:=(e2 dEq (aV pZ (aD (aB 0) (aD (aB 4) (aU)))) (aB 2)) st
def nD:Bd:=bB (cB 3 (aV kI (aD (cY [5] (tgN 5) (itE (aV bW (aD (aB 1) (aU)))) (aFy) (aFx)) (aU)))) (cP)
def aIk:Bd:=uU nD (cY [4] (tgN 4) (itE (aV gG (aD (aB 0) (aD (aB 3) (aU))))) (lX) (lW))
def lD:List D->R D:=cJ 3 6 aIk
def uY(st:PSt):R Fl:=(bBf 3 (aV lD (aD (aB 0) (aD (aB 1) (aD (aB 4) (aU)))))) st
def zV:Bd:=bB (sJ 3 (jX (aU))) (bB (oN (tgN 4) (itE (aV nC (aD (aB 0) (aD (aB 1) (aD (aB 2) (aU)))))) (uY)) (sFz [3] (cF (aB 3))))
def dM:List D->R D:=cJ 3 5 zV
def qU(st:PSt):R Fl:=(sIf (oH (e2 dIn (aB 8) (aB 2)) (e2 aAh (aB 8) (kZ 3))) (bB (sDPut 3 (aB 8) (e2 oG (e2 dIx (kZ 3) (aB 6)) (aB 7))) (aE1 4 (aB 8))) (cP)) st
def aCr(st:PSt):R Fl:=(bB (cB 6 (e2 dIx (kZ 4) (aB 5))) (bB (oN (tgT [7,8]) (bE2 (eC (.str [97,98,99])) (e2 dIx (aB 0) (aB 6))) (qU)) (cB 5 (e2 oG (aB 5) (eC (.int 1)))))) st
def vX(st:PSt):R D:=(e2 aMo (aB 5) (e1 lU (kZ 4))) st
def aAw:Bd:=bB (aR7 3 (aB 1) (eC (.str []))) (bB (sJ 4 (jX (aD (aB 1) (aU)))) (bB (cB 5 (eC (.int 0))) (bB (aIg 100000 (vX) (aCr)) (sFz [3] (cF (aB 3))))))
def lE:List D->R D:=cJ 3 9 aAw
def lY:Bd:=bB (cB 1 (aV lE (aD (e1 (jJ "Machine" "steps") (aB 0)) (aD (eC (.int 0)) (aD (e1 aE9 (e1 (jJ "Machine" "many") (aB 0))) (aU)))))) (cP)
def aHi:Bd:=uU lY (e1 aIh (aB 1))
def nF:List D->R D:=cJ 1 2 aHi
def aFz:Bd:=cF (e2 dEq (aV gG (aD (aB 0) (aD (aB 1) (aU)))) (jX (aD (aB 1) (aU))))
def wV:List D->R D:=cJ 2 2 aFz
def aOj:Bd:=bB (sIf (mR (aV iV (aD (aB 1) (aD (aB 2) (aU))))) (cF (eC .non)) (cP)) (cF (aXz (aV lE (aD (e1 (jJ "Machine" "steps") (aB 0)) (aD (aB 2) (aD (aV bW (aD (aB 1) (aU))) (aU))))) (aB 3) (eC .non)))
def oW:List D->R D:=cJ 4 4 aOj
def jD(st:PSt):R Fl:=(bB (cB 1 (e2 dIx (e2 dIx (e1 (jJ "Machine" "steps") (aB 0)) (aB 1)) (eMt aOf (eC (.str [97,98,99])) (aD (aB 4) (aU))))) (aE1 3 (aB 1))) st
def eO:Bd:=bB (sJ 3 (jX (aD (aB 1) (aU)))) (bB (oN (tgN 4) (itE (aB 2)) (jD)) (cP))
def aA8:Bd:=aE7 eO 3
def cT:List D->R D:=cJ 3 5 aA8
def aEm(st:PSt):R Fl:=(sIf (e2 aAh (aB 5) (dY "Machine" "rooms_along" (cT) [] (aB 0) (aD (aB 2) (aD (aB 3) (aU))))) (bB (cB 3 (e2 oG (aB 3) (aV oW (aD (aB 0) (aD (aB 1) (aD (aB 4) (aD (aB 5) (aU)))))))) (cB 4 (aB 5))) (cP)) st
def aIl:Bd:=bB (sIf (mR (aV wV (aD (aB 0) (aD (aB 1) (aU))))) (vW) (cP)) (bB (sIf (mR (aV iV (aD (aB 1) (aD (aB 2) (aU))))) (vW) (cP)) (bB (sIf (e2 dEq (aV bW (aD (aB 1) (aU))) (jX (aD (aB 2) (aU)))) (cF (e2 dIx (eC (.str [97,98,99])) (eMt aT3 (e2 dIx (e1 (jJ "Machine" "steps") (aB 0)) (aB 2)) (aD (aB 2) (aU))))) (cP)) (bB (cB 3 (eC (.str []))) (bB (cB 4 (aB 2)) (bB (oN (tgN 5) (itE (aV bW (aD (aB 1) (aU)))) (aEm)) (cF (e2 oG (aB 3) (aV oW (aD (aB 0) (aD (aB 1) (aD (aB 4) (aD (aB 2) (aU)))))))))))))
def nP:List D->R D:=cJ 3 6 aIl
def aGy(st:PSt):R D:=(aB 5) st
def aGz(st:PSt):R D:=(aV iV (aD (e2 dIx (aB 1) (eC (.int 0))) (aD (e2 dIx (aB 5) (eC (.int 0))) (aU)))) st
def aH0(st:PSt):R D:=(aV nP (aD (aB 0) (aD (aB 6) (aD (aB 3) (aU))))) st
def aL6:Bd:=bB (cB 2 (cY [5] (tgN 5) (itE (aV nF (aD (aB 0) (aU)))) (aGz) (aGy))) (bB (cB 3 (e2 dIx (e2 dIx (aB 2) (eC (.int 0))) (eC (.int 0)))) (bB (cB 4 (e2 dIx (e2 dIx (aB 2) (eC (.int 0))) (eC (.int 1)))) (cF (aVj (aD (aB 4) (aD (cY [6] (tgN 6) (itE (aB 1)) dD (aH0)) (aU)))))))
def tX:List D->R D:=cJ 2 7 aL6
def aDf:Bd:=cF (oH (eB isIn (aB 0)) (mR (eB bFn (aB 0))))
def qC:List D->R D:=cJ 1 1 aDf
def aDg:Bd:=cF (oH (aV qC (aD (aB 0) (aU))) (oH (e2 dGe (aB 0) (eC (.int 0))) (e2 aMo (aB 0) (aB 1))))
def qD:List D->R D:=cJ 2 2 aDg
def rJ:Bd:=sIf (mR (aV qD (aD (aB 1) (aD (e1 (jJ "Machine" "many") (aB 0)) (aU))))) (vW) (cP)
def dR:List D->R D:=cJ 2 2 rJ
def aBz:Bd:=cF (oH (eB aXn (aB 0)) (e2 dEq (eMt aIe (aB 0) (aD (eSl (eC (.str [97,98,99])) (aL1) (aL2 (aB 1))) (aU))) (eC (.str []))))
def oE:List D->R D:=cJ 2 2 aBz
def rK:Bd:=sIf (mR (aV oE (aD (aB 1) (aD (e1 (jJ "Machine" "letters") (aB 0)) (aU))))) (vW) (cP)
def dU:List D->R D:=cJ 2 2 rK
def zW:Bd:=bB (bFq (dY "Machine" "check_room" (dR) [] (aB 0) (aD (aB 1) (aU)))) (bB (bFq (dY "Machine" "check_word" (dU) [] (aB 0) (aD (aB 2) (aU)))) (cF (e2 dIx (dY "Machine" "rooms_along" (cT) [] (aB 0) (aD (aB 1) (aD (aB 2) (aU)))) (e1 aOe (eC (.int 1))))))
def jY:List D->R D:=cJ 3 3 zW
def gZ(st:PSt):R Fl:=(bB (cB 8 (e2 dIx (aV bW (aD (aB 7) (aU))) (eC (.int 0)))) (bB (cB 9 (aV oW (aD (aB 0) (aD (aB 2) (aD (aB 6) (aD (aB 8) (aU))))))) (sIf (e2 aAi (aB 9) (eC .non)) (cF (aVj (aD (e2 dIx (aB 5) (eC (.int 0))) (aD (e2 dIx (e2 dIx (aB 5) (eC (.int 1))) (eC (.int 0))) (aD (aB 9) (aD (aV nP (aD (aB 0) (aD (aB 7) (aD (aB 8) (aU))))) (aU))))))) (cP)))) st
def iB(st:PSt):R Fl:=(bB (cB 5 (aV tX (aD (aB 0) (aD (jX (aD (aB 4) (aU))) (aU))))) (bB (cB 6 (dY "Machine" "after" (jY) [] (aB 0) (aD (eC (.int 0)) (aD (e2 dIx (aB 5) (eC (.int 0))) (aU))))) (oN (tgN 7) (itE (aB 3)) (gZ)))) st
def aEn:Bd:=bB (cB 2 (aV jK (aD (aB 0) (aD (eC (.int 0)) (aU))))) (bB (cB 3 (aV dM (aD (aB 0) (aD (aB 2) (aD (aB 1) (aU)))))) (bB (oN (tgN 4) (itE (aV dM (aD (aB 0) (aD (aB 2) (aD (mR (aB 1)) (aU)))))) (iB)) (cF (eC .non))))
def jQ:List D->R D:=cJ 2 10 aEn
def aCs:Bd:=cF (aV jQ (aD (aB 1) (aD (eC (.bl true)) (aU))))
def dH:List D->R D:=cJ 2 2 aCs
def aAx:Bd:=cF (aV jQ (aD (aB 1) (aD (eC (.bl false)) (aU))))
def eQ:List D->R D:=cJ 2 2 aAx
def zX(st:PSt):R D:=(aB 3) st
def zY(st:PSt):R D:=(e2 dNe (e2 dIx (e1 (jJ "Machine" "ranks") (aB 0)) (aB 3)) (aB 2)) st
def aCt:Bd:=bB (cB 2 (aV pZ (aD (aB 0) (aD (aB 1) (aU))))) (cF (aV kI (aD (cY [3] (tgN 3) (itE (aV bW (aD (aB 1) (aU)))) (zY) (zX)) (aU))))
def qW:List D->R D:=cJ 2 4 aCt
def aG0:Bd:=cF (e2 dEq (e2 pO (aV pZ (aD (aB 0) (aD (aB 1) (aU)))) (eC (.int 2))) (eC (.int 0)))
def oF:List D->R D:=cJ 2 2 aG0
def zZ(st:PSt):R Fl:=(sIf (e2 dEq (aV oF (aD (aB 0) (aD (aB 5) (aU)))) (aV oF (aD (aB 0) (aD (aB 1) (aU))))) (aE1 3 (aB 5)) (aE1 2 (aB 5))) st
def aA0(st:PSt):R Fl:=(bB (aT4 4 3 qW (aB 0)) (oN (tgN 5) (itE (aV gG (aD (aB 0) (aD (aB 4) (aU))))) (zZ))) st
def aA1(st:PSt):R D:=(e2 dNe (kZ 3) (jX (aU))) st
def aCu:Bd:=bB (sJ 2 (jX (aU))) (bB (sJ 3 (jX (aD (aB 1) (aU)))) (bB (aIg 100000 (aA1) (aA0)) (sFz [2] (cF (aB 2)))))
def mV:List D->R D:=cJ 2 6 aCu
def iC(st:PSt):R Fl:=(bB (cB 3 (aV mV (aD (aB 0) (aD (aB 2) (aU))))) (sIf (e2 dNe (aB 3) (jX (aU))) (bB (cB 4 (aV tX (aD (aB 0) (aD (jX (aD (e2 dIx (aB 3) (eC (.int 0))) (aD (aB 2) (aU)))) (aU))))) (cF (aVj (aD (e2 dIx (aB 4) (eC (.int 0))) (aD (e2 dIx (e2 dIx (aB 4) (eC (.int 1))) (eC (.int 0))) (aD (eC (.str [])) (aD (e2 dIx (e2 dIx (aB 4) (eC (.int 1))) (eC (.int 1))) (aU)))))))) (cP))) st
def aEo:Bd:=bB (oN (tgN 2) (itE (aV dM (aD (aB 0) (aD (aV jK (aD (aB 0) (aD (eC (.int 0)) (aU)))) (aD (aB 1) (aU)))))) (iC)) (cF (eC .non))
def dN:List D->R D:=cJ 2 5 aEo
def aCv:Bd:=bB (cB 2 (aV dN (aD (aB 1) (aD (eC (.bl false)) (aU))))) (cF (eIf (e2 aAi (aB 2) (eC .non)) (aB 2) (aV dN (aD (aB 1) (aD (eC (.bl true)) (aU))))))
def eE:List D->R D:=cJ 2 3 aCv
def aH1:Bd:=cF (aV dN (aD (aB 1) (aD (eC (.bl false)) (aU))))
def iI:List D->R D:=cJ 2 2 aH1
def aCw:Bd:=cF (aV dN (aD (aB 1) (aD (eC (.bl true)) (aU))))
def fQ:List D->R D:=cJ 2 2 aCw
def sS(st:PSt):R Fl:=(bB (cB 6 (pQ (dY "EarlyNo" "bar" (dH) [] (e2 dIx (aB 0) (aB 5)) (aD (aB 1) (aU))) (pQ (dY "EarlyYes" "bar" (eQ) [] (e2 dIx (aB 0) (aB 5)) (aD (aB 1) (aU))) (pQ (dY "Settled" "bar" (eE) [] (e2 dIx (aB 0) (aB 5)) (aD (aB 1) (aU))) (pQ (dY "Again" "bar" (iI) [] (e2 dIx (aB 0) (aB 5)) (aD (aB 1) (aU))) (dY "Lasting" "bar" (fQ) [] (e2 dIx (aB 0) (aB 5)) (aD (aB 1) (aU)))))))) (sIf (e2 dIx (aB 4) (aB 5)) (sIf (e2 aAi (aB 6) (eC .non)) (cF (eC (.bl false))) (cP)) (sIf (mR (aV tH (aD (aB 2) (aD (aB 3) (aD (aB 5) (aD (aB 6) (aU))))))) (cF (eC (.bl false))) (cP)))) st
def uZ:Bd:=bB (oN (tgN 5) (xW (eC (.int 5))) (sS)) (cF (oH (e2 dEq (e1 (jJ "Machine" "steps") (aB 1)) (aB 2)) (e2 dEq (e1 (jJ "Machine" "ranks") (aB 1)) (aB 3))))
def iJ:List D->R D:=cJ 5 7 uZ
def qF:Bd:=cF (oH (eB aVi (aB 0)) (oH (e2 dGe (e1 lU (aB 0)) (eC (.int 1))) (e2 dLe (e1 lU (aB 0)) (aB 1))))
def fM:List D->R D:=cJ 2 2 qF
def aDh(st:PSt):R D:=(aV qD (aD (aB 3) (aD (aB 2) (aU)))) st
def aIm:Bd:=cF (oH (e2 dEq (e1 lU (aB 0)) (aB 1)) (e1 aHg (cY [3] (tgN 3) (itE (aB 0)) dD (aDh))))
def aEp:List D->R D:=cJ 3 4 aIm
def vY(st:PSt):R D:=(aV fM (aD (aB 1) (aD (eC (.int 3)) (aU)))) st
def vZ(st:PSt):R D:=(aV aEp (aD (aB 1) (aD (e1 lU (e2 dIx (aB 0) (eC (.int 0)))) (aD (e1 lU (aB 0)) (aU))))) st
def aAy:Bd:=bB (sIf (mR (aV fM (aD (aB 0) (aD (eC (.int 8)) (aU))))) (cF (eC (.bl false))) (cP)) (bB (sIf (mR (e1 aHg (cY [1] (tgN 1) (itE (aB 0)) dD (vY)))) (cF (eC (.bl false))) (cP)) (cF (e1 aHg (cY [1] (tgN 1) (itE (aB 0)) dD (vZ)))))
def vA:List D->R D:=cJ 1 2 aAy
def wA(st:PSt):R D:=(oH (aV qC (aD (aB 2) (aU))) (e2 dGe (aB 2) (eC (.int 0)))) st
def aAz:Bd:=bB (sIf (eOr (mR (eB aVi (aB 0))) (e2 dNe (e1 lU (aB 0)) (aB 1))) (cF (eC (.bl false))) (cP)) (cF (e1 aHg (cY [2] (tgN 2) (itE (aB 0)) dD (wA))))
def vB:List D->R D:=cJ 2 3 aAz
def lG(st:PSt):R D:=(e1 aGq (aB 3)) st
def iD:Bd:=bB (sIf (mR (aV vA (aD (aB 1) (aU)))) (vW) (cP)) (bB (sIf (mR (aV vB (aD (aB 2) (aD (e1 lU (aB 1)) (aU))))) (vW) (cP)) (bB (aL3 0 "Machine" "steps" (cY [3] (tgN 3) (itE (aB 1)) dD (lG))) (bB (aL3 0 "Machine" "ranks" (e1 aGq (aB 2))) (bB (aL3 0 "Machine" "many" (e1 lU (aB 1))) (aL3 0 "Machine" "letters" (e1 lU (e2 dIx (aB 1) (eC (.int 0)))))))))
def iG:List D->R D:=aMl "Machine" 2 4 iD
def aT5(st:PSt):R D:=(e2 oG (aB 12) (eC (.int 1))) st
def aMq(st:PSt):R D:=(aV uX (aD (aB 13) (aU))) st
def aT6(st:PSt):R D:=(e1 aGq (aB 15)) st
def aT7(st:PSt):R D:=(e1 aGq (aB 15)) st
def aT8(st:PSt):R D:=(pQ (dY "EarlyNo" "bar" (dH) [] (aB 14) (aD (aB 3) (aU))) (pQ (dY "EarlyYes" "bar" (eQ) [] (aB 14) (aD (aB 3) (aU))) (pQ (dY "Settled" "bar" (eE) [] (aB 14) (aD (aB 3) (aU))) (pQ (dY "Again" "bar" (iI) [] (aB 14) (aD (aB 3) (aU))) (dY "Lasting" "bar" (fQ) [] (aB 14) (aD (aB 3) (aU))))))) st
def aT9(st:PSt):R D:=(pQ (dY "EarlyNo" "bar" (dH) [] (aB 14) (aD (aB 3) (aU))) (pQ (dY "EarlyYes" "bar" (eQ) [] (aB 14) (aD (aB 3) (aU))) (pQ (dY "Settled" "bar" (eE) [] (aB 14) (aD (aB 3) (aU))) (pQ (dY "Again" "bar" (iI) [] (aB 14) (aD (aB 3) (aU))) (dY "Lasting" "bar" (fQ) [] (aB 14) (aD (aB 3) (aU))))))) st
def bE4:Bd:=bB (bFp (tgT [10,11]) (aV lB (aD (aB 0) (aD (eC (.int 0)) (aD (eC (.int 6)) (aU)))))) (bB (cB 1 (cY [12] (tgN 12) (itE (aB 11)) dD (aT5))) (bB (cB 2 (cY [13] (tgN 13) (xW (eC (.int 5))) dD (aMq))) (bB (cB 3 (aV iG (aD (cY [15] (tgN 15) (itE (aB 10)) dD (aT6)) (aD (e1 aGq (aB 11)) (aU))))) (bB (cB 4 (aV iG (aD (cY [15] (tgN 15) (itE (aB 10)) dD (aT7)) (aD (e1 aGq (aB 1)) (aU))))) (bB (cB 5 (aV tD (aD (aB 10) (aU)))) (bB (cB 6 (aV jC (aD (aB 5) (aD (aV gF (aD (aB 5) (aD (eC (.int 255)) (aD (eC (.int 1)) (aU))))) (aU))))) (bB (cB 7 (aV mU (aD (aB 5) (aD (aB 6) (aD (aB 11) (aU)))))) (bB (cB 8 (aV mU (aD (aB 5) (aD (aB 6) (aD (aB 1) (aU)))))) (bB (sIf (mR (aV iJ (aD (aB 2) (aD (aB 3) (aD (aB 10) (aD (aB 11) (aD (aB 7) (aU)))))))) (cF (eC (.bl false))) (cP)) (bB (cB 9 (cY [14] (tgN 14) (itE (aB 2)) dD (aT8))) (bB (sIf (mR (aV iJ (aD (aB 2) (aD (aB 4) (aD (aB 10) (aD (aB 1) (aD (aB 8) (aU)))))))) (cF (eC (.bl false))) (cP)) (cF (e2 dEq (cY [14] (tgN 14) (itE (aB 2)) dD (aT9)) (aB 9))))))))))))))
def aL7:List D->R D:=cJ 1 16 bE4
end
@[simp] theorem aOk(x:List D):aHg (.lst x)=(bls x).bind λl=>.ok (.bl (l.all id)):=rfl
@[simp] theorem bHn(x:List D):aGq (.lst x)=.ok (.lst x):=rfl
theorem aY0{x:List D}{l:List Bool}(h:x=l.map D.bl)(ht:∀b∈l,b=true):aHg (.lst x)=.ok (.bl true):=by
 subst h;rw[aOk,aT1];have:l.all id=true:=List.all_eq_true.mpr λb hb=>by simp[ht b hb]
 simp[this]
def Ltr(m:Int)(x:List Nat):Prop:=∀c∈x,97<=c/\(c:Int)<97+m
theorem aG{a b:Bd}{st:PSt}{r:R Fl}(h:a st=.ok (.nx st'))(h2:b st'=r):bB a b st=r:=by
 rw[aSx,h];exact h2
theorem cV{a b:Bd}{st:PSt}{r:R Fl}(h:a st=.ok (.nx st))(h2:b st=r):bB a b st=r:=aG h h2
theorem oX{a b:Bd}{st:PSt} (h:a st=.ok (.rt d)):bB a b st=.ok (.rt d):=by
 rw[aSx,h];rfl
theorem bF{b:Bd} {d:D} (h:ds.length=np) (hb:b (ds.map (λd=>some (.v d))++List.replicate (n-np) none)=.ok (.rt d)):cJ np n b ds=.ok d:=by
 rw[aT0 h,hb];rfl
theorem aY1{b:Bd} {st:PSt} (h:ds.length=np) (hb:b (ds.map (λd=>some (.v d))++List.replicate (n-np) none)=.ok (.nx st)):cJ np n b ds=.ok .non:=by
 rw[aT0 h,hb];rfl
theorem aB0(n:Nat):kJ 0 n=(List.range n).map λ(k:Nat)=>D.int (k:Int):=by
 unfold kJ;refine List.map_congr_left λk _=>?_
 rw[Int.zero_add]
theorem aC0{tg:Tg}{c f:Ex}{st:PSt}(g:D->D):∀(ds:List D),(∀d∈ds,∃s1,tg d st=.ok s1/\c s1=.ok (.bl true)/\f s1=.ok (g d))->gU tg c f st ds=.ok (ds.map g)
 |[],_=>rfl
 |d::ds,h=>by
  obtain⟨s1,e1,e2,e3⟩:=h d mem_cons_self;rw[nM,e1];simp only[aO,e2,pP,if_true,e3,aC0 g ds λd hd=>h d (mem_cons_of_mem _ hd),map_cons]
theorem bC{st:PSt} (h:f st=.ok d):cB i f st=.ok (.nx (st.set i (some (.v d)))):=by rw[aSy,h,aO]
theorem oY{st:PSt} (h:f st=.ok (.lst xs)):sJ i f st=.ok (.nx (st.set i (some (.o .l xs)))):=by rw[aXu,h,aO]
theorem aQ{st:PSt} {x:R D} (h:r st=.ok ds) (hp:p ds=x):aV p r st=x:=by rw[aXr,h,aO,hp]
theorem aK{op:Op2} {st:PSt} {x:D} {z:R D} (hf:f st=.ok x) (hg:g st=.ok y) (h:op x y=z):e2 op f g st=z:=by rw[aE2,hf,aO,hg,aO,h]
theorem rM{c:Ex}{a b:Bd}{st:PSt}{r:R Fl}(h:c st=.ok (.bl true))(ha:a st=r):sIf c a b st=r:=by rw[aR5,h,aO,pP,if_pos rfl,ha]
theorem gY{c:Ex}{a b:Bd}{st:PSt}{r:R Fl}(h:c st=.ok (.bl false))(hb:b st=r):sIf c a b st=r:=by rw[aR5,h,aO,pP,if_neg Bool.false_ne_true,hb]
theorem nQ{st:PSt}{p q:Bool}(hf:f st=.ok (.bl p))(hg:p=true->g st=.ok (.bl q)):oH f g st=.ok (.bl (p&&q)):=by
 rw[aSv,hf,aO,pP];cases p with
 |true=>rw[if_pos rfl,hg rfl];rfl
 |false=>rfl
theorem aB1{st:PSt}{p q:Bool}(hf:f st=.ok (.bl p))(hg:p=false->g st=.ok (.bl q)):eOr f g st=.ok (.bl (p||q)):=by
 rw[bFr,hf,aO,pP];cases p with
 |true=>rfl
 |false=>rw[if_neg Bool.false_ne_true,hg rfl];rfl
theorem kO{st:PSt}{p:Bool}(hf:f st=.ok (.bl p)):mR f st=.ok (.bl (!p)):=by rw[aSw,hf,aO,pP]
theorem bU{st:PSt} (h:f st=.ok d):cF f st=.ok (.rt d):=by rw[uT,h,aO]
theorem fJ{tg:Tg} {L:Bd} {st:PSt} {r:R Fl} (h:it st=.ok xs) (hr:forR tg L xs st=r):oN tg it L st=r:=by rw[aSz,h,aO,hr]
theorem bA{st:PSt}{d:D} (h:f st=.ok d) (hr:r st=.ok ds):aD f r st=.ok (d::ds):=by rw[aXq,h,aO,hr,aO]
theorem fX{st:PSt} (h:r st=.ok ds) (hl:ds.length<=1000:=by exact of_decide_eq_true rfl):jX r st=.ok (.lst ds):=by rw[bBh,h,aO,aF (eN (Nat.le_trans hl (by decide)))]
theorem yE{i j:Int}(h:0<j):pO (.int i) (.int j)=.ok (.int (i%j)):=aF h
theorem aEq{i j:Int}(h:0<j/\j<1073741824):aAe (.int i) (.int j)=.ok (.int (i/j)):=aF h
theorem qG(i j:Int):dEq (.int i) (.int j)=.ok (.bl (decide (i=j))):=by
 have:(i==j)=decide (i=j):=by by_cases h:i=j<;>simp[h]
 rw[<-this];exact aF ⟨zero_le 64,rfl,rfl⟩
theorem aIn(i j:Int):dNe (.int i) (.int j)=.ok (.bl (!decide (i=j))):=by
 have:(i==j)=decide (i=j):=by by_cases h:i=j<;>simp[h]
 rw[<-this];exact aF ⟨zero_le 64,rfl,rfl⟩
theorem wB{st:PSt} (h:f st=.ok d) (hs:st[i]?=some (some (.o .l xs))) (hl:xs.length<1000000):aE1 i f st=.ok (.nx (st.set i (some (.o .l (xs++[d]))))):=by
 rw[bBk,h,aO,hs];exact aF (aMj (Nat.lt_trans hl (by decide)))
theorem aH2{st:PSt} (h:f st=.ok (.int n)) (hn:n<=1000000):xW f st=.ok ((List.range n).map λ(k:Nat)=>D.int (k:Int)):=by
 rw[bBi,h,aO,<-aB0];exact aF ⟨aE0 (by omega),xU (by omega)⟩
theorem gH{E C:Ex}{is:List Nat}{tg:Tg} {st:PSt} (h:it st=.ok xs) (hl:xs.length<=1000000) (hc:gU tg C E (clr is st) xs=.ok ys):cY is tg it C E st=.ok (.lst ys):=by
 rw[aE5,h,aO,aF (eN (Nat.le_trans hl (by decide))),hc,aO]
theorem aB2{c:Ex}{b:Bd}{st:PSt} {r:R Fl} (hc:c st=.ok (.bl true)) (hb:b st=.ok (.nx st')) (hr:nJ c b n st'=r):nJ c b (n+1) st=r:=by
 rw[aGp,hc,aO,pP,if_pos rfl,hb];exact hr
theorem wW{c:Ex}{b:Bd}{st:PSt} (hc:c st=.ok (.bl false)):nJ c b (n+1) st=.ok (.nx st):=by rw[aGp,hc,aO,pP,if_neg Bool.false_ne_true]
theorem fO{tg:Tg}{L:Bd}{d:D} {st s1 s2:PSt} {r:R Fl} (ht:tg d st=.ok s1) (hL:L s1=.ok (.nx s2)) (hr:forR tg L ds s2=r):forR tg L (d::ds) st=r:=by
 rw[nZ,ht,aO,hL];exact hr
theorem fY{i:Int} (h:atI xs i=some d):dIx (.lst xs) (.int i)=.ok d:=by
 show ofO (atI xs i)=_;rw[h];rfl
theorem bJ0{p q:Nat}(h:p<q):decide ((p:Int)<(q:Int))=true:=decide_eq_true (by omega)
theorem bJ1{p q:Nat}(h:¬ p<q):decide ((p:Int)<(q:Int))=false:=decide_eq_false (by omega)
theorem aL8{r:R D}{p q:Bool}(h:r=.ok (.bl p))(e:p=q):r=.ok (.bl q):=by rw[h,e]
theorem vC{st:PSt} (h:f st=.ok (.lst xs)):itE f st=.ok xs:=by rw[bFt,h,aO]
theorem bFy{st:PSt} (h:f st=.ok (.lst ys)) (hs:st[i]?=some (some (.o .l xs))) (hl:xs.length+ys.length<=big):bBf i f st=.ok (.nx (st.set i (some (.o .l (xs++ys))))):=by
 rw[bBl,h,aO];dsimp only;rw[hs];exact aF hl
def good(m:Int)(x:List Nat):Bool:=x.all λc=>decide (97<=c/\(c:Int)<97+m)
theorem aOl{m:Int}{x:List Nat}:good m x=true↔Ltr m x:=by
 unfold good Ltr;simp
theorem aTa{m:Int}(hm:1<=m)(hm3:m<=3){c:Nat}:c∈cut [97,98,99] none (some m)↔97<=c/\(c:Int)<97+m:=by
 have h3:m=1\/m=2\/m=3:=by omega
 rcases h3 with rfl|rfl|rfl
 .show c∈[97]↔_;simp;omega
 .show c∈[97,98]↔_;simp;omega
 .show c∈[97,98,99]↔_;simp;omega
theorem aCx{α:Type}(p:α->Bool):∀x:List α,x.dropWhile p=[]↔∀c∈x,p c=true
 |[]=>by simp
 |a::x=>by
  cases h:p a with
  |true=>rw[List.dropWhile_cons_of_pos h,aCx p x];simp[h]
  |false=>rw[List.dropWhile_cons_of_neg (by simp[h])];simp[h]
theorem takeWhile_all{α:Type}(p:α->Bool):∀(x:List α)(c:α),c∈x.takeWhile p->p c=true
 |[],c,h=>by simp at h
 |a::x,c,h=>by
  cases ha:p a with
  |true=>
   rw[List.takeWhile_cons_of_pos ha]at h;rcases List.mem_cons.mp h with rfl|h
   .exact ha
   .exact takeWhile_all p x c h
  |false=>rw[List.takeWhile_cons_of_neg (by simp[ha])]at h;simp at h
theorem strip_nil(x y:List Nat):vU x y=[]↔∀c∈x,c∈y:=by
 unfold vU;rw[List.reverse_eq_nil_iff,aCx];constructor
 .intro h;have h2:∀c∈x.dropWhile (λc=>y.contains c),c∈y:=λc hc=>by simpa using h c (by simpa using hc)
  have h3:∀c∈x.takeWhile (λc=>y.contains c),c∈y:=λc hc=>by
   simpa using takeWhile_all (λc=>y.contains c) x c hc
  intro c hc;rw[<-List.takeWhile_append_dropWhile (p:=λc=>y.contains c) (l:=x)]at hc
  exact(List.mem_append.mp hc).elim (h3 c) (h2 c)
 .intro h c hc;rw[List.mem_reverse]at hc;have:c∈x:=List.IsSuffix.subset (List.dropWhile_suffix _) hc;simpa using h c this
theorem aR8(x:List Nat)(m:Int)(hm:1<=m)(hm3:m<=3)(h:x.length<=1000000):oE [.str x,.int m]=.ok (.bl (good m x)):=by
 unfold oE aBz;have e:(vU x (cut [97,98,99] none (some m))==[])=good m x:=by
  rw[Bool.eq_iff_iff,beq_iff_eq,strip_nil,aOl];exact⟨λz c hc=>(aTa hm hm3).mp (z c hc),λz c hc=>(aTa hm hm3).mpr (z c hc)⟩
 simp[aXn,show x.length<=big from eN (by omega),e]
theorem aMr(d:D)(m:D)(hs:aXn d=false)(hb:aMk d=true):oE [d,m]=.ok (.bl false):=by
 unfold oE aBz;simp[hs,hb]
def nats(l:List Nat):List D:=l.map λ(x:Nat)=>D.int (x:Int)
structure Mch(S:List (List Nat))(rk:List Nat)(c:Nat):Prop where
 one:1<=S.length
 most:S.length<=8
 c1:1<=c
 c3:c<=3
 row:∀r∈S,r.length=c/\∀x∈r,x<S.length
 rks:rk.length=S.length
def stD(S:List (List Nat)):List D:=S.map λr=>D.lst (nats r)
theorem aMs{tg:Tg}{L:Bd}(P:PSt->Prop):∀(ks:List D),(∀d∈ks,∀st,P st->∃s1 st',tg d st=.ok s1/\L s1=.ok (.nx st')/\P st')->∀st,P st->∃st',P st'/\forR tg L ks st=.ok (.nx st')
 |[],_,st,p=>⟨st,p,rfl⟩
 |d::ks,h,st,p=>by
  obtain⟨s1,st',e1,e2,p'⟩:=h d mem_cons_self st p;obtain⟨st2,p2,e3⟩:=aMs P ks (λd hd=>h d (mem_cons_of_mem _ hd)) st' p'
  refine⟨st2,p2,?_⟩;rw[nZ,e1];simp only[aO,e2];exact e3
theorem aEr{E:Ex}{st:PSt}{v:Nat}{xs:List D}(hv:st[v]?=some (some (.v (.lst xs))))(hl:xs.length<=100000)(h:∀d∈xs,E ((st.set j none).set j (some (.v d)))=.ok (.bl true)):e1 aHg (cY [j] (tgN j) (itE (aB v)) dD E) st=.ok (.bl true):=by
 have e:=aC0 (tg:=tgN j) (c:=dD) (f:=E) (st:=st.set j none) (λ_=>D.bl true) xs λd hd=>⟨_,rfl,rfl,h d hd⟩
 have e2:xs.map (λ_=>D.bl true)=(xs.map λ_=>true).map D.bl:=by simp
 simp[hv,show xs.length<=big from eN (by omega),e]
 rw[e2,<-aOk];exact aY0 rfl λb hb=>by obtain⟨_,_,z⟩:=List.mem_map.mp hb;exact z.symm
theorem aL9{E:Ex}{st:PSt}{v:Nat}{xs:List D}(hv:st[v]?=some (some (.v (.lst xs))))(hl:xs.length<=100000)(h:∀d∈xs,E ((st.set j none).set j (some (.v d)))=.ok d):cY [j] (tgN j) (itE (aB v)) dD E st=.ok (.lst xs):=by
 have e:=aC0 (tg:=tgN j) (c:=dD) (f:=E) (st:=st.set j none) id xs λd hd=>⟨_,rfl,rfl,h d hd⟩
 simp[hv,show xs.length<=big from eN (by omega),e]
theorem aLa(i:Int):qC [.int i]=.ok (.bl true):=by
 unfold qC aDf;simp[isIn,bFn]
theorem aLb{x:Nat}(h:x<n):qD [.int x,.int n]=.ok (.bl true):=by
 have hw:=aLa x;unfold qD aDg;simp[hw,h]
theorem aLc(xs:List D)(m:Int):fM [.lst xs,.int m]=.ok (.bl (decide (1<=(xs.length:Int))&&decide ((xs.length:Int)<=m))):=by
 unfold fM qF
 by_cases h:1<=xs.length
 .have h':(1:Int)<=xs.length:=by omega
  simp[aVi,h,h']
 .have h':¬ (1:Int)<=xs.length:=by omega
  simp[aVi,h,h']
theorem bD(r:List Nat):(nats r).length=r.length:=by unfold nats;simp
theorem oZ(S:List (List Nat)):(stD S).length=S.length:=by unfold stD;simp
theorem aEs{r:List Nat} (h:d∈nats r):∃x∈r,d=.int (x:Nat):=by
 obtain⟨x,h1,h2⟩:=List.mem_map.mp h;exact⟨x,h1,h2.symm⟩
theorem aEt{S:List (List Nat)} (h:d∈stD S):∃r∈S,d=.lst (nats r):=by
 obtain⟨x,h1,h2⟩:=List.mem_map.mp h;exact⟨x,h1,h2.symm⟩
theorem bFz(r:List Nat)(n:Nat)(h:∀x∈r,x<n)(hl:r.length<=1000):aEp [.lst (nats r),.int r.length,.int n]=.ok (.bl true):=by
 have e:=aEr (E:=aDh) (st:=[some (.v (.lst (nats r))),some (.v (.int r.length)),some (.v (.int n)),none]) (j:=3) (v:=0) (xs:=nats r) rfl (by rw[bD];omega) (λd hd=>by
  obtain⟨x,hx,rfl⟩:=aEs hd;have:=h x hx;simp[aDh,aLb this])
 refine bF rfl ?_
 unfold aIm;have h1:e2 dEq (e1 lU (aB 0)) (aB 1) [some (.v (.lst (nats r))),some (.v (.int r.length)),some (.v (.int n)),none]=.ok (.bl true):=by simp[bD]
 show cF _ [some (.v (.lst (nats r))),some (.v (.int r.length)),some (.v (.int n)),none]=_;rw[uT,aSv,h1];show (e1 aHg _ _).bind _=_;rw[e];rfl
def mD(S:List (List Nat))(rk:List Nat)(c:Nat):D:=.ins "Machine" ["steps","ranks","many","letters"] [.lst (stD S),.lst (nats rk),.int S.length,.int c]
section
theorem Mch.row0(M:Mch S rk c):∃r T,S=r::T/\r.length=c:=by
 cases S with
 |nil=>exact absurd M.one (by simp)
 |cons r T=>exact⟨r,T,rfl,(M.row r mem_cons_self).1⟩
theorem Mch.at0(M:Mch S rk c):∃r,r∈S/\atI (stD S) 0=some (.lst (nats r))/\r.length=c:=by
 obtain⟨r,T,rfl,h⟩:=M.row0;refine⟨r,mem_cons_self,?_,h⟩;have:=atI_nat (xs:=stD (r::T)) (i:=0) (by simp[stD])
 simpa [stD] using this
theorem aY2(M:Mch S rk c):vA [.lst (stD S)]=.ok (.bl true):=by
 obtain⟨r0,hr0,e0,l0⟩:=M.at0;have h1:=M.one;have h8:=M.most;have f1:=aLc (stD S) 8;rw[oZ]at f1;have f1':fM [.lst (stD S),.int 8]=.ok (.bl true):=by rw[f1];congr 2;simp;omega
 have a1:=aEr (E:=vY) (st:=[some (.v (.lst (stD S))),none]) (j:=1) (v:=0) (xs:=stD S) rfl (by rw[oZ];omega) (λd hd=>by
  obtain⟨r,hr,rfl⟩:=aEt hd;have f:=aLc (nats r) 3;rw[bD,(M.row r hr).1]at f;have h3:=M.c3;have h0:=M.c1;simp[vY,f];omega)
 have a2:=aEr (E:=vZ) (st:=[some (.v (.lst (stD S))),none]) (j:=1) (v:=0) (xs:=stD S) rfl (by rw[oZ];omega) (λd hd=>by
  obtain⟨r,hr,rfl⟩:=aEt hd;have h3:=M.c3;have f:=bFz r S.length (M.row r hr).2 (by rw[(M.row r hr).1];omega)
  have el:(nats r0).length=r.length:=by rw[bD,l0,(M.row r hr).1]
  simp[vZ,e0,el,oZ,f])
 refine bF rfl ?_
 unfold aAy;refine cV (by simp[f1']) (cV ?_ ?_)
 .rw[aR5,aSw];show ((e1 aHg _ [some (.v (.lst (stD S))),none]).bind _).bind _=_;rw[a1];rfl
 .rw[uT];show (e1 aHg _ [some (.v (.lst (stD S))),none]).bind _=_;rw[a2];rfl
theorem aY3(M:Mch S rk c):vB [.lst (nats rk),.int S.length]=.ok (.bl true):=by
 have h8:=M.most;have a1:=aEr (E:=wA) (st:=[some (.v (.lst (nats rk))),some (.v (.int S.length)),none]) (j:=2) (v:=0) (xs:=nats rk) rfl (by rw[bD,M.rks];omega) (λd hd=>by
  obtain⟨x,hx,rfl⟩:=aEs hd;simp[wA,aLa])
 refine bF rfl ?_
 unfold aAz;refine cV (by simp[aVi,bD,M.rks]) ?_
 rw[uT];show (e1 aHg _ [some (.v (.lst (nats rk))),some (.v (.int S.length)),none]).bind _=_;rw[a1];rfl
theorem aIo:jJ "Machine" "many" (mD S rk c)=.ok (.int S.length):=by unfold mD;rw[aE3,aF rfl];rfl
theorem aOm:jJ "Machine" "letters" (mD S rk c)=.ok (.int c):=by unfold mD;rw[aE3,aF rfl];rfl
theorem qH:jJ "Machine" "steps" (mD S rk c)=.ok (.lst (stD S)):=by unfold mD;rw[aE3,aF rfl];rfl
end
section
theorem aTb(M:Mch S rk c):iG [.lst (stD S),.lst (nats rk)]=.ok (mD S rk c):=by
 obtain⟨r0,hr0,e0,l0⟩:=M.at0;have h8:=M.most;refine bBg λx=>?_
 unfold aL4;rw[aF (show ([D.lst (stD S),D.lst (nats rk)]:List D).length=2 from rfl)]
 have hs:=aY2 M;have hk:=aY3 M;have cp:=aL9 (E:=lG) (st:=[some (.o (.i x "Machine" []) []),some (.v (.lst (stD S))),some (.v (.lst (nats rk))),none]) (j:=3) (v:=1) (xs:=stD S) rfl (by rw[oZ];omega) (λd hd=>by
  obtain⟨r,hr,rfl⟩:=aEt hd;simp[lG])
 have key:iD [some (.o (.i x "Machine" []) []),some (.v (.lst (stD S))),some (.v (.lst (nats rk))),none]=.ok (.nx [some (.o (.i x "Machine" ["steps","ranks","many","letters"]) [.lst (stD S),.lst (nats rk),.int S.length,.int c]),some (.v (.lst (stD S))),some (.v (.lst (nats rk))),none]):=by
  unfold iD;refine cV (by simp[hs]) (cV (by simp[oZ,hk]) ?_)
  refine aG (st':=[some (.o (.i x "Machine" ["steps"]) [.lst (stD S)]),some (.v (.lst (stD S))),some (.v (.lst (nats rk))),none]) ?_ ?_
  .rw[aXv,cp];simp
  refine aG (st':=[some (.o (.i x "Machine" ["steps","ranks"]) [.lst (stD S),.lst (nats rk)]),some (.v (.lst (stD S))),some (.v (.lst (nats rk))),none]) (by simp) ?_
  refine aG (st':=[some (.o (.i x "Machine" ["steps","ranks","many"]) [.lst (stD S),.lst (nats rk),.int S.length]),some (.v (.lst (stD S))),some (.v (.lst (nats rk))),none]) (by simp[oZ]) ?_
  simp[e0,bD,l0]
 show (iD [some (.o (.i x "Machine" []) []),some (.v (.lst (stD S))),some (.v (.lst (nats rk))),none]).bind _=_;rw[key];simp[mD]
end
theorem aG1(x:Nat)(l:List Nat):nats (x::l)=.int (x:Nat)::nats l:=rfl
theorem aY4(r:List Nat)(S:List (List Nat)):stD (r::S)=.lst (nats r)::stD S:=rfl
theorem gD:∀l:List Nat,fW (nats l)=true/\mQ (nats l)=0/\jP (nats l) (nats l)=true
 |[]=>⟨rfl,by unfold nats;simp,by unfold nats;simp[jP]⟩
 |x::l=>by
  obtain⟨h1,h2,h3⟩:=gD l;rw[aG1];refine⟨by simp[h1],by simp[h2],?_⟩
  unfold jP;rw[h3];simp
theorem aLd:∀S:List (List Nat),fW (stD S)=true/\mQ (stD S)<=1/\jP (stD S) (stD S)=true
 |[]=>⟨rfl,by unfold stD;simp,by unfold stD;simp[jP]⟩
 |r::S=>by
  obtain⟨h1,h2,h3⟩:=aLd S;obtain⟨k1,k2,k3⟩:=gD r;have kd:dep (.lst (nats r))=1:=by unfold dep;rw[k2]
  have ke:eqD (.lst (nats r)) (.lst (nats r))=true:=by(conv=>lhs;unfold eqD);exact k3
  have kp:plain (.lst (nats r))=true:=by(conv=>lhs;unfold plain);exact k1
  rw[aY4];refine⟨by rw[lA,kp,h1];rfl,by rw[aBy,kd];omega,?_⟩
  conv=>lhs;unfold jP
  rw[ke,h3];rfl
theorem bBn(l:List Nat):dNe (.lst (nats l)) (.lst (nats l))=.ok (.bl false)/\dEq (.lst (nats l)) (.lst (nats l))=.ok (.bl true):=by
 obtain⟨k1,k2,k3⟩:=gD l;have kd:dep (.lst (nats l))=1:=by unfold dep;rw[k2]
 have ke:eqD (.lst (nats l)) (.lst (nats l))=true:=by(conv=>lhs;unfold eqD);exact k3
 have kp:plain (.lst (nats l))=true:=by(conv=>lhs;unfold plain);exact k1
 rw[aMm,aR6,aF ⟨by omega,kp,kp⟩,aF ⟨by omega,kp,kp⟩,ke]
 exact⟨rfl,rfl⟩
theorem bG0(S:List (List Nat)):dNe (.lst (stD S)) (.lst (stD S))=.ok (.bl false)/\dEq (.lst (stD S)) (.lst (stD S))=.ok (.bl true):=by
 obtain⟨k1,k2,k3⟩:=aLd S;have kd:dep (.lst (stD S))<=2:=by unfold dep;omega
 have ke:eqD (.lst (stD S)) (.lst (stD S))=true:=by(conv=>lhs;unfold eqD);exact k3
 have kp:plain (.lst (stD S))=true:=by(conv=>lhs;unfold plain);exact k1
 rw[aMm,aR6,aF ⟨by omega,kp,kp⟩,aF ⟨by omega,kp,kp⟩,ke]
 exact⟨rfl,rfl⟩
section
variable{S:List (List Nat)}{rk:List Nat}{c:Nat}
def stp(S:List (List Nat))(q a:Nat):Nat:=(S.getD q []).getD a 0
theorem aIp(M:Mch S rk c){q a:Nat}(hq:q<S.length)(ha:a<c):∃r,atI (stD S) (q:Int)=some (.lst (nats r))/\atI (nats r) (a:Int)=some (.int (stp S q a))/\stp S q a<S.length:=by
 have hr:=M.row S[q] (List.getElem_mem hq);have ha':a<S[q].length:=by rw[hr.1];exact ha
 have e:stp S q a=S[q][a]:=by
  simp[stp,getD_eq_getElem?_getD,List.getElem?_eq_getElem hq,List.getElem?_eq_getElem ha']
 refine⟨S[q],?_,?_,?_⟩
 .rw[atI_nat (by rw[oZ];exact hq)];simp[stD]
 .rw[atI_nat (by rw[bD];exact ha'),e];simp[nats]
 .rw[e];exact hr.2 _ (List.getElem_mem ha')
theorem aOn(h:m<=3){ch:Nat}(h1:97<=ch)(h2:(ch:Int)<97+m):kY [97,98,99] [ch] 0=some (ch-97):=by
 have:ch=97\/ch=98\/ch=99:=by omega
 rcases this with rfl|rfl|rfl<;>rfl
theorem aTc(M:Mch S rk c){q ch:Nat}(hq:q<S.length)(h1:97<=ch)(h2:(ch:Int)<97+c):∃r,atI (stD S) (q:Int)=some (.lst (nats r))/\atI (nats r) (((ch-97:Nat)):Int)=some (.int (stp S q (ch-97)))/\stp S q (ch-97)<S.length:=aIp M hq (by omega)
def runs(S:List (List Nat)):Nat->List Nat->List Nat
 |_,[]=>[]
 |q,ch::x=>stp S q (ch-97)::runs S (stp S q (ch-97)) x
def dZ(S:List (List Nat)):Nat->List Nat->Nat
 |q,[]=>q
 |q,ch::x=>dZ S (stp S q (ch-97)) x
end
theorem lH:∀(n:Nat)(l:List Nat),l.Nodup->(∀x∈l,x<n)->l.length<=n
 |0,l,_,h=>by
  cases l with
  |nil=>exact Nat.le_refl _
  |cons x l=>exact absurd (h x mem_cons_self) (by omega)
 |n+1,l,nd,h=>by
  have ih:=lH n (l.erase n) (nd.erase n) λx hx=>by
   have h1:=h x (List.mem_of_mem_erase hx);have h2:x≠n:=λe=>((nd.mem_erase_iff).mp hx).1 e
   omega
  by_cases hm:n∈l
  .rw[List.length_erase_of_mem hm]at ih;omega
  .rw[List.erase_of_not_mem hm]at ih;omega
theorem aHr(g:Nat)(l:List Nat):inD (.int g) (nats l)=decide (g∈l):=by
 unfold inD nats;rw[List.any_map]
 by_cases h:g∈l
 .rw[decide_eq_true h,List.any_eq_true];exact⟨g,h,by simp[eqD]⟩
 .rw[decide_eq_false h,List.any_eq_false];intro x hx
  have : ¬ (x : Int) = (g : Int) := fun z => h (by have : x = g := by omega
                                                   rw[<-this];exact hx)
  simp[eqD,this]
theorem aIq{q:Nat}(hq:q<S.length):atI (stD S) (q:Int)=some (.lst (nats S[q])):=by
 rw[atI_nat (by rw[oZ];exact hq)]
 unfold stD;rw[List.getElem_map]
section
variable{S:List (List Nat)}{rk:List Nat}{c:Nat}
theorem aIr{m:String} {st:PSt} (hf:f st=.ok (mD S rk c)) (hr:r st=.ok xs) (hm:m∉["steps","ranks","many","letters"]):dY "Machine" m p dv f r st=p (mD S rk c::(xs++dv)):=by
 rw[aE4,hf,hr];exact aF ⟨rfl,hm⟩
def bJ2(c:Nat):D->Bool
 |.str x=>good c x
 |_=>false
theorem aY5(M:Mch S rk c)(d:D)(hb:aMk d=true)(hl:∀x,d=.str x->x.length<=1000000):oE [d,.int c]=.ok (.bl (bJ2 c d)):=by
 have h1:=M.c1;have h3:=M.c3;cases d<;>first|(exact aMr _ _ rfl hb)|skip
 exact aR8 _ _ (by omega) (by omega) (hl _ rfl)
theorem aIs(M:Mch S rk c)(a t:Option Sl)(ha:a=some (.v (mD S rk c))):∀(x:List Nat)(q:Nat)(acc:List Nat)(l:Option Sl),q<S.length->Ltr c x->acc.length+x.length<=1000000->∃l',forR (tgN 4) jD (x.map λch=>D.str [ch]) [a,some (.v (.int q)),t,some (.o .l (nats acc)),l] =
  .ok (.nx [a,some (.v (.int (dZ S q x))),t,some (.o .l (nats (acc++runs S q x))),l'])
 |[],q,acc,l,_,_,_=>⟨l,by simp[dZ,runs]⟩
 |ch::x,q,acc,l,h,hx,hl=>by
  rw[length_cons]at hl;obtain⟨h1,h2⟩:=hx ch mem_cons_self;obtain⟨r,e1,e2,h3⟩:=aTc M h h1 h2;obtain⟨l',e⟩:=aIs M a t ha x (stp S q (ch-97)) (acc++[stp S q (ch-97)]) (some (.v (.str [ch]))) h3 (λz hz=>hx z (mem_cons_of_mem _ hz)) (by rw[length_append,length_singleton];omega)
  refine⟨l',?_⟩;have f:=aOn M.c3 h1 h2;have en:nats (acc++[stp S q (ch-97)])=nats acc++[D.int (stp S q (ch-97))]:=by unfold nats;simp
  rw[en]at e;rw[map_cons,nZ,show runs S q (ch::x)=stp S q (ch-97)::runs S (stp S q (ch-97)) x from rfl,show acc++stp S q (ch-97)::runs S (stp S q (ch-97)) x=acc++[stp S q (ch-97)]++runs S (stp S q (ch-97)) x by simp,show dZ S q (ch::x)=dZ S (stp S q (ch-97)) x from rfl,<-e]
  subst ha;simp[jD,qH,e1,f,e2,bD,show acc.length<big from aMj (by omega)]
theorem aOo(M:Mch S rk c){q:Nat}(hq:q<S.length)(x:List Nat)(hx:Ltr c x)(hl:x.length<=500000):cT [mD S rk c,.int q,.str x]=.ok (.lst (nats (q::runs S q x))):=by
 obtain⟨l',e⟩:=aIs M _ (some (.v (.str x))) rfl x q [q] none hq hx (by simp;omega)
 refine bF rfl ?_
 have hb:eO [some (.v (mD S rk c)),some (.v (.int q)),some (.v (.str x)),none,none]=.ok (.nx [some (.v (mD S rk c)),some (.v (.int (dZ S q x))),some (.v (.str x)),some (.o .l (nats ([q]++runs S q x))),l']):=by
  unfold eO;refine aG (st':=[some (.v (mD S rk c)),some (.v (.int q)),some (.v (.str x)),some (.o .l (nats [q])),none]) (by simp[nats]) (aG (by
   simp[show x.length<=big from eN (by omega)]
   exact e) rfl)
 show aE7 eO 3 [some (.v (mD S rk c)),some (.v (.int q)),some (.v (.str x)),none,none]=_;unfold aE7;rw[hb];rfl
theorem aC1:∀(x:List Nat)(q:Nat),(q::runs S q x).getLast?=some (dZ S q x)
 |[],q=>rfl
 |ch::x,q=>by
  have:=aC1 x (stp S q (ch-97));rw[show runs S q (ch::x)=stp S q (ch-97)::runs S (stp S q (ch-97)) x from rfl,List.getLast?_cons_cons,this]
  rfl
theorem atI_last{xs:List α}{a:α}(h:xs.getLast?=some a):atI xs (-1)=some a:=by
 have h0:xs≠[]:=λz=>by rw[z]at h;cases h
 have hp:0<xs.length:=List.length_pos_iff.mpr h0;rw[List.getLast?_eq_getElem?]at h;unfold atI ixN;rw[if_neg (by decide),if_pos (by omega)]
 show xs[((-1:Int)+(xs.length:Int)).toNat]?=some a;rw[show ((-1:Int)+(xs.length:Int)).toNat=xs.length-1 by omega]
 exact h
theorem aG2{r:List Nat}{a:Nat}(h:r.getLast?=some a):(nats r).getLast?=some (.int a):=by
 unfold nats;rw[List.getLast?_map,h];rfl
end
def slB(u v:List Nat):Prop:=u.length<v.length\/(u.length=v.length/\u<v)
theorem aY6:∀{u v:List Nat}(a b:Nat),u.length=v.length->u<v->u++[a] < v++[b]
 |[],[],_,_,_,h=>absurd h (List.lt_irrefl _)
 |[],_::_,_,_,h,_=>by simp at h
 |_::_,[],_,_,h,_=>by simp at h
 |x::u,y::v,a,b,h,h2=>by
  rw[cons_append,cons_append,List.cons_lt_cons_iff];rcases List.cons_lt_cons_iff.mp h2 with h3|⟨h3,h4⟩
  .exact .inl h3
  .exact .inr ⟨h3,aY6 a b (by simpa using h) h4⟩
theorem aTd:∀(u:List Nat){a b:Nat},a<b->u++[a] < u++[b]
 |[],a,b,h=>by
  show [a] < [b];rw[List.cons_lt_cons_iff];exact .inl h
 |x::u,a,b,h=>by
  rw[cons_append,cons_append,List.cons_lt_cons_iff];exact .inr ⟨rfl,aTd u h⟩
theorem aTe{v:List Nat}(a b:Nat)(h:slB u v):slB (u++[a]) (v++[b]):=by
 rcases h with h|⟨h1,h2⟩
 .exact .inl (by rw[length_append,length_append];simpa using h)
 .exact .inr ⟨by rw[length_append,length_append,h1];rfl,aY6 a b h1 h2⟩
theorem aY7(u:List Nat){a b:Nat}(h:a<b):slB (u++[a]) (u++[b]):=.inr ⟨by simp,aTd u h⟩
theorem bBo(u:List Nat)(a:Nat):slB [] (u++[a]):=.inl (by simp)
theorem aC2(S:List (List Nat)):∀(x:List Nat)(q ch:Nat),dZ S q (x++[ch])=stp S (dZ S q x) (ch-97)
 |[],_,_=>rfl
 |y::x,q,ch=>aC2 S x _ ch
def bst(al:Nat->Bool)(acc:List (Nat×List Nat))(g:Nat)(w:List Nat):List (Nat×List Nat):=if al g=true/\g∉acc.map (·.1) then acc++[(g,w)] else acc
structure BM(S:List (List Nat))(s c:Nat)(al:Nat->Bool)(p j:Nat)(acc:List (Nat×List Nat)):Prop where
 nd:(acc.map (·.1)).Nodup
 hd:acc[0]?=some (s,[])
 lt:∀x∈acc,x.1<S.length/\dZ S s x.2=x.1/\Ltr c x.2
 par:∀(k:Nat)(x:Nat×List Nat),acc[k]?=some x->1<=k->al x.1=true/\∃q y ch,acc[q]?=some y/\x.2=y.2++[ch]/\(q<p\/(q=p/\ch<97+j))
 ord:∀(i k:Nat)(x y:Nat×List Nat),acc[i]?=some x->acc[k]?=some y->i<k->slB x.2 y.2
 cls:∀(i:Nat)(x:Nat×List Nat)(l:Nat),acc[i]?=some x->l<c->(i<p\/(i=p/\l<j))->al (stp S x.1 l)=true->∃y∈acc,y.1=stp S x.1 l/\(y.2=x.2++[97+l]\/slB y.2 (x.2++[97+l]))
section
variable{S:List (List Nat)}{rk:List Nat}{s c p j:Nat}{al:Nat->Bool}{acc:List (Nat×List Nat)}
theorem BM.start(hs:s<S.length):BM S s c al 0 0 [(s,[])] where
 nd:=by simp
 hd:=rfl
 lt:=λx hx=>by rw[List.mem_singleton.mp hx];exact⟨hs,rfl,λ_ h=>nomatch h⟩
 par:=λk x e h=>by
  have:k<1:=(List.getElem?_eq_some_iff.mp e).1;omega
 ord:=λi k x y e1 e2 h=>by
  have:k<1:=(List.getElem?_eq_some_iff.mp e2).1;omega
 cls:=λi x l _ _ h=>by omega
theorem BM.next(b:BM S s c al p c acc):BM S s c al (p+1) 0 acc where
 nd:=b.nd
 hd:=b.hd
 lt:=b.lt
 par:=λk x e h=>by
  obtain⟨h0,q,y,ch,h1,h2,h3⟩:=b.par k x e h;exact⟨h0,q,y,ch,h1,h2,.inl (by omega)⟩
 ord:=b.ord
 cls:=λi x l e hl h ha=>b.cls i x l e hl (by omega) ha
theorem BM.below(b:BM S s c al p j acc){x y:Nat×List Nat}{k:Nat}(hx:acc[p]?=some x)(hy:acc[k]?=some y):slB y.2 (x.2++[97+j]):=by
 by_cases hk:k=0
 .subst hk;rw[b.hd]at hy;cases hy;exact bBo _ _
 .obtain⟨_,q,z,ch,h1,h2,h3⟩:=b.par k y hy (by omega)
  rw[h2];rcases h3 with h3|⟨rfl,h3⟩
  .exact aTe _ _ (b.ord q p z x h1 hx h3)
  .rw[hx]at h1;cases h1;exact aY7 _ h3
theorem BM.turn(M:Mch S rk c)(b:BM S s c al p j acc){x:Nat×List Nat}(hx:acc[p]?=some x)(hj:j<c):BM S s c al p (j+1) (bst al acc (stp S x.1 j) (x.2++[97+j])):=by
 have hxm:x∈acc:=List.mem_of_getElem? hx;obtain⟨x1,x2,x3⟩:=b.lt x hxm;have hg:stp S x.1 j<S.length:=by obtain⟨_,_,_,h⟩:=aIp M x1 hj;exact h
 unfold bst
 by_cases hc:al (stp S x.1 j)=true/\stp S x.1 j∉acc.map (·.1)
 .rw[if_pos hc];have old:∀{k:Nat}{y:Nat×List Nat},acc[k]?=some y->(acc++[(stp S x.1 j,x.2++[97+j])])[k]?=some y:=λ{k y} e=>by
   rw[List.getElem?_append_left (List.getElem?_eq_some_iff.mp e).1];exact e
  have inv:∀{k:Nat}{y:Nat×List Nat},(acc++[(stp S x.1 j,x.2++[97+j])])[k]?=some y->acc[k]?=some y\/(k=acc.length/\y=(stp S x.1 j,x.2++[97+j])):=λ{k y} e=>by
   by_cases hk:k<acc.length
   .rw[List.getElem?_append_left hk]at e;exact .inl e
   .have hlt:=(List.getElem?_eq_some_iff.mp e).1;rw[length_append,length_singleton]at hlt;have:k=acc.length:=by omega
    subst this;rw[List.getElem?_append_right (Nat.le_refl _),Nat.sub_self]at e;simp at e;exact .inr ⟨rfl,e.symm⟩
  have lt_of:∀{k:Nat}{y:Nat×List Nat},acc[k]?=some y->k<acc.length:=λe=>(List.getElem?_eq_some_iff.mp e).1
  refine⟨?_,old b.hd,λy hy=>?_,λk y e h=>?_,λi k y z e1 e2 h=>?_,λi y l e hl h ha=>?_⟩
  .rw[List.map_append,List.nodup_append];refine⟨b.nd,by simp,λa ha b' hb=>?_⟩
   rw[List.map_singleton,List.mem_singleton]at hb;rw[hb];show a≠stp S x.1 j;exact λz=>hc.2 (by rw[<-z];exact ha)
  .rcases List.mem_append.mp hy with hy|hy
   .exact b.lt y hy
   .rw[List.mem_singleton.mp hy];refine⟨hg,?_,λch hch=>?_⟩
    .show dZ S s (x.2++[97+j])=_;rw[aC2,x2,show 97+j-97=j by omega]
    .rcases List.mem_append.mp hch with h|h
     .exact x3 ch h
     .rw[List.mem_singleton.mp h];constructor<;>omega
  .rcases inv e with e|⟨rfl,rfl⟩
   .obtain⟨h0,q,z,ch,h1,h2,h3⟩:=b.par k y e h;exact⟨h0,q,z,ch,old h1,h2,h3.imp id λh=>⟨h.1,by omega⟩⟩
   .exact⟨hc.1,p,x,97+j,old hx,rfl,.inr ⟨rfl,by omega⟩⟩
  .rcases inv e2 with e2|⟨rfl,rfl⟩
   .rcases inv e1 with e1|⟨rfl,_⟩
    .exact b.ord i k y z e1 e2 h
    .have:=lt_of e2;omega
   .rcases inv e1 with e1|⟨rfl,_⟩
    .exact b.below hx e1
    .omega
  .rcases inv e with e'|⟨rfl,rfl⟩
   .by_cases hip:i=p/\l=j
    .obtain⟨rfl,rfl⟩:=hip;rw[hx]at e';cases e';exact⟨_,List.mem_append_right _ (List.mem_singleton.mpr rfl),rfl,.inl rfl⟩
    .obtain⟨z,h1,h2⟩:=b.cls i y l e' hl (by omega) ha
     exact⟨z,List.mem_append_left _ h1,h2⟩
   .have:=lt_of hx;omega
 .rw[if_neg hc];refine⟨b.nd,b.hd,b.lt,λk y e h=>?_,b.ord,λi y l e hl h ha=>?_⟩
  .obtain⟨h0,q,z,ch,h1,h2,h3⟩:=b.par k y e h;exact⟨h0,q,z,ch,h1,h2,h3.imp id λh=>⟨h.1,by omega⟩⟩
  .by_cases hip:i=p/\l=j
   .obtain⟨rfl,rfl⟩:=hip;rw[hx]at e;cases e;have hm:stp S x.1 l∈acc.map (·.1):=Classical.byContradiction λz=>hc ⟨ha,z⟩
    obtain⟨y,hy,ey⟩:=List.mem_map.mp hm;obtain⟨k,hk⟩:=List.mem_iff_getElem?.mp hy;exact⟨y,hy,ey,.inr (b.below hx hk)⟩
   .exact b.cls i y l e hl (by omega) ha
theorem BM.len(b:BM S s c al p j acc):acc.length<=S.length:=by
 have h:=b.nd;have hsub:∀x∈acc.map (·.1),x∈List.range S.length:=λx hx=>by
  obtain⟨y,hy,rfl⟩:=List.mem_map.mp hx;exact List.mem_range.mpr (b.lt y hy).1
 have:=lH S.length (acc.map (·.1)) h λx hx=>List.mem_range.mp (hsub x hx)
 rwa [length_map]at this
def kD(acc:List (Nat×List Nat)):List D:=acc.map λx=>D.int (x.1:Nat)
theorem aMt(acc:List (Nat×List Nat)):(kD acc).length=acc.length:=by unfold kD;simp
theorem aY8(acc:List (Nat×List Nat))(g:Nat)(w:List Nat):kD (acc++[(g,w)])=kD acc++[.int g]:=by unfold kD;simp
theorem bJ3{k:Nat}{x:Nat×List Nat}(h:acc[k]?=some x):atI (kD acc) (k:Int)=some (.int x.1):=by
 have hk:=(List.getElem?_eq_some_iff.mp h).1;rw[atI_nat (by rw[aMt];exact hk)]
 unfold kD;rw[List.getElem_map,(List.getElem?_eq_some_iff.mp h).2]
theorem bG1{g:Nat}{w:List Nat}{k:Nat}{x:Nat×List Nat}(h:acc[k]?=some x):(bst al acc g w)[k]?=some x:=by
 unfold bst;split
 .rw[List.getElem?_append_left (List.getElem?_eq_some_iff.mp h).1];exact h
 .exact h
theorem aR9(g:Nat)(acc:List (Nat×List Nat)):xV (kD acc) (.int g)=decide (g∈acc.map (·.1)):=by
 unfold xV kD;rw[List.any_map]
 by_cases h:g∈acc.map (·.1)
 .rw[decide_eq_true h,List.any_eq_true];obtain⟨x,hx,e⟩:=List.mem_map.mp h;exact⟨x,hx,by simp[eqK,e]⟩
 .rw[decide_eq_false h,List.any_eq_false];intro x hx;have:¬ (x.1:Int)=(g:Int):=λz=>h (List.mem_map.mpr ⟨x,hx,by omega⟩)
  simp[eqK,this]
end
def wD(acc:List (Nat×List Nat)):List D:=acc.map λx=>D.str x.2
theorem aY9(nd:(acc.map (·.1)).Nodup){x:Nat×List Nat}(hx:x∈acc):aAf (kD acc) (wD acc) (.int x.1)=some (.str x.2):=by
 unfold aAf kD wD;rw[List.zip_map',List.find?_map];have:acc.find? ((λp:D×D=>eqK p.1 (.int x.1)) ∘ λa=>(D.int (a.1:Nat),D.str a.2))=some x:=by
  induction acc with
  |nil=>cases hx
  |cons y acc ih=>
   rw[List.find?_cons];rw[map_cons,List.nodup_cons]at nd;rcases List.mem_cons.mp hx with rfl|hx
   .simp[eqK]
   .have:¬ (y.1:Int)=(x.1:Int):=λz=>nd.1 (List.mem_map.mpr ⟨x,hx,by omega⟩)
    simp only[Function.comp,eqK,beq_eq_false_iff_ne.mpr this];exact ih nd.2 hx
 rw[this];rfl
section
variable{S:List (List Nat)}{rk:List Nat}{s c p j:Nat}{al:Nat->Bool}{acc:List (Nat×List Nat)}
theorem BM.wlen(b:BM S s c al p j acc):∀(k:Nat)(x:Nat×List Nat),acc[k]?=some x->x.2.length<=k:=by
 intro k
 induction k using Nat.strongRecOn with
 |ind k ih=>
  intro x hx
  by_cases hk:k=0
  .subst hk;rw[b.hd]at hx;cases hx;exact Nat.le_refl _
  .obtain⟨_,q,y,ch,h1,h2,_⟩:=b.par k x hx (by omega)
   have hl:x.2.length=y.2.length+1:=by rw[h2];simp
   have hq:q<k:=by
    rcases Nat.lt_trichotomy q k with h|h|h
    .exact h
    .subst h;rw[hx]at h1;cases h1;omega
    .rcases b.ord k q x y hx h1 h with h3|⟨h3,_⟩ <;> omega
   have:=ih q hq y h1;omega
def wst(S:List (List Nat))(s:Nat)(als:List Nat)(acc:List (Nat×List Nat))(p:Nat)(x6 x7 x8:Option Sl):PSt:=
 [some (.v (.lst (stD S))),some (.v (.int s)),some (.v (.lst (nats als))),some (.o (.d false (kD acc)) (wD acc)),some (.o .l (kD acc)),some (.v (.int p)),x6,x7,x8]
theorem bG2(acc:List (Nat×List Nat)):(wD acc).length=acc.length:=by unfold wD;simp
theorem bG3(acc:List (Nat×List Nat))(g:Nat)(w:List Nat):wD (acc++[(g,w)])=wD acc++[.str w]:=by unfold wD;simp
theorem aVl(M:Mch S rk c)(als:List Nat)(b:BM S s c (λg=>decide (g∈als)) p j acc){x:Nat×List Nat}(hx:acc[p]?=some x)(ch g:Nat) :
  qU (wst S s als acc p (some (.v (.int x.1))) (some (.v (.str [ch]))) (some (.v (.int g))))=.ok (.nx (wst S s als (bst (λg=>decide (g∈als)) acc g (x.2++[ch])) p (some (.v (.int x.1))) (some (.v (.str [ch]))) (some (.v (.int g))))):=by
 have n8:=M.most;have hlen:=b.len;have hw:=b.wlen p x hx;have hp:p<acc.length:=(List.getElem?_eq_some_iff.mp hx).1;obtain⟨p1,p2,_⟩:=gD als;have t1:e2 dIn (aB 8) (aB 2) (wst S s als acc p (some (.v (.int x.1))) (some (.v (.str [ch]))) (some (.v (.int g))))=.ok (.bl (decide (g∈als))):=aK rfl rfl (by rw[<-aHr];exact aF ⟨by rw[p2];decide,rfl,p1⟩)
 have t2:e2 aAh (aB 8) (kZ 3) (wst S s als acc p (some (.v (.int x.1))) (some (.v (.str [ch]))) (some (.v (.int g))))=.ok (.bl (!decide (g∈acc.map (·.1)))):=aK rfl rfl (by rw[<-aR9];exact aF rfl)
 have t:=nQ t1 λ_=>t2
 unfold bst
 by_cases h:decide (g∈als)=true/\g∉acc.map (·.1)
 .rw[if_pos h];rw[h.1,decide_eq_false h.2]at t;have hk:xV (kD acc) (.int g)=false:=by rw[aR9,decide_eq_false h.2]
  have ek:zK (kD acc) (.int g)=kD (acc++[(g,x.2++[ch])]):=by
   unfold zK;rw[hk,aY8];rfl
  have ev:aCn (kD acc) (wD acc) (.int g) (.str (x.2++[ch]))=wD (acc++[(g,x.2++[ch])]):=by
   unfold aCn;rw[hk,bG3];rfl
  refine rM t (aG (st':=[some (.v (.lst (stD S))),some (.v (.int s)),some (.v (.lst (nats als))),some (.o (.d false (kD (acc++[(g,x.2++[ch])]))) (wD (acc++[(g,x.2++[ch])]))),some (.o .l (kD acc)),some (.v (.int p)),some (.v (.int x.1)),some (.v (.str [ch])),some (.v (.int g))]) ?_ ?_)
  .have e:e2 oG (e2 dIx (kZ 3) (aB 6)) (aB 7) (wst S s als acc p (some (.v (.int x.1))) (some (.v (.str [ch]))) (some (.v (.int g))))=.ok (.str (x.2++[ch])):=by
    refine aK (x:=.str x.2) (y:=.str [ch]) (aK rfl rfl ?_) rfl (aF (eN (by show x.2.length+1<=_;omega)))
    show aY (keyOk false (.int x.1)=true) (ofO (aAf (kD acc) (wD acc) (.int x.1)))=_;rw[aF (c:=keyOk false (.int x.1)=true) rfl,aY9 b.nd (List.mem_of_getElem? hx)];rfl
   unfold sDPut;rw[e,<-ek,<-ev];exact aF ⟨rfl,aMj (by rw[bG2];omega)⟩
  .rw[wB (xs:=kD acc) (d:=.int g) rfl rfl (by rw[aMt];omega),<-aY8 acc g (x.2++[ch])]
   rfl
 .rw[if_neg h];refine gY (aL8 t ?_) rfl;cases h1:decide (g∈als) with
  |false=>rfl
  |true=>rw[decide_eq_true (Classical.byContradiction λz=>h ⟨h1,z⟩)];rfl
theorem aIt(M:Mch S rk c)(als:List Nat):∀(m j:Nat) (acc:List (Nat×List Nat)) (x7 x8:Option Sl) (x:Nat×List Nat),j+m=c->BM S s c (λg=>decide (g∈als)) p j acc->acc[p]?=some x->
  ∃acc' x7' x8',forR (tgT [7,8]) qU ((List.range' j m).map λl=>D.tup [.str [97+l],.int (stp S x.1 l)]) (wst S s als acc p (some (.v (.int x.1))) x7 x8)=.ok (.nx (wst S s als acc' p (some (.v (.int x.1))) x7' x8'))/\BM S s c (λg=>decide (g∈als)) p c acc'/\acc'[p]?=some x
 |0,j,acc,x7,x8,x,hj,b,hx=>⟨acc,x7,x8,rfl,by rw[show c=j by omega]at b ⊢; exact b,hx⟩
 |m+1,j,acc,x7,x8,x,hj,b,hx=>by
  obtain⟨acc',x7',x8',e,b',hx'⟩:=aIt M als m (j+1) _ (some (.v (.str [97+j]))) (some (.v (.int (stp S x.1 j)))) x (by omega) (b.turn M hx (by omega)) (bG1 hx)
  refine⟨acc',x7',x8',?_,b',hx'⟩;rw[List.range'_succ,map_cons,nZ];show (qU (wst S s als acc p (some (.v (.int x.1))) (some (.v (.str [97+j]))) (some (.v (.int (stp S x.1 j)))))).bind _=_;rw[aVl M als b hx];exact e
theorem bBp(M:Mch S rk c){h:Nat}(hh:h<S.length):aE8 [97,98,99] (nats S[h])=(List.range' 0 c).map λl=>D.tup [.str [97+l],.int (stp S h l)]:=by
 have hr:=(M.row S[h] (List.getElem_mem hh)).1;have e:∀l,stp S h l=S[h].getD l 0:=λl=>by simp[stp,getD_eq_getElem?_getD,List.getElem?_eq_getElem hh]
 have h1:=M.c1;have h3:=M.c3;simp only[e];generalize S[h]=r at hr
 match r,hr with
 |[],hr=>simp at hr;omega
 |[a],hr=>subst hr;rfl
 |[a,b],hr=>subst hr;rfl
 |[a,b,d],hr=>subst hr;rfl
 |_::_::_::_::r,hr=>simp at hr;omega
theorem aIu(M:Mch S rk c)(als:List Nat):∀(m p:Nat) (acc:List (Nat×List Nat)) (x6 x7 x8:Option Sl) (f:Nat),S.length+1<=m+p->m<=f->BM S s c (λg=>decide (g∈als)) p 0 acc->p<=acc.length->
  ∃acc' x6' x7' x8',nJ vX aCr f (wst S s als acc p x6 x7 x8)=.ok (.nx (wst S s als acc' acc'.length x6' x7' x8'))/\BM S s c (λg=>decide (g∈als)) acc'.length 0 acc'
 |0,p,acc,x6,x7,x8,f,hm,hf,b,hp=>by have:=b.len;omega
 |m+1,p,acc,x6,x7,x8,f,hm,hf,b,hp=>by
  obtain⟨f,rfl⟩:∃g,f=g+1:=⟨f-1,by omega⟩
  have test:vX (wst S s als acc p x6 x7 x8)=.ok (.bl (decide ((p:Int)<((kD acc).length:Nat)))):=aK rfl rfl rfl;rw[aMt]at test
  by_cases h:p<acc.length
  .have hx:acc[p]?=some acc[p]:=List.getElem?_eq_getElem h;generalize acc[p]=x at hx;obtain⟨l1,_,_⟩:=b.lt x (List.mem_of_getElem? hx);obtain⟨acc',x7',x8',e,b',hx'⟩:=aIt M als c 0 acc x7 x8 x (by omega) b hx
   have hp':p<acc'.length:=(List.getElem?_eq_some_iff.mp hx').1;obtain⟨acc2,y6,y7,y8,ew,b3⟩:=aIu M als m (p+1) acc' (some (.v (.int x.1))) x7' x8' f (by omega) (by omega) b'.next (by omega)
   refine⟨acc2,y6,y7,y8,aB2 (aL8 test (bJ0 h)) (st':=wst S s als acc' (p+1) (some (.v (.int x.1))) x7' x8') ?_ ew,b3⟩;refine aG (st':=wst S s als acc p (some (.v (.int x.1))) x7 x8) (bC (aK rfl rfl (fY (bJ3 hx)))) (aG (st':=wst S s als acc' p (some (.v (.int x.1))) x7' x8') (fJ (xs:=aE8 [97,98,99] (nats S[x.1])) ?_ ?_) (bC rfl))
   .show ((e2 dIx (aB 0) (aB 6)) (wst S s als acc p (some (.v (.int x.1))) x7 x8)).bind _=_;rw[aK (rfl:aB 0 (wst S s als acc p (some (.v (.int x.1))) x7 x8)=.ok (.lst (stD S))) rfl (fY (aIq l1))];rfl
   .rw[bBp M l1];exact e
  .have:p=acc.length:=by omega
   subst this;exact⟨acc,x6,x7,x8,wW (aL8 test (bJ1 h)),b⟩
theorem aTf(M:Mch S rk c){s:Nat}(hs:s<S.length)(als:List Nat):∃acc,lE [.lst (stD S),.int s,.lst (nats als)]=.ok (.dct false (kD acc) (wD acc))/\BM S s c (λg=>decide (g∈als)) acc.length 0 acc:=by
 have n8:=M.most;obtain⟨acc,x6,x7,x8,e,b⟩:=aIu M als (S.length+1) 0 [(s,[])] none none none 100000 (by omega) (by omega) (BM.start hs) (by simp)
 refine⟨acc,bF rfl ?_,b⟩;unfold aAw;refine aG (st':=[some (.v (.lst (stD S))),some (.v (.int s)),some (.v (.lst (nats als))),some (.o (.d false (kD [(s,[])])) (wD [(s,[])])),none,none,none,none,none]) (by simp[aR7,aXm,atom,kD,wD]) ?_
 refine aG (st':=[some (.v (.lst (stD S))),some (.v (.int s)),some (.v (.lst (nats als))),some (.o (.d false (kD [(s,[])])) (wD [(s,[])])),some (.o .l (kD [(s,[])])),none,none,none,none]) (by simp[kD]) ?_
 refine aG (st':=wst S s als [(s,[])] 0 none none none) (by simp[wst]) ?_
 refine aG (st':=wst S s als acc acc.length x6 x7 x8) (by rw[aVk];exact e) ?_
 simp[wst,ofK]
end
def prD(acc:List (Nat×List Nat)):List D:=acc.map λx=>D.tup [.int (x.1:Nat),.str x.2]
theorem aYa:∀acc:List (Nat×List Nat),List.zipWith (λk d=>D.tup [k,d]) (kD acc) (wD acc)=prD acc
 |[]=>rfl
 |x::l=>congrArg (D.tup [.int (x.1:Nat),.str x.2] :: ·) (aYa l)
theorem bBq(acc:List (Nat×List Nat)):(prD acc).length=acc.length:=by unfold prD;rw[length_map]
section
variable{S:List (List Nat)}{rk:List Nat}{c:Nat}{acc:List (Nat×List Nat)}
abbrev bG4(S:List (List Nat))(c:Nat)(acc:List (Nat×List Nat)):Prop:=BM S 0 c (λg=>decide (g∈List.range S.length)) acc.length 0 acc
theorem aRa(M:Mch S rk c):∃acc,nF [mD S rk c]=.ok (.lst (prD acc))/\bG4 S c acc:=by
 have n8:=M.most;obtain⟨acc,e,b⟩:=aTf M (show 0<S.length from M.one) (List.range S.length)
 have hl:=b.len;refine⟨acc,bF rfl ?_,b⟩;have h1:lY [some (.v (mD S rk c)),none]=.ok (.nx [some (.v (mD S rk c)),some (.v (.dct false (kD acc) (wD acc)))]):=by
  refine aG (st':=[some (.v (mD S rk c)),some (.v (.dct false (kD acc) (wD acc)))]) (bC (aQ (bA (show jJ "Machine" "steps" (mD S rk c)=_ from qH) (bA rfl (bA (d:=.lst (nats (List.range S.length))) ?_ rfl))) e)) rfl
  show R.bind (jJ "Machine" "many" (mD S rk c)) aE9=_;rw[aIo,aO,<-(show kJ 0 S.length=nats (List.range S.length) by rw[aB0];rfl)]
  exact aF ⟨aE0 (by omega),xU (by omega)⟩
 show uU lY (e1 aIh (aB 1)) [some (.v (mD S rk c)),none]=_;unfold uU;rw[h1];show R.bind (aY ((kD acc).length<=big) (.ok (D.lst (List.zipWith (λk d=>D.tup [k,d]) (kD acc) (wD acc))))) _=_
 rw[aF (eN (by rw[aMt];omega)),aYa]
 rfl
theorem bG4.wl(M:Mch S rk c)(b:bG4 S c acc){x:Nat×List Nat}(hx:x∈acc):x.2.length<=8:=by
 obtain⟨k,hk⟩:=List.mem_iff_getElem?.mp hx;have h1:=b.wlen k x hk;have h2:=(List.getElem?_eq_some_iff.mp hk).1;have h3:=b.len;have h4:=M.most;omega
end
def orN(l:List Nat):Nat->Nat:=λb=>l.foldl (λb r=>b|||2^r) b
theorem aTg(r:Nat):∀(l:List Nat)(b:Nat),(orN l b).testBit r=(b.testBit r||decide (r∈l))
 |[],b=>by simp[orN]
 |x::l,b=>by
  show (orN l (b|||2^x)).testBit r=_
  rw[aTg r l,testBit_or,Nat.testBit_two_pow]
  by_cases h:x=r
  .simp[h]
  .have h':¬ r=x:=λz=>h z.symm
   simp[h,h']
def iH(l:List Nat):Nat:=orN l 0
theorem fZ(l:List Nat)(r:Nat):(iH l).testBit r=decide (r∈l):=by
 unfold iH;rw[aTg,zero_testBit,Bool.false_or]
theorem bBr{l':List Nat}(h:∀r,r∈l↔r∈l'):iH l=iH l':=eq_of_testBit_eq λr=>by
 rw[fZ,fZ,decide_eq_decide.mpr (h r)]
def aP(n:Nat):List Nat:=(List.range (sO n)).filter λr=>n.testBit r
theorem aOp{r:Nat}(h:sO n<=r):n.testBit r=false:=by
 unfold sO at h
 by_cases h0:(n:Int)=0
 .have:n=0:=by omega
  rw[this,zero_testBit]
 .rw[if_neg h0]at h;have hn:n≠0:=λz=>h0 (by rw[z];rfl)
  have h1:n<2^(n.log2+1):=(Nat.log2_lt hn).mp (Nat.lt_succ_self _);exact Nat.testBit_lt_two_pow (Nat.lt_of_lt_of_le h1 (Nat.pow_le_pow_right (by decide) (by simpa using h)))
theorem aL{r:Nat}:r∈aP n↔n.testBit r=true:=by
 unfold aP;rw[List.mem_filter,List.mem_range];refine⟨λh=>h.2,λh=>⟨?_,h⟩⟩
 rcases Nat.lt_or_ge r (sO n) with h1|h1
 .exact h1
 .rw[aOp h1]at h;cases h
theorem gC(n:Nat):iH (aP n)=n:=eq_of_testBit_eq λr=>by
 rw[fZ];cases h:n.testBit r with
 |true=>exact decide_eq_true (aL.mpr h)
 |false=>exact decide_eq_false λz=>by rw[aL.mp z]at h;cases h
theorem aG3{r:Nat}:r∈aP (iH l)↔r∈l:=by
 rw[aL,fZ,decide_eq_true_eq]
theorem bH{k r:Nat}(h:n<2^k)(hr:r∈aP n):r<k:=by
 rw[aL]at hr;rcases Nat.lt_or_ge r k with h1|h1
 .exact h1
 .rw[Nat.testBit_lt_two_pow (Nat.lt_of_lt_of_le h (Nat.pow_le_pow_right (by decide) h1))]at hr
  cases hr
theorem aOq{k:Nat}(h:n<2^k):sO n<=k:=by
 unfold sO
 by_cases h0:(n:Int)=0
 .rw[if_pos h0];exact zero_le _
 .rw[if_neg h0];have hn:n≠0:=λz=>h0 (by rw[z];rfl)
  have:n.log2<k:=(Nat.log2_lt hn).mpr h;show (n:Int).natAbs.log2+1<=k;rw[Int.natAbs_natCast];omega
@[simp] theorem aYb(i j:Int):aKj (.int i) (.int j)=aY (0<=j/\j<=1000000/\i.natAbs<18446744073709551616) (.ok (.int (i*2^j.toNat))):=rfl
@[simp] theorem bJ4(i j:Int):aFv (.int i) (.int j)=aY (0<=j) (.ok (.int (i/2^j.toNat))):=rfl
@[simp] theorem aOr(i j:Int):uA (.int i) (.int j)=aY (0<=i/\0<=j) (.ok (.int ((i.toNat&&&j.toNat:Nat):Int))):=rfl
@[simp] theorem bBs(i j:Int):dOr (.int i) (.int j)=aY (0<=i/\0<=j) (.ok (.int ((i.toNat|||j.toNat:Nat):Int))):=rfl
@[simp] theorem bE5(i:Int):aHq (.int i)=.ok (.int (sO i:Nat)):=rfl
theorem aOs(n r:Nat):(((n:Int)/2^r).toNat&&&(1:Int).toNat)=if n.testBit r=true then 1 else 0:=by
 have e:((n:Int)/2^r).toNat=n/2^r:=by
  have:(n:Int)/2^r=((n/2^r:Nat):Int):=by push_cast;rfl
  rw[this,toNat_natCast]
 rw[e,show (1:Int).toNat=1 from rfl,Nat.and_one_is_mod,Nat.testBit_eq_decide_div_mod_eq]
 by_cases h:n/2^r%2=1
 .simp[h]
 .have:n/2^r%2=0:=by omega
  simp[this]
theorem aDi(n r:Nat):iV [.int n,.int r]=.ok (.bl (n.testBit r)):=by
 have hb:=aOs n r;have h0:0<=(n:Int)/2^r:=Int.ediv_nonneg (by omega) (Int.pow_nonneg (by decide))
 refine bF rfl ?_
 unfold aDc;show cF _ [some (.v (.int n)),some (.v (.int r))]=_;have e1:e2 aFv (aB 0) (aB 1) [some (.v (.int n)),some (.v (.int r))]=.ok (.int ((n:Int)/2^r)):=by simp
 have e2':e2 uA (e2 aFv (aB 0) (aB 1)) (eC (.int 1)) [some (.v (.int n)),some (.v (.int r))]=.ok (.int ((if n.testBit r=true then 1 else 0:Nat):Int)):=by
  rw[aE2,e1,aO,aSu,aO,aOr,aF ⟨h0,by decide⟩,hb]
 rw[uT,aE2,e2'];cases n.testBit r<;>simp
theorem lJ{tg:Tg}{C E:Ex}{st:PSt}{q:Nat->Bool}{G:Nat->D}:∀(ks:List Nat),(∀k∈ks,∃s1,tg (.int k) st=.ok s1/\C s1=.ok (.bl (q k))/\E s1=.ok (G k))->gU tg C E st (nats ks)=.ok ((ks.filter q).map G)
 |[],_=>rfl
 |k::ks,h=>by
  obtain⟨s1,e1,e2,e3⟩:=h k mem_cons_self;have ih:=lJ ks λk hk=>h k (mem_cons_of_mem _ hk)
  show gU tg C E st (.int k::nats ks)=_;rw[nM,e1];cases hq:q k with
  |true=>
   rw[filter_cons_of_pos hq,map_cons];simp[e2,e3,hq,ih]
  |false=>
   rw[filter_cons_of_neg (by rw[hq];decide)]
   simp[e2,hq,ih]
theorem aB3(n:Nat):kJ 0 n=nats (List.range n):=by
 rw[aB0];rfl
theorem mW{k:Nat}(h:n<2^k)(hk:k<=2000):bW [.int n]=.ok (.lst (nats (aP n))):=by
 have hb:=aOq h;have e:=lJ (tg:=tgN 1) (C:=yD) (E:=yC) (st:=[some (.v (.int n)),none]) (q:=λr=>n.testBit r) (G:=λr=>.int r) (List.range (sO n)) (λr _=>⟨_,rfl,by
  simp[yD,aDi n r],by simp[yC]⟩)
 refine bF rfl ?_
 unfold aDd;show cF _ [some (.v (.int n)),none]=_;have hi:xW (e1 aHq (aB 0)) [some (.v (.int n)),none]=.ok (nats (List.range (sO n))):=by
  simp[show ((sO n:Nat):Int)<=(big:Int) from xU (by omega)]
  exact aB3 _
 rw[uT,aE5,hi];simp only[aO,bD,length_range];rw[aF (eN (by omega)),show clr [1] [some (Sl.v (D.int n)),none]=[some (.v (.int n)),none] from rfl,e]
 rfl
theorem aLe(a:Option Sl):∀(l:List Nat)(b:Nat)(x2:Option Sl),(∀r∈l,r<=1000000)->∃x2',forR (tgN 2) oA (nats l) [a,some (.v (.int b)),x2]=.ok (.nx [a,some (.v (.int (orN l b))),x2'])
 |[],b,x2,_=>⟨x2,rfl⟩
 |r::l,b,x2,h=>by
  obtain⟨x2',e⟩:=aLe a l (b|||2^r) (some (.v (.int r))) λr hr=>h r (mem_cons_of_mem _ hr)
  refine⟨x2',?_⟩;have hr:=h r mem_cons_self;have hr':(r:Int)<=1000000:=by omega
  have ee:((1:Int)*2^(r:Int).toNat)=((2^r:Nat):Int):=by push_cast;simp
  show forR (tgN 2) oA (.int r::nats l) _=_;rw[nZ];have e3:(2:Int)^r=((2^r:Nat):Int):=by push_cast;rfl
  have t:oA [a,some (.v (.int b)),some (.v (.int r))]=.ok (.nx [a,some (.v (.int ((b|||2^r:Nat):Int))),some (.v (.int r))]):=by
   have h1:e2 aKj (eC (.int 1)) (aB 2) [a,some (.v (.int b)),some (.v (.int r))]=.ok (.int ((2^r:Nat):Int)):=by
    simp only[aE2,aSu,aSt,aO,getElem?_cons_succ,List.getElem?_cons_zero];rw[aYb,aF ⟨by omega,hr',by decide⟩,ee]
   unfold oA;rw[aSy,aE2,h1];simp only[aSt,aO,getElem?_cons_succ,List.getElem?_cons_zero];rw[bBs,aF ⟨Int.natCast_nonneg _,Int.natCast_nonneg _⟩,toNat_natCast,toNat_natCast];rfl
  show (oA [a,some (.v (.int b)),some (.v (.int r))]).bind _=_;rw[t];exact e
theorem aEu{l:List Nat}(h:∀r∈l,r<=1000000)(hl:l.length<=1000000):kI [.lst (nats l)]=.ok (.int (iH l)):=by
 obtain⟨x2',e⟩:=aLe (some (.v (.lst (nats l)))) l 0 none h;refine bF rfl ?_
 unfold aFw;refine aG (st':=[some (.v (.lst (nats l))),some (.v (.int 0)),none]) (by simp) ?_
 refine aG (st':=[some (.v (.lst (nats l))),some (.v (.int (iH l))),x2']) ?_ (by simp)
 rw[aSz,show itE (aB 0) [some (Sl.v (D.lst (nats l))),some (.v (.int 0)),none]=.ok (nats l) from rfl,aO]
 exact e
theorem aRb{k:Nat}(h:n<2^k):(List.range k).filter (λr=>n.testBit r)=aP n:=by
 have hb:=aOq h;unfold aP;obtain⟨d,rfl⟩:∃d,k=sO n+d:=⟨k-sO n,by omega⟩
 have h0:((List.range d).map (sO n + ·)).filter (λr=>n.testBit r)=[]:=List.filter_eq_nil_iff.mpr λx hx=>by
  obtain⟨y,_,rfl⟩:=List.mem_map.mp hx;rw[aOp (Nat.le_add_right _ _)];decide
 rw[List.range_add,List.filter_append,h0,append_nil]
inductive Rch (S:List (List Nat)) (c:Nat) (al:Nat->Bool) (s:Nat):Nat->Prop where
 |here:Rch S c al s s
 |on {r l:Nat}:Rch S c al s r->l<c->al (stp S r l)=true->Rch S c al s (stp S r l)
theorem cM(n:Nat):(aP n).Nodup:=List.nodup_range.filter _
theorem pA{l:List Nat}{k:Nat}(h:∀r∈l,r<k):iH l<2^k:=Nat.lt_pow_two_of_testBit _ λr hr=>by
 rw[fZ];exact decide_eq_false λz=>by have:=h r z;omega
open Classical in
noncomputable def iK(S:List (List Nat))(c n r:Nat):Nat:=iH ((List.range S.length).filter λg=>decide (Rch S c (λg=>n.testBit g) r g))
section
theorem aB4(M:Mch S rk c) {s g:Nat} (hs:s<S.length) (h:Rch S c al s g):g<S.length:=by
 induction h with
 |here=>exact hs
 |on _ hl _ ih=>obtain⟨_,_,_,h⟩:=aIp M ih hl;exact h
theorem aIv{s g:Nat}(hs:al s=true)(h:Rch S c al s g):al g=true:=by
 cases h with
 |here=>exact hs
 |on _ _ ha=>exact ha
open Classical in
theorem qI(M:Mch S rk c){r:Nat}(hr:r<S.length)(g:Nat):(iK S c n r).testBit g=true↔Rch S c (λg=>n.testBit g) r g:=by
 unfold iK;rw[fZ,decide_eq_true_eq,List.mem_filter,List.mem_range,decide_eq_true_eq];exact⟨λh=>h.2,λh=>⟨aB4 M hr h,h⟩⟩
theorem aB5{r:Nat}:iK S c n r<2^S.length:=pA λg hg=>List.mem_range.mp (List.mem_filter.mp hg).1
theorem wX(M:Mch S rk c){a b:Nat}(ha:a<S.length):b∈S.getD a []↔∃l,l<c/\stp S a l=b:=by
 have hr:=(M.row S[a] (List.getElem_mem ha)).1;have hg:S.getD a []=S[a]:=by rw[getD_eq_getElem?_getD,List.getElem?_eq_getElem ha];rfl
 have e:∀l,stp S a l=S[a].getD l 0:=λl=>by unfold stp;rw[hg]
 rw[hg];constructor
 .intro h;obtain⟨l,hl,rfl⟩:=List.mem_iff_getElem.mp h;exact⟨l,by omega,by rw[e,getD_eq_getElem?_getD,List.getElem?_eq_getElem hl];rfl⟩
 .rintro⟨l,hl,rfl⟩;have hl':l<S[a].length:=by omega
  rw[e,getD_eq_getElem?_getD,List.getElem?_eq_getElem hl'];exact List.getElem_mem hl'
theorem Rch.trans{a b d:Nat}(h1:Rch S c al a b)(h2:Rch S c al b d):Rch S c al a d:=by
 induction h2 with
 |here=>exact h1
 |on _ hl ha ih=>exact .on ih hl ha
end
theorem bG5(g:Nat)(l:List Nat):dIn (.int g) (.lst (nats l))=.ok (.bl (decide (g∈l))):=by
 obtain⟨p1,p2,_⟩:=gD l;rw[<-aHr];exact aF ⟨by rw[p2];exact zero_le 60,rfl,p1⟩
theorem aRc(h:n<=1000000):aKj (.int 1) (.int n)=.ok (.int ((2^n:Nat):Int)):=by
 have e:((2^n:Nat):Int)=1*2^(n:Int).toNat:=by rw[Int.one_mul,toNat_natCast];push_cast;rfl
 rw[e];exact aF ⟨by omega,by omega,by decide⟩
theorem tM(a b:Nat):uA (.int a) (.int b)=.ok (.int ((a&&&b:Nat):Int)):=by
 rw[<-toNat_natCast a,<-toNat_natCast b];exact aF ⟨by omega,by omega⟩
theorem aOt(g:Nat)(l:List Nat):xV (nats l) (.int g)=decide (g∈l):=by
 unfold xV nats;rw[List.any_map]
 by_cases h:g∈l
 .rw[decide_eq_true h,List.any_eq_true];exact⟨g,h,by simp[eqK]⟩
 .rw[decide_eq_false h,List.any_eq_false];intro x hx
  have : ¬ (x : Int) = (g : Int) := fun z => h (by have e : x = g := by omega
                                                   rw[<-e];exact hx)
  simp[eqK,this]
theorem wY(V:Nat->D){g:Nat}:∀{l:List Nat},g∈l->aAf (nats l) (l.map V) (.int g)=some (V g)
 |[],h=>nomatch h
 |x::l,h=>by
  show aAf (.int x::nats l) (V x::l.map V) (.int g)=_;unfold aAf;rw[zip_cons_cons,List.find?_cons]
  by_cases e:x=g
  .simp[eqK,e]
  .have:¬ (x:Int)=(g:Int):=by omega
   simp only[eqK,beq_eq_false_iff_ne.mpr this];exact wY V ((List.mem_cons.mp h).resolve_left λz=>e z.symm)
theorem jZ(l:List Nat)(x:Nat):nats (l++[x])=nats l++[.int x]:=by unfold nats;simp
theorem aC3{ks vs:List D}{g:Nat} (h:aAf ks vs (.int g)=some d):dIx (.dct false ks vs) (.int g)=.ok d:=by
 show aY (keyOk false (.int g)=true) (ofO (aAf ks vs (.int g)))=_;rw[aF (c:=keyOk false (.int g)=true) rfl,h];rfl
section
variable {s p:Nat}
theorem BM.sound(b:BM S s c al p j acc):∀(k:Nat)(x:Nat×List Nat),acc[k]?=some x->Rch S c al s x.1:=by
 intro k
 induction k using Nat.strongRecOn with
 |ind k ih=>
  intro x hx
  by_cases hk:k=0
  .subst hk;rw[b.hd]at hx;cases hx;exact .here
  .obtain⟨h0,q,y,ch,h1,h2,_⟩:=b.par k x hx (by omega)
   have hl:x.2.length=y.2.length+1:=by rw[h2];simp
   have hq:q<k:=by
    rcases Nat.lt_trichotomy q k with h|h|h
    .exact h
    .subst h;rw[hx]at h1;cases h1;omega
    .rcases b.ord k q x y hx h1 h with h3|⟨h3,_⟩ <;> omega
   obtain⟨_,x2,x3⟩:=b.lt x (List.mem_of_getElem? hx);obtain⟨_,y2,_⟩:=b.lt y (List.mem_of_getElem? h1);have hch:=x3 ch (by rw[h2];simp)
   have e:x.1=stp S y.1 (ch-97):=by rw[<-x2,h2,aC2,y2]
   rw[e]at h0 ⊢;exact .on (ih q hq y h1) (by omega) h0
theorem BM.whole(b:BM S s c al acc.length 0 acc){g:Nat}:g∈acc.map (·.1)↔Rch S c al s g:=by
 constructor
 .intro h;obtain⟨x,hx,rfl⟩:=List.mem_map.mp h;obtain⟨k,hk⟩:=List.mem_iff_getElem?.mp hx;exact b.sound k x hk
 .intro h
  induction h with
  |here=>exact List.mem_map.mpr ⟨_,List.mem_of_getElem? b.hd,rfl⟩
  |on _ hl ha ih=>
   obtain⟨x,hx,rfl⟩:=List.mem_map.mp ih;obtain⟨k,hk⟩:=List.mem_iff_getElem?.mp hx;obtain⟨y,h1,h2,_⟩:=b.cls k x _ hk hl (.inl (List.getElem?_eq_some_iff.mp hk).1) ha;exact List.mem_map.mpr ⟨y,h1,h2⟩
theorem aVm(h:∀g,al g=al' g){g:Nat}:Rch S c al s g↔Rch S c al' s g:=by
 have:al=al':=funext h;rw[this]
end
inductive Pw (B:Nat->Nat->Prop) (K:Nat->Prop):Nat->Nat->Prop where
 |one {a b:Nat}:B a b->Pw B K a b
 |mid {a m b:Nat}:K m->Pw B K a m->Pw B K m b->Pw B K a b
theorem Pw.cut{B:Nat->Nat->Prop}{K K':Nat->Prop}{k a b:Nat}(hK:∀m,K' m->K m\/m=k)(h:Pw B K' a b):Pw B K a b\/(Pw B K a k/\Pw B K k b):=by
 induction h with
 |one h=>exact .inl (.one h)
 |mid hm _ _ i1 i2=>
  rename_i a m b _ _;rcases hK m hm with hm|rfl
  .rcases i1 with x|⟨x1,x2⟩
   .rcases i2 with y|⟨y1,y2⟩
    .exact .inl (.mid hm x y)
    .exact .inr ⟨.mid hm x y1,y2⟩
   .rcases i2 with y|⟨y1,y2⟩
    .exact .inr ⟨x1,.mid hm x2 y⟩
    .exact .inr ⟨x1,y2⟩
  .exact .inr ⟨i1.elim id λz=>z.1,i2.elim id λz=>z.2⟩
theorem Pw.mono{B:Nat->Nat->Prop}{K K':Nat->Prop}{a b:Nat}(hK:∀m,K m->K' m)(h:Pw B K a b):Pw B K' a b:=by
 induction h with
 |one h=>exact .one h
 |mid hm _ _ i1 i2=>exact .mid (hK _ hm) i1 i2
def jL(V:Nat->Nat)(m:Nat):Nat->Nat:=λr=>if (V r).testBit m=true then V r|||V m else V r
theorem aTh{B:Nat->Nat->Prop}{R:Nat->Prop}(hR:∀a b,R a->B a b->R b):∀(ks ds:List Nat)(V:Nat->Nat),(∀k∈ks,R k)->(∀r,R r->∀g,(V r).testBit g=true↔Pw B (· ∈ ds) r g)->∀r,R r->∀g,((ks.foldl jL V) r).testBit g=true↔Pw B (· ∈ ds++ks) r g
 |[],ds,V,_,h,r,hr,g=>by rw[append_nil];exact h r hr g
 |k::ks,ds,V,hk,h,r,hr,g=>by
  have e:ds++k::ks=(ds++[k])++ks:=by simp
  rw[e];refine aTh hR ks (ds++[k]) (jL V k) (λx hx=>hk x (mem_cons_of_mem _ hx)) (λr hr g=>?_) r hr g
  have hk':=hk k mem_cons_self;have up:∀{a b:Nat},Pw B (· ∈ ds) a b->Pw B (· ∈ ds++[k]) a b:=λz=>z.mono λm hm=>List.mem_append_left _ hm
  have in_k:k∈ds++[k]:=by simp
  unfold jL
  by_cases hb:(V r).testBit k=true
  .rw[if_pos hb,testBit_or,or_eq_true,h r hr g,h k hk' g];constructor
   .rintro(z|z)
    .exact up z
    .exact .mid in_k (up ((h r hr k).mp hb)) (up z)
   .intro z;rcases z.cut (K:=(· ∈ ds)) (k:=k) (λm hm=>by simpa using hm) with y|⟨_,y⟩
    .exact .inl y
    .exact .inr y
  .rw[if_neg hb,h r hr g];constructor
   .exact up
   .intro z;rcases z.cut (K:=(· ∈ ds)) (k:=k) (λm hm=>by simpa using hm) with y|⟨y,_⟩
    .exact y
    .exact absurd ((h r hr k).mpr y) hb
section
variable{S:List (List Nat)}{rk:List Nat}{c n:Nat}
def sU(S:List (List Nat))(n:Nat):Nat->Nat:=λr=>(iH (S.getD r [])|||2^r)&&&n
theorem aYc{r g:Nat}:(sU S n r).testBit g=true↔(r=g\/g∈S.getD r [])/\n.testBit g=true:=by
 unfold sU;rw[testBit_and,testBit_or,fZ,Nat.testBit_two_pow,and_eq_true,or_eq_true,decide_eq_true_eq,decide_eq_true_eq];exact⟨λh=>⟨h.1.symm,h.2⟩,λh=>⟨h.1.symm,h.2⟩⟩
theorem aVn(M:Mch S rk c)(hn:n<2^S.length){r:Nat}(hr:r∈aP n)(g:Nat):(((aP n).foldl jL (sU S n)) r).testBit g=true↔Rch S c (λg=>n.testBit g) r g:=by
 have hp:=aTh (B:=λa b=>(a=b\/b∈S.getD a [])/\n.testBit b=true) (R:=(· ∈ aP n)) (λa b _ h=>aL.mpr h.2) (aP n) [] (sU S n) (λk hk=>hk) (λr _ g=>by
  rw[aYc];constructor
  .exact λh=>.one h
  .intro h;cases h with
   |one h=>exact h
   |mid h _ _=>cases h) r hr g
 rw[hp,nil_append];clear hp;constructor
 .intro h;have hi:∀{a b:Nat},Pw (λa b=>(a=b\/b∈S.getD a [])/\n.testBit b=true) (· ∈ aP n) a b->a∈aP n->Rch S c (λg=>n.testBit g) a b:=by
   intro a b h
   induction h with
   |one h=>
    intro ha;obtain⟨rfl|h1,h2⟩:=h
    .exact .here
    .obtain⟨l,hl,rfl⟩:=(wX M (bH hn ha)).mp h1;exact .on .here hl h2
   |mid hm _ _ i1 i2=>exact λha=>Rch.trans (i1 ha) (i2 hm)
  exact hi h hr
 .intro h
  induction h with
  |here=>exact .one ⟨.inl rfl,aL.mp hr⟩
  |on h1 hl ha ih=>
   have hx:_∈aP n:=aL.mpr (aIv (al:=λg=>n.testBit g) (aL.mp hr) h1)
   exact .mid hx ih (.one ⟨.inr ((wX M (bH hn hx)).mpr ⟨_,hl,rfl⟩),ha⟩)
theorem aYd(M:Mch S rk c)(hn:n<2^S.length){r:Nat}(hr:r∈aP n):((aP n).foldl jL (sU S n)) r=iK S c n r:=eq_of_testBit_eq λg=>by
 have e:=(aVn M hn hr g).trans (qI M (bH hn hr) g).symm;cases h1:(((aP n).foldl jL (sU S n)) r).testBit g with
 |true=>exact(e.mp h1).symm
 |false=>
  cases h2:(iK S c n r).testBit g with
  |true=>rw[e.mpr h2]at h1;cases h1
  |false=>rfl
theorem aEv(a b:Nat):dOr (.int a) (.int b)=.ok (.int ((a|||b:Nat):Int)):=by
 rw[<-toNat_natCast a,<-toNat_natCast b];exact aF ⟨by omega,by omega⟩
def aA9(S:List (List Nat))(n:Nat)(ks:List Nat)(V:Nat->Nat)(x4 x5:Option Sl):PSt:=[some (.v (.lst (stD S))),some (.v (.int n)),some (.v (.lst (nats (aP n)))),some (.o (.d false (nats ks)) (ks.map λr=>D.int (V r:Nat))),x4,x5]
theorem aTi{V:Nat->Nat}{r:Nat}{x:D}(hr:r∉ks):zK (nats ks) (.int r)=nats (ks++[r])/\aCn (nats ks) (ks.map λr=>D.int (V r:Nat)) (.int r) x=(ks.map λr=>D.int (V r:Nat))++[x]:=by
 have hk:xV (nats ks) (.int r)=false:=by rw[aOt,decide_eq_false hr]
 unfold zK aCn;rw[hk,jZ];exact⟨rfl,rfl⟩
theorem bBt{V:Nat->Nat}{r x:Nat}(hr:r∈ks):zK (nats ks) (.int r)=nats ks/\aCn (nats ks) (ks.map λr=>D.int (V r:Nat)) (.int r) (.int x)=ks.map λk=>D.int ((if k=r then x else V k:Nat):Int):=by
 have hk:xV (nats ks) (.int r)=true:=by rw[aOt,decide_eq_true hr]
 unfold zK aCn;rw[hk,if_pos rfl,if_pos rfl];refine⟨rfl,?_⟩;unfold nats;rw[List.zip_map',List.map_map];refine List.map_congr_left λk _=>?_
 show (if eqK (.int (k:Int)) (.int (r:Int))=true then D.int (x:Int) else D.int (V k:Int))=_
 by_cases e:k=r
 .rw[if_pos e,if_pos (by rw[e];simp[eqK])]
 .have:¬ (k:Int)=(r:Int):=by omega
  rw[if_neg e,if_neg (by simp[eqK,this])]
theorem aMu{st:PSt}{k:D}{ks vs:List D}(hf:f st=.ok d)(hg:g st=.ok k)(hs:st[i]?=some (some (.o (.d false ks) vs)))(hk:keyOk false k=true)(hl:vs.length<1000):sDPut i g f st=.ok (.nx (st.set i (some (.o (.d false (zK ks k)) (aCn ks vs k d))))):=by
 unfold sDPut;rw[hf,aO,hg,aO,hs];exact aF ⟨hk,aMj (by omega)⟩
theorem aLf(M:Mch S rk c):∀(rs ks:List Nat)(x4:Option Sl),(ks++rs).Nodup->(∀r∈ks++rs,r<S.length)->∃x4',forR (tgN 4) aAu (nats rs) (aA9 S n ks (sU S n) x4 none)=.ok (.nx (aA9 S n (ks++rs) (sU S n) x4' none))
 |[],ks,x4,_,_=>⟨x4,by rw[append_nil];rfl⟩
 |r::rs,ks,x4,nd,hl=>by
  have n8:=M.most;have h1:ks++r::rs=(ks++[r])++rs:=by simp
  rw[h1]at nd hl;obtain⟨x4',e⟩:=aLf M rs (ks++[r]) (some (.v (.int r))) nd hl;refine⟨x4',?_⟩;rw[h1];have hr:r∉ks:=λz=>(List.nodup_append.mp (List.nodup_append.mp nd).1).2.2 r z r (List.mem_singleton.mpr rfl) rfl
  have hrl:r<S.length:=hl r (by simp)
  have hlen:ks.length<=S.length:=lH S.length ks (List.nodup_append.mp (List.nodup_append.mp nd).1).1 λx hx=>hl x (by simp[hx])
  have hg:S.getD r []=S[r]:=by rw[getD_eq_getElem?_getD,List.getElem?_eq_getElem hrl];rfl
  have hrow:=M.row S[r] (List.getElem_mem hrl);have c3:=M.c3;have hb:=aEu (l:=S[r]) (λx hx=>by have:=hrow.2 x hx;omega) (by rw[hrow.1];omega)
  obtain⟨p1,p2⟩:=aTi (V:=sU S n) (x:=.int (sU S n r:Nat)) hr;refine fO rfl (s2:=aA9 S n (ks++[r]) (sU S n) (some (.v (.int r))) none) ?_ e;have hv:e2 uA (e2 dOr (aV kI (aD (e2 dIx (aB 0) (aB 4)) aU)) (e2 aKj (eC (.int 1)) (aB 4))) (aB 1) (aA9 S n ks (sU S n) (some (.v (.int r))) none)=.ok (.int (sU S n r:Nat)):=by
   unfold sU;rw[hg];exact aK (aK (aQ (bA (aK rfl rfl (fY (aIq hrl))) rfl) hb) (aK rfl rfl (aRc (by omega))) (aEv _ _)) rfl (tM _ _)
  refine(aMu hv rfl rfl rfl (by rw[length_map];omega)).trans ?_
  rw[p1,p2];unfold aA9;rw[List.map_append];rfl
theorem aVo{V:Nat->Nat}{r:Nat}(hl:ks.length<1000)(hr:r∈ks)(hm:m∈ks):oU (aA9 S n ks V (some (.v (.int r))) (some (.v (.int m))))=.ok (.nx (aA9 S n ks (λk=>if k=r then jL V m r else V k) (some (.v (.int r))) (some (.v (.int m))))):=by
 have gr:e2 dIx (kZ 3) (aB 4) (aA9 S n ks V (some (.v (.int r))) (some (.v (.int m))))=.ok (.int (V r:Nat)):=aK rfl rfl (aC3 (wY (λr=>D.int (V r:Nat)) hr))
 have gm:e2 dIx (kZ 3) (aB 5) (aA9 S n ks V (some (.v (.int r))) (some (.v (.int m))))=.ok (.int (V m:Nat)):=aK rfl rfl (aC3 (wY (λr=>D.int (V r:Nat)) hm))
 have t:=aQ (bA gr (show aD (aB 5) aU (aA9 S n ks V (some (.v (.int r))) (some (.v (.int m))))=.ok [.int m] from rfl)) (aDi (V r) m)
 by_cases hb:(V r).testBit m=true
 .rw[hb]at t;obtain⟨p1,p2⟩:=bBt (V:=V) (x:=V r|||V m) hr
  refine rM t ((aMu (aK gr gm (aEv _ _)) rfl rfl rfl (by rw[length_map];omega)).trans ?_)
  rw[p1,p2];unfold jL;rw[if_pos hb];rfl
 .rw[Bool.eq_false_iff.mpr hb]at t;refine gY t ?_
  have:(λk=>if k=r then jL V m r else V k)=V:=funext λk=>by
   by_cases e:k=r
   .rw[if_pos e,e];unfold jL;rw[if_neg hb]
   .rw[if_neg e]
  rw[this];rfl
theorem aLg{ks:List Nat}{V:Nat->Nat}{m:Nat}(hl:ks.length<1000)(hm:m∈ks):∀(rs:List Nat)(W:Nat->Nat)(x4:Option Sl),(∀r∈rs,r∈ks)->W m=V m->(∀r∈rs,W r=V r\/W r=jL V m r)->∃W' x4',forR (tgN 4) oU (nats rs) (aA9 S n ks W x4 (some (.v (.int m))))=.ok (.nx (aA9 S n ks W' x4' (some (.v (.int m)))))/\∀r,W' r=if r∈rs then jL V m r else W r
 |[],W,x4,_,_,_=>⟨W,x4,rfl,λr=>by rw[if_neg (by simp)]⟩
 |r::rs,W,x4,hs,hw,hv=>by
  have ho:jL W m r=jL V m r:=by
   rcases hv r mem_cons_self with h|h
   .unfold jL;rw[h,hw]
   .unfold jL at h ⊢;rw[h,hw]
    by_cases hb:(V r).testBit m=true
    .rw[if_pos hb]
     by_cases hb2:(V r|||V m).testBit m=true
     .rw[if_pos hb2,Nat.or_assoc,Nat.or_self]
     .rw[if_neg hb2]
    .rw[if_neg hb,if_neg hb]
  have hom:jL V m m=V m:=by
   unfold jL;split
   .exact Nat.or_self _
   .rfl
  obtain⟨W',x4',e,h⟩:=aLg hl hm rs (λk=>if k=r then jL W m r else W k) (some (.v (.int r))) (λx hx=>hs x (mem_cons_of_mem _ hx)) (by
   show (if m=r then jL W m r else W m)=V m
   by_cases e:m=r
   .rw[if_pos e,ho,<-e,hom]
   .rw[if_neg e,hw]) (λx hx=>by
   show (if x=r then jL W m r else W x)=V x\/(if x=r then jL W m r else W x)=jL V m x
   by_cases e:x=r
   .rw[if_pos e,ho,e];exact .inr rfl
   .rw[if_neg e];exact hv x (mem_cons_of_mem _ hx))
  refine⟨W',x4',fO rfl (aVo hl (hs r mem_cons_self) hm) e,λx=>?_⟩
  rw[h x]
  by_cases hx:x∈rs
  .rw[if_pos hx,if_pos (mem_cons_of_mem _ hx)]
  .rw[if_neg hx]
   by_cases e:x=r
   .rw[if_pos e,if_pos (by rw[e];exact mem_cons_self),ho,e]
   .rw[if_neg e,if_neg (by simp[e,hx])]
theorem aIw{ks:List Nat}{V W:Nat->Nat}{x5:Option Sl}(h:∀k∈ks,V k=W k):aA9 S n ks V x4 x5=aA9 S n ks W x4 x5:=by
 unfold aA9;rw[List.map_congr_left λk hk=>congrArg (λx:Nat=>D.int (x:Int)) (h k hk)]
theorem aLh(hl:(aP n).length<1000):∀(ms:List Nat)(V:Nat->Nat)(x4 x5:Option Sl),(∀m∈ms,m∈aP n)->∃x4' x5',forR (tgN 5) aAv (nats ms) (aA9 S n (aP n) V x4 x5)=.ok (.nx (aA9 S n (aP n) (ms.foldl jL V) x4' x5'))
 |[],V,x4,x5,_=>⟨x4,x5,rfl⟩
 |m::ms,V,x4,x5,hs=>by
  obtain⟨W,y4,e,h⟩:=aLg (S:=S) (n:=n) (V:=V) hl (hs m mem_cons_self) (aP n) V x4 (λr hr=>hr) rfl λr _=>.inl rfl
  obtain⟨z4,z5,e'⟩:=aLh hl ms (jL V m) y4 (some (.v (.int m))) λx hx=>hs x (mem_cons_of_mem _ hx)
  refine⟨z4,z5,fO rfl (fJ (L:=oU) rfl e) ?_⟩;rw[aIw (W:=jL V m) λk hk=>by rw[h k,if_pos hk]]
  exact e'
theorem aOu(M:Mch S rk c)(hn:n<2^S.length):lV [.lst (stD S),.int n]=.ok (.dct false (nats (aP n)) ((aP n).map λr=>D.int (iK S c n r:Nat))):=by
 have n8:=M.most;have hro:=mW hn (by omega)
 have hlen:(aP n).length<=S.length:=lH S.length _ (cM _) λx hx=>bH hn hx
 obtain⟨x4,e1⟩:=aLf (n:=n) M (aP n) [] none (cM n) λr hr=>bH hn hr
 obtain⟨y4,y5,e2⟩:=aLh (S:=S) (n:=n) (by omega) (aP n) (sU S n) x4 none λm hm=>hm
 refine bF rfl (aG (st':=[some (.v (.lst (stD S))),some (.v (.int n)),some (.v (.lst (nats (aP n)))),none,none,none]) (bC (aQ rfl hro)) (aG (st':=aA9 S n [] (sU S n) none none) rfl (aG (fJ rfl e1) (aG (fJ rfl e2) ?_))));rw[aIw λk hk=>aYd M hn hk]
 rfl
end
noncomputable def fL(S:List (List Nat))(c n r:Nat):Nat:=iH ((aP (iK S c n r)).filter λg=>(iK S c n g).testBit r)
def roundN(S:List (List Nat))(m:Nat):Bool:=decide (1<(aP m).length)||decide ((aP m).headD 0∈S.getD ((aP m).headD 0) [])
noncomputable def dF(S:List (List Nat))(c n:Nat):List Nat:=(aP n).foldl (λps r=>if fL S c n r∉ps/\roundN S (fL S c n r)=true then ps++[fL S c n r] else ps) []
section
variable{S:List (List Nat)}{rk:List Nat}{c n:Nat}
theorem aHs{n r:Nat}:fL S c n r<2^S.length:=pA λg hg=>bH aB5 (List.mem_filter.mp hg).1
theorem aYe(M:Mch S rk c) (hm:m<2^S.length) (h0:m≠0):tK [.lst (stD S),.int m]=.ok (.bl (roundN S m)):=by
 have n8:=M.most;have hro:=mW hm (by omega)
 obtain⟨r,T,eT⟩:∃r T,aP m=r::T:=by
  cases h:aP m with
  |nil=>
   refine absurd ?_ h0;have:=gC m;rw[h]at this;exact this.symm
  |cons r T=>exact⟨r,T,rfl⟩
 rw[eT]at hro;have hr:r<S.length:=bH hm (by rw[eT];exact mem_cons_self)
 refine bF rfl (aG (st':=[some (.v (.lst (stD S))),some (.v (.int m)),some (.v (.lst (nats (r::T))))]) (bC (aQ rfl hro)) (bU ?_));have ln:e1 lU (aB 2) [some (.v (.lst (stD S))),some (.v (.int m)),some (.v (.lst (nats (r::T))))]=.ok (.int ((T.length+1:Nat):Int)):=by
  show R.ok (D.int (((nats (r::T)).length:Nat):Int))=_;rw[bD];rfl
 have v0:e2 dIx (aB 2) (eC (.int 0)) [some (.v (.lst (stD S))),some (.v (.int m)),some (.v (.lst (nats (r::T))))]=.ok (.int r):=aK rfl rfl (fY (atI_nat (i:=0) (by rw[bD];exact Nat.succ_pos _)))
 have hg:S.getD r []=S[r]:=by rw[getD_eq_getElem?_getD,List.getElem?_eq_getElem hr];rfl
 have t:=aB1 (aK ln (rfl:eC (.int 1) _=_) (rfl:dGt _ _=_)) λ_=>aK v0 (aK (rfl:aB 0 _=.ok (.lst (stD S))) v0 (fY (aIq hr))) (bG5 r S[r])
 refine aL8 t ?_
 unfold roundN;rw[eT];show (decide ((1:Int)<((T.length+1:Nat):Int))||decide (r∈S[r]))=(decide (1<T.length+1)||decide (r∈S.getD r []))
 rw[hg];congr 1;exact decide_eq_decide.mpr (by omega)
noncomputable def pst(S:List (List Nat))(c n:Nat)(ps:List Nat)(x4 x5:Option Sl):PSt:=[some (.v (.lst (stD S))),some (.v (.int n)),some (.v (.dct false (nats (aP n)) ((aP n).map λr=>D.int (iK S c n r:Nat)))),some (.o .l (nats ps)),x4,x5,none]
theorem aRd(M:Mch S rk c)(hn:n<2^S.length){r:Nat}(hr:r∈aP n)(ps:List Nat)(hps:ps.length<=1000)(x5:Option Sl):∃x5',rW (pst S c n ps (some (.v (.int r))) x5)=.ok (.nx (pst S c n (if fL S c n r∉ps/\roundN S (fL S c n r)=true then ps++[fL S c n r] else ps) (some (.v (.int r))) x5')):=by
 have n8:=M.most;have hrl:=bH hn hr;have hrb:=aL.mp hr;have hro:=mW (aB5 (S:=S) (c:=c) (n:=n) (r:=r)) (by omega)
 have hin:∀g∈aP (iK S c n r),g∈aP n:=λg hg=>aL.mpr (aIv (al:=λg=>n.testBit g) hrb ((qI M hrl g).mp (aL.mp hg)))
 have gk:∀{g:Nat},g∈aP n->aAf (nats (aP n)) ((aP n).map λr=>D.int (iK S c n r:Nat)) (.int g)=some (.int (iK S c n g:Nat)):=λ{g} h=>wY (λr=>D.int (iK S c n r:Nat)) h
 have hlen:(aP (iK S c n r)).length<=S.length:=lH S.length _ (cM _) λx hx=>bH aB5 hx
 have ce:=lJ (tg:=tgN 6) (C:=zU) (E:=zT) (st:=pst S c n ps (some (.v (.int r))) x5) (q:=λg=>(iK S c n g).testBit r) (G:=λg=>.int g) (aP (iK S c n r)) (λg hg=>⟨_,rfl,aQ (bA (aK rfl rfl (aC3 (gk (hin g hg)))) rfl) (aDi (iK S c n g) r),rfl⟩)
 have hi:itE (aV bW (aD (e2 dIx (aB 2) (aB 4)) aU)) (pst S c n ps (some (.v (.int r))) x5)=.ok (nats (aP (iK S c n r))):=vC (aQ (bA (aK rfl rfl (aC3 (gk hr))) rfl) hro);have hcomp:=gH (is:=[6]) hi (by rw[bD];omega) ce
 have hbi:kI [.lst (nats ((aP (iK S c n r)).filter λg=>(iK S c n g).testBit r))]=.ok (.int (fL S c n r)):=aEu (λg hg=>by have:=bH aB5 (List.mem_filter.mp hg).1;omega) (by have:=length_filter_le (λg=>(iK S c n g).testBit r) (aP (iK S c n r));omega)
 have hne:fL S c n r≠0:=λz=>by
  have:(fL S c n r).testBit r=true:=by
   unfold fL;rw[fZ,decide_eq_true_eq,List.mem_filter];have h0:(iK S c n r).testBit r=true:=(qI M hrl r).mpr .here;exact⟨aL.mpr h0,h0⟩
  rw[z,zero_testBit]at this;cases this
 have hgo:=aYe M (aHs (S:=S) (c:=c) (n:=n) (r:=r)) hne;obtain⟨p1,p2,_⟩:=gD ps;refine⟨some (.v (.int (fL S c n r))),aG (st':=pst S c n ps (some (.v (.int r))) (some (.v (.int (fL S c n r))))) (bC (aQ (bA hcomp rfl) hbi)) ?_⟩;have t:=nQ (st:=pst S c n ps (some (.v (.int r))) (some (.v (.int (fL S c n r))))) (aK (f:=aB 5) (g:=kZ 3) rfl rfl (show aAh (.int (fL S c n r)) (.lst (nats ps))=.ok (.bl (!decide (fL S c n r∈ps))) by rw[<-aHr];exact aF ⟨by rw[p2];exact zero_le 60,rfl,p1⟩)) λ_=>aQ (r:=aD (aB 0) (aD (aB 5) aU)) rfl hgo
 by_cases h:fL S c n r∉ps/\roundN S (fL S c n r)=true
 .rw[if_pos h];refine rM (aL8 t (by rw[decide_eq_false h.1,h.2];rfl)) ?_
  rw[wB (xs:=nats ps) (d:=.int (fL S c n r)) rfl rfl (by rw[bD];omega),<-jZ]
  rfl
 .rw[if_neg h];refine gY (aL8 t ?_) rfl;cases h1:roundN S (fL S c n r) with
  |false=>rw[Bool.and_false]
  |true=>rw[decide_eq_true (Classical.byContradiction λz=>h ⟨z,h1⟩)];rfl
theorem aIx(M:Mch S rk c)(hn:n<2^S.length):∀(rs:List Nat)(ps:List Nat)(x4 x5:Option Sl),(∀r∈rs,r∈aP n)->ps.length+rs.length<=1000->∃x4' x5',forR (tgN 4) rW (nats rs) (pst S c n ps x4 x5)=.ok (.nx (pst S c n (rs.foldl (λps r=>if fL S c n r∉ps/\roundN S (fL S c n r)=true then ps++[fL S c n r] else ps) ps) x4' x5'))
 |[],ps,x4,x5,_,_=>⟨x4,x5,rfl⟩
 |r::rs,ps,x4,x5,h,hl=>by
  rw[length_cons]at hl;obtain⟨x5',e1⟩:=aRd M hn (h r mem_cons_self) ps (by omega) x5
  obtain⟨y4,y5,e2⟩:=aIx M hn rs (if fL S c n r∉ps/\roundN S (fL S c n r)=true then ps++[fL S c n r] else ps) (some (.v (.int r))) x5' (λr hr=>h r (mem_cons_of_mem _ hr)) (by
   split
   .rw[length_append,length_singleton];omega
   .omega)
  exact⟨y4,y5,fO rfl e1 e2⟩
theorem aOv(M:Mch S rk c)(hn:n<2^S.length):qT [.lst (stD S),.int n]=.ok (.lst (nats (dF S c n))):=by
 have n8:=M.most;have hro:=mW hn (by omega)
 have hlen:(aP n).length<=S.length:=lH S.length _ (cM _) λx hx=>bH hn hx
 obtain⟨y4,y5,e⟩:=aIx M hn (aP n) [] none none (λ_ h=>h) (by simp;omega)
 exact bF rfl (aG (bC (aQ rfl (aOu M hn))) (aG (st':=pst S c n [] none none) (oY (fX rfl)) (aG (fJ (vC (aQ rfl hro)) e) rfl)))
theorem aIy(M:Mch S rk c)(hn:n<2^S.length):gG [mD S rk c,.int n]=.ok (.lst (nats (dF S c n))):=
 bF rfl (bU (aQ (bA (show jJ "Machine" "steps" (mD S rk c)=_ from qH) rfl) (aOv M hn)))
end
section
variable{S:List (List Nat)}{rk:List Nat}{c n:Nat}
theorem uE:jJ "Machine" "ranks" (mD S rk c)=.ok (.lst (nats rk)):=by unfold mD;rw[aE3,aF rfl];rfl
theorem aEw:∀(l m:List Nat),jP (nats l) (nats m)=decide (l=m)
 |[],[]=>by simp[nats,jP]
 |[],y::m=>by simp[nats,jP]
 |x::l,[]=>by simp[nats,jP]
 |x::l,y::m=>by
  rw[aG1,aG1];unfold jP;rw[aEw l m]
  by_cases h:x=y
  .subst h;simp[eqD]
  .have:¬ (x:Int)=(y:Int):=by omega
   simp[eqD,h,this]
theorem Rch.mono(m:∀g,al g=true->al' g=true){a b:Nat}(h:Rch S c al a b):Rch S c al' a b:=by
 induction h with
 |here=>exact .here
 |on _ hl ha ih=>exact .on ih hl (m _ ha)
def inN(n:Nat):Nat->Bool:=λg=>n.testBit g
def Mut(S:List (List Nat))(c n a b:Nat):Prop:=Rch S c (inN n) a b/\Rch S c (inN n) b a
theorem jR(M:Mch S rk c){r g:Nat}(hr:r<S.length):(fL S c n r).testBit g=true↔Mut S c n r g:=by
 unfold fL;rw[fZ,decide_eq_true_eq,List.mem_filter,aL,qI M hr];constructor
 .rintro⟨h1,h2⟩;exact⟨h1,(qI M (aB4 M hr h1) r).mp h2⟩
 .rintro⟨h1,h2⟩;exact⟨h1,(qI M (aB4 M hr h1) r).mpr h2⟩
theorem aOw(M:Mch S rk c){r g:Nat}(hr:r<S.length)(h:Rch S c (inN n) r g)(hb:Rch S c (inN n) g r):Rch S c (inN (fL S c n r)) r g:=by
 induction h with
 |here=>exact .here
 |on h1 hl ha ih=>
  rename_i y l;have hy:Rch S c (inN n) y r:=Rch.trans (.on .here hl ha) hb;exact .on (ih hy) hl ((jR M hr).mpr ⟨.on h1 hl ha,hb⟩)
theorem Mut.symm{a b:Nat}(h:Mut S c n a b):Mut S c n b a:=⟨h.2,h.1⟩
theorem Mut.trans{a b d:Nat}(h1:Mut S c n a b)(h2:Mut S c n b d):Mut S c n a d:=⟨Rch.trans h1.1 h2.1,Rch.trans h2.2 h1.2⟩
theorem aOx(M:Mch S rk c){r g:Nat}(hr:r<S.length)(h:Mut S c n r g):fL S c n g=fL S c n r:=eq_of_testBit_eq λx=>by
 have hg:=aB4 M hr h.1;have e:(fL S c n g).testBit x=true↔(fL S c n r).testBit x=true:=by
  rw[jR M hg,jR M hr];exact⟨λz=>h.trans z,λz=>h.symm.trans z⟩
 cases h1:(fL S c n g).testBit x with
 |true=>exact(e.mp h1).symm
 |false=>
  cases h2:(fL S c n r).testBit x with
  |true=>rw[e.mpr h2]at h1;cases h1
  |false=>rfl
def LpN(S:List (List Nat))(c n:Nat):Prop:=n≠0/\(∀a∈aP n,∀b∈aP n,Rch S c (inN n) a b)/\roundN S n=true
theorem aOy(f:Nat->Nat)(q:Nat->Bool):∀(rs ps:List Nat)(m:Nat),m∈rs.foldl (λps r=>if f r∉ps/\q (f r)=true then ps++[f r] else ps) ps↔m∈ps\/∃r∈rs,f r=m/\q m=true
 |[],ps,m=>by simp
 |r::rs,ps,m=>by
  rw[foldl_cons,aOy f q rs]
  by_cases h:f r∉ps/\q (f r)=true
  .rw[if_pos h];constructor
   .rintro(h1|⟨r',h1,h2⟩)
    .rcases List.mem_append.mp h1 with h1|h1
     .exact .inl h1
     .rw[List.mem_singleton]at h1;exact .inr ⟨r,mem_cons_self,h1.symm,by rw[h1];exact h.2⟩
    .exact .inr ⟨r',mem_cons_of_mem _ h1,h2⟩
   .rintro(h1|⟨r',h1,h2,h3⟩)
    .exact .inl (List.mem_append_left _ h1)
    .rcases List.mem_cons.mp h1 with rfl|h1
     .exact .inl (List.mem_append_right _ (by rw[h2];simp))
     .exact .inr ⟨r',h1,h2,h3⟩
  .rw[if_neg h];constructor
   .rintro(h1|⟨r',h1,h2⟩)
    .exact .inl h1
    .exact .inr ⟨r',mem_cons_of_mem _ h1,h2⟩
   .rintro(h1|⟨r',h1,h2,h3⟩)
    .exact .inl h1
    .rcases List.mem_cons.mp h1 with rfl|h1
     .refine .inl (Classical.byContradiction λz=>h ⟨by rw[h2];exact z,by rw[h2];exact h3⟩)
     .exact .inr ⟨r',h1,h2,h3⟩
theorem lZ:m∈dF S c n↔∃r∈aP n,fL S c n r=m/\roundN S m=true:=by
 unfold dF;rw[aOy (λr=>fL S c n r) (roundN S)]
 simp
theorem aOz(f:Nat->Nat)(q:Nat->Bool)(m:Nat):∀(rs:List Nat),(∀r∈rs,f r=m)->rs.foldl (λps r=>if f r∉ps/\q (f r)=true then ps++[f r] else ps) [m]=[m]
 |[],_=>rfl
 |r::rs,h=>by
  rw[foldl_cons,if_neg λz=>z.1 (by rw[h r mem_cons_self];simp)]
  exact aOz f q m rs λr hr=>h r (mem_cons_of_mem _ hr)
theorem aMv(M:Mch S rk c){r:Nat}(hn:n<2^S.length)(hr:r∈aP n){g:Nat}(hg:g∈aP (fL S c n r)):g∈aP n:=by
 have h:=(jR M (bH hn hr)).mp (aL.mp hg);exact aL.mpr (aIv (al:=inN n) (aL.mp hr) h.1)
theorem aYf(M:Mch S rk c){r:Nat}(hn:n<2^S.length)(hr:r∈aP n):r∈aP (fL S c n r):=aL.mpr ((jR M (bH hn hr)).mpr ⟨.here,.here⟩)
theorem aVp(M:Mch S rk c)(hn:n<2^S.length):dF S c n=[n]↔LpN S c n:=by
 constructor
 .intro h;have hm:n∈dF S c n:=by rw[h];simp
  obtain⟨r,hr,e,hq⟩:=lZ.mp hm;have hrl:=bH hn hr;refine⟨(λz=>by rw[z]at hr;rw[aL,zero_testBit]at hr;cases hr),λa ha b hb=>?_,hq⟩
  have ha':=(jR (n:=n) M hrl).mp (by rw[e];exact aL.mp ha)
  have hb':=(jR (n:=n) M hrl).mp (by rw[e];exact aL.mp hb)
  exact Rch.trans ha'.2 hb'.1
 .rintro⟨h0,hs,hq⟩;have all:∀r∈aP n,fL S c n r=n:=λr hr=>eq_of_testBit_eq λg=>by
   have e:(fL S c n r).testBit g=true↔n.testBit g=true:=by
    rw[jR M (bH hn hr)];constructor
    .exact λz=>aIv (al:=inN n) (aL.mp hr) z.1
    .exact λz=>⟨hs r hr g (aL.mpr z),hs g (aL.mpr z) r hr⟩
   cases h1:(fL S c n r).testBit g with
   |true=>exact(e.mp h1).symm
   |false=>
    cases h2:n.testBit g with
    |true=>rw[e.mpr h2]at h1;cases h1
    |false=>rfl
  unfold dF;cases h:aP n with
  |nil=>
   refine absurd ?_ h0;have:=gC n;rw[h]at this;exact this.symm
  |cons r T=>
   rw[h]at all;have er:=all r mem_cons_self;rw[foldl_cons,if_pos ⟨by simp,by rw[er];exact hq⟩,er,nil_append]
   exact aOz (λr=>fL S c n r) (roundN S) n T λr hr=>all r (mem_cons_of_mem _ hr)
theorem aG4(M:Mch S rk c){r:Nat}(hn:n<2^S.length)(hr:r∈aP n)(hq:roundN S (fL S c n r)=true):LpN S c (fL S c n r):=by
 have hrl:=bH hn hr;refine⟨(λz=>by have:=aYf M hn hr;rw[z,aL,zero_testBit]at this;cases this),λa ha b hb=>?_,hq⟩
 have ha':=(jR M hrl).mp (aL.mp ha);have hb':=(jR M hrl).mp (aL.mp hb);have hal:=aB4 M hrl ha'.1;have h1:=aOw (n:=n) M hal ha'.2 ha'.1;rw[aOx M hrl ha']at h1;exact Rch.trans h1 (aOw M hrl hb'.1 hb'.2)
theorem aTj(M:Mch S rk c){m r:Nat}(hn:n<2^S.length)(hm:LpN S c m)(hs:∀g∈aP m,g∈aP n)(hr:r∈aP m):∀g∈aP m,g∈aP (fL S c n r):=λg hg=>by
 have up:∀{a b:Nat},Rch S c (inN m) a b->Rch S c (inN n) a b:=λh=>Rch.mono (λg hg=>aL.mp (hs g (aL.mpr hg))) h
 exact aL.mpr ((jR M (bH hn (hs r hr))).mpr ⟨up (hm.2.1 r hr g hg),up (hm.2.1 g hg r hr)⟩)
end
theorem aTk{l:List Int}(h:l≠[]):aMn l∈l/\∀x∈l,x<=aMn l:=by
 cases l with
 |nil=>exact(h rfl).elim
 |cons i r=>
  obtain⟨h1,h2,h3⟩:=aFu r i;refine⟨?_,λx hx=>?_⟩
  .rcases h3 with h3|h3
   .show r.foldl _ i∈_;rw[h3];exact mem_cons_self
   .exact mem_cons_of_mem _ h3
  .rcases List.mem_cons.mp hx with rfl|hx
   .exact h1
   .exact h2 x hx
section
variable{S:List (List Nat)}{rk:List Nat}{c n:Nat}
def oJ(rk:List Nat)(n:Nat):Int:=aMn ((aP n).map λr=>(rk.getD r 0:Int))
theorem aRe(M:Mch S rk c)(hn:n<2^S.length)(h0:n≠0):pZ [mD S rk c,.int n]=.ok (.int (oJ rk n)):=by
 have n8:=M.most;have hro:=mW hn (by omega)
 have hlen:(aP n).length<=S.length:=lH S.length _ (cM _) λx hx=>bH hn hx
 have hpos:0<(aP n).length:=by
  cases h:aP n with
  |nil=>
   refine absurd ?_ h0;have:=gC n;rw[h]at this;exact this.symm
  |cons r T=>simp
 have ce:=aC0 (tg:=tgN 2) (c:=dD) (f:=tL) (st:=[some (.v (mD S rk c)),some (.v (.int n)),none]) (λd=>match d with|.int i=>.int (rk.getD i.toNat 0:Nat)|d=>d) (nats (aP n)) λd hd=>by
  obtain⟨r,hr,rfl⟩:=aEs hd;have hr':r<rk.length:=by rw[M.rks];exact bH hn hr
  have ea:atI (nats rk) (r:Int)=some (.int (rk.getD r 0:Nat)):=by
   rw[atI_nat (by rw[bD];exact hr')]
   simp[nats,getD_eq_getElem?_getD,List.getElem?_eq_getElem hr']
  refine⟨_,rfl,rfl,?_⟩;simp[tL,uE,ea]
 have em:(nats (aP n)).map (λd=>match d with|.int i=>D.int (rk.getD i.toNat 0:Nat)|d=>d)=((aP n).map λr=>(rk.getD r 0:Int)).map D.int:=by
  unfold nats;simp[Function.comp_def]
 rw[em]at ce;have hc:cY [2] (tgN 2) (itE (aV bW (aD (aB 1) aU))) dD tL [some (.v (mD S rk c)),some (.v (.int n)),none]=.ok (.lst (((aP n).map λr=>(rk.getD r 0:Int)).map D.int)):=by
  have hi:itE (aV bW (aD (aB 1) aU)) [some (.v (mD S rk c)),some (.v (.int n)),none]=.ok (nats (aP n)):=by simp[hro]
  rw[aE5,hi];simp only[aO,bD];rw[aF (eN (by omega)),show clr [2] [some (Sl.v (mD S rk c)),some (.v (.int n)),none]=[some (.v (mD S rk c)),some (.v (.int n)),none] from rfl,ce]
  rfl
 refine bF rfl ?_
 unfold aDe;have h0':¬ (n:Int)=0:=by omega
 refine cV (by simp[h0',h0]) ?_
 show cF _ [some (.v (mD S rk c)),some (.v (.int n)),none]=_;rw[uT,aOh,hc];have hm:aOi (.lst (((aP n).map λr=>(rk.getD r 0:Int)).map D.int))=.ok (.int (oJ rk n)):=by
  show (aAj _).bind _=_;rw[wO,aO,aF (by rw[length_map];exact hpos)]
  rfl
 rw[aO,hm];rfl
end
section
theorem aRf(M:Mch S rk c)(hn:n<2^S.length):wV [mD S rk c,.int n]=.ok (.bl (decide (dF S c n=[n]))):=by
 have e:=aIy M hn;obtain⟨p1,p2,_⟩:=gD (dF S c n);have h:=aEw (dF S c n) [n];refine bF rfl ?_
 unfold aFz;have e1:[D.int (n:Int)]=nats [n]:=rfl;simp[e,p1,p2];rw[e1,h]
end
section
theorem bBu(M:Mch S rk c)(hn:n<2^S.length)(h0:n≠0):oF [mD S rk c,.int n]=.ok (.bl (decide (oJ rk n%2=0))):=by
 have e:=aRe M hn h0;refine bF rfl ?_
 unfold aG0
 by_cases h:oJ rk n%2=0
 .simp[e,h]
 .simp[e,h]
end
theorem bG6{a b n r:Nat}{st:PSt}(ha:st[a]?=some (some (.v (.int (n:Int)))))(hb:st[b]?=some (some (.v (.int (r:Int))))):(e2 dEq (e2 uA (e2 aFv (aB a) (aB b)) (eC (.int 1))) (eC (.int 1))) st=.ok (.bl (n.testBit r)):=by
 have ht:=aOs n r;have h0:0<=(n:Int)/2^r:=Int.ediv_nonneg (by omega) (Int.pow_nonneg (by decide))
 have t1:e2 aFv (aB a) (aB b) st=.ok (.int ((n:Int)/2^r)):=by simp[ha,hb]
 have t2:e2 uA (e2 aFv (aB a) (aB b)) (eC (.int 1)) st=.ok (.int ((if n.testBit r=true then 1 else 0:Nat):Int)):=by
  rw[aE2,t1,aO,aSu,aO,aOr,aF ⟨h0,by decide⟩,ht]
 rw[aE2,t2];cases n.testBit r<;>simp
section
theorem sub_len{l m:List Nat}(h1:l.Nodup)(hs:∀x∈l,x∈m)(he:l.length=m.length){x:Nat}(hx:x∈m):x∈l:=by
 refine Classical.byContradiction λhn=>?_
 have:(x::l).length<=m.length:=List.Nodup.length_le_of_subset (List.nodup_cons.mpr ⟨hn,h1⟩) λy hy=>by
  rcases List.mem_cons.mp hy with rfl|hy
  .exact hx
  .exact hs y hy
 rw[length_cons]at this;omega
theorem aYg{m o:Nat}(h1:∀g∈aP m,g∈aP o)(h2:∀g∈aP o,g∈aP m):m=o:=by
 rw[<-gC m,<-gC o];exact bBr λr=>⟨h1 r,h2 r⟩
theorem aP0{m o:Nat}(hm:LpN S c m)(hs:∀g∈aP m,g∈aP o):roundN S o=true:=by
 have hq:=hm.2.2;have hne:∃r,r∈aP m:=by
  cases h:aP m with
  |nil=>
   refine absurd ?_ hm.1;have:=gC m;rw[h]at this;exact this.symm
  |cons r T=>exact⟨r,by simp⟩
 obtain⟨r,hr⟩:=hne;have hl:(aP m).length<=(aP o).length:=List.Nodup.length_le_of_subset (cM m) λx hx=>hs x hx
 unfold roundN at hq ⊢
 by_cases h1:1<(aP o).length
 .rw[decide_eq_true h1];rfl
 .have he:(aP m).length=(aP o).length:=by
   have:0<(aP m).length:=List.length_pos_of_mem hr;omega
  have:m=o:=aYg hs λg hg=>sub_len (cM m) hs he hg
  rw[<-this];exact hq
theorem eqE{a b:Ex}{m o:Nat}{st:PSt}(ha:a st=.ok (.int (m:Int)))(hb:b st=.ok (.int (o:Int))):e2 dEq a b st=.ok (.bl (decide (m=o))):=by
 rw[aE2,ha,aO,hb,aO]
 by_cases h:m=o
 .subst h;simp
 .have:¬ (m:Int)=(o:Int):=by omega
  simp[h,this]
theorem neE{a b:Ex}{m o:Nat}{st:PSt}(ha:a st=.ok (.int (m:Int)))(hb:b st=.ok (.int (o:Int))):e2 dNe a b st=.ok (.bl (!decide (m=o))):=by
 rw[aE2,ha,aO,hb,aO]
 by_cases h:m=o
 .subst h;simp
 .have:¬ (m:Int)=(o:Int):=by omega
  simp[h,this]
theorem aEx{a m:Nat}{st:PSt}(ha:st[a]?=some (some (.v (.int (m:Int))))):aB a st=.ok (.int (m:Int)):=by simp[ha]
end
section
theorem bBv(M:Mch S rk c)(hn:n<2^S.length)(h0:n≠0):xZ [.lst (nats rk),.int n]=.ok (.int (oJ rk n)):=by
 have n8:=M.most;have hpos:0<(aP n).length:=by
  cases h:aP n with
  |nil=>
   refine absurd ?_ h0;have:=gC n;rw[h]at this;exact this.symm
  |cons r T=>simp
 have ce:=lJ (tg:=tgN 2) (C:=xY) (E:=xX) (st:=[some (.v (.lst (nats rk))),some (.v (.int n)),none]) (q:=λr=>n.testBit r) (G:=λr=>.int (rk.getD r 0:Nat)) (List.range rk.length) (λr hr=>⟨_,rfl,by
  unfold xY;exact bG6 (a:=1) (b:=2) rfl rfl,by
  have hr':=List.mem_range.mp hr;have ea:atI (nats rk) (r:Int)=some (.int (rk.getD r 0:Nat)):=by
   rw[atI_nat (by rw[bD];exact hr')]
   simp[nats,getD_eq_getElem?_getD,List.getElem?_eq_getElem hr']
  simp[xX,ea]⟩)
 rw[M.rks,aRb hn]at ce;have em:(aP n).map (λr=>D.int (rk.getD r 0:Nat))=((aP n).map λr=>(rk.getD r 0:Int)).map D.int:=by simp[Function.comp_def]
 rw[em]at ce;refine bF rfl ?_
 unfold aDb;show cF _ [some (.v (.lst (nats rk))),some (.v (.int n)),none]=_;have hi:xW (e1 lU (aB 0)) [some (.v (.lst (nats rk))),some (.v (.int n)),none]=.ok (nats (List.range S.length)):=by
  rw[<-aB3];simp[bD,M.rks,show (S.length:Int)<=(big:Int) from xU (by omega)]
 have hm:aOi (.lst (((aP n).map λr=>(rk.getD r 0:Int)).map D.int))=.ok (.int (oJ rk n)):=by
  show (aAj _).bind _=_;rw[wO,aO,aF (by rw[length_map];exact hpos)]
  rfl
 rw[uT,aOh,aE5,hi];simp only[aO,bD,length_range];rw[aF (eN (by omega)),show clr [2] [some (Sl.v (.lst (nats rk))),some (.v (.int n)),none]=[some (.v (.lst (nats rk))),some (.v (.int n)),none] from rfl,ce,aO,aO,hm]
 rfl
end
section
theorem bG7:iH (List.range n)<2^n:=pA λr hr=>List.mem_range.mp hr
theorem bBw(M:Mch S rk c):rH [mD S rk c]=.ok (.int (iH (List.range S.length))):=by
 have n8:=M.most;refine bF rfl (bU (aQ (bA (d:=.lst (nats (List.range S.length))) ?_ rfl) (aEu (λr hr=>by have:=List.mem_range.mp hr;omega) (by rw[length_range];omega))))
 show R.bind (jJ "Machine" "many" (mD S rk c)) aE9=_;rw[aIo,aO,<-aB3];exact aF ⟨aE0 (by omega),xU (by omega)⟩
theorem bBx(M:Mch S rk c){st:PSt}(h:st[0]?=some (some (.v (mD S rk c)))):aV lV (aD (e1 (jJ "Machine" "steps") (aB 0)) (aD (aV rH (aD (aB 0) (aU))) (aU))) st=.ok (.dct false (nats (aP (iH (List.range S.length)))) ((aP (iH (List.range S.length))).map λr=>D.int (iK S c (iH (List.range S.length)) r:Nat))):=by
 have e:aB 0 st=.ok (mD S rk c):=by unfold aB;rw[h]
 exact aQ (bA (show R.bind (aB 0 st) (jJ "Machine" "steps")=_ by rw[e,aO,qH]) (bA (aQ (bA e rfl) (bBw M)) rfl)) (aOu M bG7)
theorem bBy{r:Nat}(hr:r<S.length):dIx (.dct false (nats (aP (iH (List.range S.length)))) ((aP (iH (List.range S.length))).map λr=>D.int (iK S c (iH (List.range S.length)) r:Nat))) (.int r)=.ok (.int (iK S c (iH (List.range S.length)) r:Nat)):=aC3 (wY (λr=>D.int (iK S c (iH (List.range S.length)) r:Nat)) (aG3.mpr (List.mem_range.mpr hr)))
end
section
theorem aYh(M:Mch S rk c){r:Nat}(hr:r<S.length):jK [mD S rk c,.int r]=.ok (.int (iK S c (iH (List.range S.length)) r)):=
 bF rfl (bU (aK (bBx M rfl) rfl (bBy hr)))
end
section
variable{S:List (List Nat)}{rk:List Nat}{c n s g:Nat}{al:Nat->Bool}{acc:List (Nat×List Nat)}
def Pat(S:List (List Nat))(c:Nat)(al:Nat->Bool):List Nat->Nat->Nat->Prop
 |[],s,g=>s=g
 |ch::u,s,g=>∃l,l<c/\ch=97+l/\al (stp S s l)=true/\Pat S c al u (stp S s l) g
theorem aC4:∀{u v:List Nat}{s r g:Nat},Pat S c al u s r->Pat S c al v r g->Pat S c al (u++v) s g
 |[],v,s,r,g,h1,h2=>by
  have e:s=r:=h1;rw[e];exact h2
 |ch::u,v,s,r,g,h1,h2=>by
  obtain⟨l,a,b,d,e⟩:=h1;exact⟨l,a,b,d,aC4 e h2⟩
theorem aTl:∀{u v:List Nat}{s g:Nat},Pat S c al (u++v) s g->∃r,Pat S c al u s r/\Pat S c al v r g
 |[],v,s,g,h=>⟨s,rfl,h⟩
 |ch::u,v,s,g,h=>by
  obtain⟨l,a,b,d,e⟩:=h;obtain⟨r,h1,h2⟩:=aTl e;exact⟨r,⟨l,a,b,d,h1⟩,h2⟩
theorem aVq{v w:List Nat}(h1:slB u v)(h2:slB v w):slB u w:=by
 rcases h1 with h1|⟨h1,h3⟩
 .rcases h2 with h2|⟨h2,_⟩
  .exact .inl (by omega)
  .exact .inl (by omega)
 .rcases h2 with h2|⟨h2,h4⟩
  .exact .inl (by omega)
  .exact .inr ⟨by omega,List.lt_trans h3 h4⟩
theorem snoc_ind{P:List Nat->Prop}(h0:P [])(h1:∀u a,P u->P (u++[a])):∀(k:Nat)(u:List Nat),u.length=k->P u
 |0,u,h=>by rw[List.length_eq_zero_iff.mp h];exact h0
 |k+1,u,h=>by
  rcases List.eq_nil_or_concat u with e|⟨v,a,e⟩
  .rw[e]at h;simp at h
  .rw[List.concat_eq_append]at e;rw[e]at h ⊢;exact h1 v a (snoc_ind h0 h1 k v (by simpa using h))
theorem BM.least(b:BM S s c al acc.length 0 acc):∀(u:List Nat)(g:Nat),Pat S c al u s g->∃y∈acc,y.1=g/\(y.2=u\/slB y.2 u):=λu=>
 snoc_ind (P:=λu=>∀g,Pat S c al u s g->∃y∈acc,y.1=g/\(y.2=u\/slB y.2 u)) (λg h=>⟨(s,[]),List.mem_of_getElem? b.hd,h,.inl rfl⟩) (λu a ih g h=>by
  obtain⟨r,h1,l,hl,ea,ha,e⟩:=aTl h;obtain⟨y,hy,rfl,hq⟩:=ih r h1;have e':stp S y.1 l=g:=e;obtain⟨i,hi⟩:=List.mem_iff_getElem?.mp hy;obtain⟨z,hz,ez,hw⟩:=b.cls i y l hi hl (.inl (List.getElem?_eq_some_iff.mp hi).1) ha;refine⟨z,hz,ez.trans e',?_⟩;rw[ea];rcases hq with rfl|hq
  .exact hw
  .have:=aTe (97+l) (97+l) hq;rcases hw with hw|hw
   .rw[hw];exact .inr this
   .exact .inr (aVq hw this)) u.length u rfl
theorem BM.path(b:BM S s c al acc.length 0 acc):∀(k:Nat)(x:Nat×List Nat),acc[k]?=some x->Pat S c al x.2 s x.1:=by
 intro k
 induction k using Nat.strongRecOn with
 |ind k ih=>
  intro x hx
  by_cases hk:k=0
  .subst hk;rw[b.hd]at hx;cases hx;exact rfl
  .obtain⟨h0,q,y,ch,h1,h2,_⟩:=b.par k x hx (by omega)
   have hl:x.2.length=y.2.length+1:=by rw[h2];simp
   have hq:q<k:=by
    rcases Nat.lt_trichotomy q k with h|h|h
    .exact h
    .subst h;rw[hx]at h1;cases h1;omega
    .rcases b.ord k q x y hx h1 h with h3|⟨h3,_⟩ <;> omega
   obtain⟨_,x2,x3⟩:=b.lt x (List.mem_of_getElem? hx);obtain⟨_,y2,_⟩:=b.lt y (List.mem_of_getElem? h1);have hch:=x3 ch (by rw[h2];simp)
   have e:x.1=stp S y.1 (ch-97):=by rw[<-x2,h2,aC2,y2]
   rw[h2];exact aC4 (ih q hq y h1) ⟨ch-97,by omega,by omega,by rw[<-e];exact h0,e.symm⟩
def Lst(S:List (List Nat))(c:Nat)(al:Nat->Bool)(s g:Nat)(u:List Nat):Prop:=Pat S c al u s g/\∀v,Pat S c al v s g->u=v\/slB u v
theorem bG8(n:Nat):(λg=>decide (g∈aP n))=λg=>n.testBit g:=funext λg=>by
 cases h:n.testBit g with
 |true=>exact decide_eq_true (aL.mpr h)
 |false=>exact decide_eq_false λz=>by rw[aL.mp z]at h;cases h
theorem aYi(M:Mch S rk c)(hn:n<2^S.length)(hs:s<S.length)(g:Nat):(oW [mD S rk c,.int n,.int s,.int g]=.ok .non/\¬ (n.testBit s=true/\∃u,Pat S c (λg=>n.testBit g) u s g))\/∃u,oW [mD S rk c,.int n,.int s,.int g]=.ok (.str u)/\n.testBit s=true/\Lst S c (λg=>n.testBit g) s g u/\Ltr c u/\u.length+1<=(aP n).length:=by
 have n8:=M.most;cases hb:n.testBit s with
 |false=>exact .inl ⟨bF rfl (oX (rM (kO (p:=false) (aQ rfl (by rw[aDi,hb]))) (bU rfl))),λz=>nomatch z.1⟩
 |true=>
  obtain⟨acc,e,b⟩:=aTf M hs (aP n);rw[bG8]at b;have hr:∀{d:D},aXz (aV lE (aD (e1 (jJ "Machine" "steps") (aB 0)) (aD (aB 2) (aD (aV bW (aD (aB 1) aU)) aU)))) (aB 3) (eC .non) [some (.v (mD S rk c)),some (.v (.int n)),some (.v (.int s)),some (.v (.int g))]=.ok d->oW [mD S rk c,.int n,.int s,.int g]=.ok d:=λhd=>bF rfl (cV (gY (kO (p:=true) (aQ rfl (by rw[aDi,hb]))) rfl) (bU hd))
  have hg:∀{r:R D},aIi (.dct false (kD acc) (wD acc)) (.int g) .non=r->aXz (aV lE (aD (e1 (jJ "Machine" "steps") (aB 0)) (aD (aB 2) (aD (aV bW (aD (aB 1) aU)) aU)))) (aB 3) (eC .non) [some (.v (mD S rk c)),some (.v (.int n)),some (.v (.int s)),some (.v (.int g))]=r:=λh=>by
   unfold aXz;rw[aQ (bA (show jJ "Machine" "steps" (mD S rk c)=_ from qH) (bA rfl (bA (aQ rfl (mW hn (by omega))) rfl))) e]
   exact h
  have hh:=aR9 g acc
  by_cases hm:g∈acc.map (·.1)
  .rw[decide_eq_true hm]at hh;obtain⟨x,hx,rfl⟩:=List.mem_map.mp hm;obtain⟨k,hk⟩:=List.mem_iff_getElem?.mp hx;have hkl:=(List.getElem?_eq_some_iff.mp hk).1;refine .inr ⟨x.2,hr (hg ?_),rfl,⟨b.path k x hk,λv hv=>?_⟩,(b.lt x hx).2.2,?_⟩
   .show aY (keyOk false (.int x.1)=true) _=_;rw[aF (c:=keyOk false (.int x.1)=true) rfl,if_pos hh,aY9 b.nd hx];rfl
   .obtain⟨y,hy,ey,hq⟩:=b.least v x.1 hv;obtain⟨j,hj⟩:=List.mem_iff_getElem?.mp hy;have:y=x:=by
     have hkj:j=k:=by
      have h1:(acc.map (·.1))[j]?=some x.1:=by rw[List.getElem?_map,hj,<-ey];rfl
      have h2:(acc.map (·.1))[k]?=some x.1:=by rw[List.getElem?_map,hk];rfl
      obtain⟨a1,b1⟩:=List.getElem?_eq_some_iff.mp h1;obtain⟨a2,b2⟩:=List.getElem?_eq_some_iff.mp h2;exact(List.getElem_inj b.nd).mp (b1.trans b2.symm)
     rw[hkj,hk]at hj;exact(Option.some.inj hj).symm
    rw[this]at hq;exact hq
   .have h1:=b.wlen k x hk;have h2:(acc.map (·.1)).length<=(aP n).length:=List.Nodup.length_le_of_subset b.nd λy hy=>by
     obtain⟨z,hz,rfl⟩:=List.mem_map.mp hy;obtain⟨j,hj⟩:=List.mem_iff_getElem?.mp hz
     by_cases hj0:j=0
     .subst hj0;rw[b.hd]at hj;cases hj;exact aL.mpr hb
     .exact aL.mpr (b.par j z hj (by omega)).1
    rw[length_map]at h2;omega
  .rw[decide_eq_false hm]at hh;refine .inl ⟨hr (hg ?_),λ⟨_,u,hu⟩=>?_⟩
   .show aY (keyOk false (.int g)=true) _=_;rw[aF (c:=keyOk false (.int g)=true) rfl,if_neg (by rw[hh];decide)]
   .obtain⟨y,hy,ey,_⟩:=b.least u g hu;exact hm (List.mem_map.mpr ⟨y,hy,ey⟩)
end
theorem bBz{l:Nat}(h:l<3):dIx (.str [97,98,99]) (.int l)=.ok (.str [97+l]):=by
 show aY _ _=_;rw[aF (eN (by show 3<=_;omega)),atI_nat (xs:=[97,98,99]) (i:=l) (by show l<3;exact h)]
 have:l=0\/l=1\/l=2:=by omega
 rcases this with rfl|rfl|rfl<;>rfl
theorem aYj(l m:List Nat):dEq (.lst (nats l)) (.lst (nats m))=.ok (.bl (decide (l=m))):=by
 obtain⟨p1,p2,_⟩:=gD l;obtain⟨q1,_,_⟩:=gD m;have:=aEw l m;simp[p1,p2,q1,this]
theorem bG9{m:Nat}(h1:1<=m)(h3:m<=3)(a:97<=ch)(b:ch<97+m):(kY (cut [97,98,99] none (some (m:Int))) [ch] 0).isSome=true:=by
 have hm:m=1\/m=2\/m=3:=by omega
 have hc:ch=97\/ch=98\/ch=99:=by omega
 rcases hm with rfl|rfl|rfl<;>rcases hc with rfl|rfl|rfl<;>first|rfl|omega
section
variable{S:List (List Nat)}{rk:List Nat}{c n s g r:Nat}{al:Nat->Bool}
theorem aC5:∀{u:List Nat}{s g:Nat},Pat S c al u s g->Ltr c u
 |[],_,_,_=>λ_ h=>nomatch h
 |ch::u,s,g,⟨l,a,b,_,e⟩=>λx hx=>by
  rcases List.mem_cons.mp hx with rfl|hx
  .omega
  .exact aC5 e x hx
theorem uF:∀{u:List Nat}{s g:Nat},Pat S c al u s g->dZ S s u=g
 |[],_,_,h=>h
 |ch::u,s,g,⟨l,a,b,_,e⟩=>by
  show dZ S (stp S s (ch-97)) u=g;rw[b,show 97+l-97=l by omega]
  exact uF e
theorem aP1:∀{u:List Nat}{s g:Nat},Pat S c al u s g->∀y∈runs S s u,al y=true
 |[],_,_,_=>λ_ h=>nomatch h
 |ch::u,s,g,⟨l,a,b,d,e⟩=>λy hy=>by
  have hy':y∈stp S s (ch-97)::runs S (stp S s (ch-97)) u:=hy;rw[b,show 97+l-97=l by omega]at hy'
  rcases List.mem_cons.mp hy' with rfl|hy'
  .exact d
  .exact aP1 e y hy'
theorem aIz:∀(x y:List Nat)(q:Nat),runs S q (x++y)=runs S q x++runs S (dZ S q x) y
 |[],_,_=>rfl
 |ch::x,y,q=>congrArg (stp S q (ch-97) :: ·) (aIz x y _)
theorem aMw:∀(x:List Nat)(q:Nat),dZ S q x∈q::runs S q x
 |[],_=>mem_cons_self
 |ch::x,q=>mem_cons_of_mem _ (aMw x (stp S q (ch-97)))
theorem aYk{x:List Nat}(h:x≠[])(q:Nat):dZ S q x∈runs S q x:=by
 cases x with
 |nil=>exact absurd rfl h
 |cons ch x=>exact aMw x (stp S q (ch-97))
theorem aJ0:∀(x:List Nat)(q:Nat),(runs S q x).length=x.length
 |[],_=>rfl
 |_::x,_=>congrArg (· + 1) (aJ0 x _)
theorem aTm{s g:Nat}(h:Rch S c al s g):∃u,Pat S c al u s g:=by
 induction h with
 |here=>exact⟨[],rfl⟩
 |on _ hl ha ih=>
  obtain⟨u,hu⟩:=ih;exact⟨u++[97+_],aC4 hu ⟨_,hl,rfl,ha,rfl⟩⟩
structure Rnd(S:List (List Nat))(c n r:Nat)(u:List Nat):Prop where
 pat:Pat S c (λg=>n.testBit g) u r r
 ne:u≠[]
 len:u.length<=(aP n).length*(aP n).length
 all:∀g∈aP n,g∈runs S r u
def aYl(S:List (List Nat))(rk:List Nat)(c n r:Nat)(x:List Nat)(h:Nat)(x5:Option Sl):PSt:=[some (.v (mD S rk c)),some (.v (.int n)),some (.v (.int r)),some (.v (.str x)),some (.v (.int h)),x5]
theorem aJ1{e:Exs}{st:PSt}(hf:f st=.ok (mD S rk c))(hr:e st=.ok xs):dY "Machine" "rooms_along" p [] f e st=p (mD S rk c::xs):=by
 rw[aE4,hf,hr];show aY _ (p (mD S rk c::(xs++[])))=_;rw[append_nil];exact aF ⟨rfl,by decide⟩
theorem aP2(M:Mch S rk c)(hn:n<2^S.length)(hL:LpN S c n){a b:Nat}(ha:a∈aP n)(hb:b∈aP n):∃u,oW [mD S rk c,.int n,.int a,.int b]=.ok (.str u)/\Pat S c (λg=>n.testBit g) u a b/\u.length+1<=(aP n).length:=by
 rcases aYi M hn (bH hn ha) b with ⟨_,h2⟩|⟨u,h1,_,h3,_,h5⟩
 .exact absurd ⟨aL.mp ha,aTm (hL.2.1 a ha b hb)⟩ h2
 .exact⟨u,h1,h3.1,h5⟩
theorem aDj(M:Mch S rk c)(hn:n<2^S.length)(hL:LpN S c n)(hr:r∈aP n):∀(gs:List Nat)(x:List Nat)(h j:Nat)(x5:Option Sl),(∀g∈gs,g∈aP n)->Pat S c (λg=>n.testBit g) x r h->h∈aP n->x.length<=j*((aP n).length-1)->j+gs.length<=8->
  ∃x' h' j' x5',forR (tgN 5) aEm (nats gs) (aYl S rk c n r x h x5)=.ok (.nx (aYl S rk c n r x' h' x5'))/\Pat S c (λg=>n.testBit g) x' r h'/\h'∈aP n/\x'.length<=j' * ((aP n).length-1)/\j'<=j+(gs.filter λg=>!decide (g=r)).length/\(∀g∈gs,g∈r::runs S r x')/\∀g∈r::runs S r x,g∈r::runs S r x'
 |[],x,h,j,x5,_,h1,h2,h3,_=>⟨x,h,j,x5,rfl,h1,h2,h3,Nat.le_add_right _ _,λ_ z=>(nomatch z),λ_ z=>z⟩
 |g::gs,x,h,j,x5,hg,h1,h2,h3,h4=>by
  have n8:=M.most;rw[length_cons]at h4;have hk:(aP n).length<=8:=Nat.le_trans (lH S.length _ (cM _) λy hy=>bH hn hy) n8
  have hx:x.length<=100:=by
   have:j*((aP n).length-1)<=8*7:=Nat.mul_le_mul (by omega) (by omega)
   omega
  have hrl:=bH hn hr;obtain⟨p1,p2,_⟩:=gD (r::runs S r x);have t:e2 aAh (aB 5) (dY "Machine" "rooms_along" (cT) [] (aB 0) (aD (aB 2) (aD (aB 3) aU))) (aYl S rk c n r x h (some (.v (.int g))))=.ok (.bl (!decide (g∈r::runs S r x))):=aK rfl ((aJ1 rfl rfl).trans (aOo M hrl x (aC5 h1) (by omega))) (by
   rw[<-aHr];exact aF ⟨by rw[p2];exact zero_le 60,rfl,p1⟩)
  by_cases hm:g∈r::runs S r x
  .rw[decide_eq_true hm]at t;obtain⟨x',h',j',x5',e,k1,k2,k3,k4,k5,k6⟩:=aDj M hn hL hr gs x h j (some (.v (.int g))) (λy hy=>hg y (mem_cons_of_mem _ hy)) h1 h2 h3 (by omega)
   refine⟨x',h',j',x5',fO rfl (gY t rfl) e,k1,k2,k3,Nat.le_trans k4 ?_,λy hy=>?_,k6⟩
   .by_cases z:(!decide (g=r))=true
    .rw[filter_cons_of_pos (p:=λg=>!decide (g=r)) z,length_cons];omega
    .rw[filter_cons_of_neg (p:=λg=>!decide (g=r)) z];exact Nat.le_refl _
   .rcases List.mem_cons.mp hy with rfl|hy
    .exact k6 _ hm
    .exact k5 y hy
  .rw[decide_eq_false hm]at t;have hgr:g≠r:=λz=>hm (by rw[z];exact mem_cons_self)
   obtain⟨u,w1,w2,w3⟩:=aP2 M hn hL h2 (hg g mem_cons_self);have hl:(x++u).length<=(j+1)*((aP n).length-1):=by
    rw[length_append,Nat.add_mul,Nat.one_mul];omega
   obtain⟨x',h',j',x5',e,k1,k2,k3,k4,k5,k6⟩:=aDj M hn hL hr gs (x++u) g (j+1) (some (.v (.int g))) (λy hy=>hg y (mem_cons_of_mem _ hy)) (aC4 h1 w2) (hg g mem_cons_self) hl (by omega)
   have up:∀y∈r::runs S r x,y∈r::runs S r (x++u):=λy hy=>by
    rw[aIz];rcases List.mem_cons.mp hy with rfl|hy
    .exact mem_cons_self
    .exact mem_cons_of_mem _ (List.mem_append_left _ hy)
   refine⟨x',h',j',x5',fO rfl (rM t (aG (st':=aYl S rk c n r (x++u) h (some (.v (.int g)))) (bC (aK rfl (aQ rfl w1) (aF (eN (by omega))))) (bC rfl))) e,k1,k2,k3,Nat.le_trans k4 ?_,λy hy=>?_,λy hy=>k6 y (up y hy)⟩
   .rw[filter_cons_of_pos (by rw[decide_eq_false hgr];rfl),length_cons];omega
   .rcases List.mem_cons.mp hy with rfl|hy
    .refine k6 _ ?_
     have:=aMw (S:=S) (x++u) r;rw[uF (aC4 h1 w2)]at this;exact this
    .exact k5 y hy
theorem bGa(nd:l.Nodup)(hr:r∈l):(l.filter λg=>!decide (g=r)).length+1<=l.length:=by
 have h1:(l.filter λg=>!decide (g=r)).length<l.length:=by
  rcases Nat.lt_or_eq_of_le (length_filter_le (λg=>!decide (g=r)) l) with h|h
  .exact h
  .have:=List.length_filter_eq_length_iff.mp h r hr;rw[decide_eq_true rfl]at this;cases this
 omega
theorem aJ2(M:Mch S rk c)(hn:n<2^S.length)(hL:LpN S c n)(hr:r∈aP n):∃u,nP [mD S rk c,.int n,.int r]=.ok (.str u)/\Rnd S c n r u:=by
 have n8:=M.most;have c3:=M.c3;have hrl:=bH hn hr;have hro:=mW hn (by omega)
 have hk:(aP n).length<=8:=Nat.le_trans (lH S.length _ (cM _) λy hy=>bH hn hy) n8
 have a1:sIf (mR (aV wV (aD (aB 0) (aD (aB 1) aU)))) vW cP [some (.v (mD S rk c)),some (.v (.int n)),some (.v (.int r)),none,none,none]=.ok (.nx [some (.v (mD S rk c)),some (.v (.int n)),some (.v (.int r)),none,none,none]):=gY ((kO (p:=true) (aQ rfl (by rw[aRf M hn,decide_eq_true ((aVp M hn).mpr hL)])))) rfl
 have a2:sIf (mR (aV iV (aD (aB 1) (aD (aB 2) aU)))) vW cP [some (.v (mD S rk c)),some (.v (.int n)),some (.v (.int r)),none,none,none]=.ok (.nx [some (.v (mD S rk c)),some (.v (.int n)),some (.v (.int r)),none,none,none]):=gY ((kO (p:=true) (aQ rfl (by rw[aDi,aL.mp hr])))) rfl
 have t3:=aK (op:=dEq) (f:=aV bW (aD (aB 1) aU)) (g:=jX (aD (aB 2) aU)) (st:=[some (.v (mD S rk c)),some (.v (.int n)),some (.v (.int r)),none,none,none]) (aQ rfl hro) (fX (ds:=nats [r]) rfl) (aYj (aP n) [r])
 by_cases h1:aP n=[r]
 .rw[decide_eq_true h1]at t3;have hq:=hL.2.2;unfold roundN at hq;rw[h1]at hq;have hq':r∈S.getD r []:=by
   have:=of_decide_eq_true (show decide (r∈S.getD r [])=true from hq)
   exact this
  have hg:S.getD r []=S[r]:=by rw[getD_eq_getElem?_getD,List.getElem?_eq_getElem hrl];rfl
  rw[hg]at hq';have hrow:=(M.row S[r] (List.getElem_mem hrl)).1;have hs:((S[r].map λ(x:Nat)=>(x:Int)).findIdx? λi=>i==(r:Int)).isSome=true:=by
   rw[List.findIdx?_isSome,List.any_eq_true];exact⟨(r:Int),List.mem_map.mpr ⟨r,hq',rfl⟩,by simp⟩
  obtain⟨k,hk'⟩:=Option.isSome_iff_exists.mp hs;obtain⟨k1,k2,_⟩:=List.findIdx?_eq_some_iff_getElem.mp hk';rw[length_map]at k1;have hkr:S[r][k]=r:=by
   rw[List.getElem_map,beq_iff_eq]at k2;exact Int.ofNat_inj.mp k2
  have hst:stp S r k=r:=by
   unfold stp;rw[hg,getD_eq_getElem?_getD,List.getElem?_eq_getElem k1];exact hkr
  have hix:eMt aT3 (e2 dIx (e1 (jJ "Machine" "steps") (aB 0)) (aB 2)) (aD (aB 2) aU) [some (.v (mD S rk c)),some (.v (.int n)),some (.v (.int r)),none,none,none]=.ok (.int k):=by
   unfold eMt;rw[aK (show e1 (jJ "Machine" "steps") (aB 0) [some (.v (mD S rk c)),some (.v (.int n)),some (.v (.int r)),none,none,none]=_ from qH) rfl (fY (aIq hrl))]
   show (aAj (nats S[r])).bind _=_;rw[show nats S[r]=(S[r].map λ(x:Nat)=>(x:Int)).map D.int by rw[List.map_map];rfl,wO,aO,hk']
   show R.bind (.ok k) _=_;rw[aO];exact aF (eN (by rw[length_map,length_map];omega))
  refine⟨[97+k],bF rfl (cV a1 (cV a2 (oX ((rM t3 (bU (aK rfl hix (bBz (by omega)))))))) ),⟨⟨k,by omega,rfl,by rw[hst];exact aL.mp hr,hst⟩,by simp,by rw[h1];exact Nat.le_refl _,λg hg=>?_⟩⟩
  rw[h1,List.mem_singleton]at hg;show g∈stp S r (97+k-97)::[];rw[show 97+k-97=k by omega,hst,hg]
  exact mem_cons_self
 .rw[decide_eq_false h1]at t3;obtain⟨g0,hg0,hne⟩:∃g0∈aP n,g0≠r:=Classical.byContradiction λz=>h1 (by
   have all:∀y∈aP n,y=r:=λy hy=>Classical.byContradiction λw=>z ⟨y,hy,w⟩
   have nd:=cM n;cases hm:aP n with
   |nil=>rw[hm]at hr;cases hr
   |cons a T=>
    rw[hm]at all nd;have ea:=all a mem_cons_self;cases T with
    |nil=>rw[ea]
    |cons b T=>
     have eb:=all b (by simp)
     exact absurd (by simp[ea,eb]) (List.nodup_cons.mp nd).1)
  obtain⟨x,h,j,x5,e,k1,k2,k3,k4,k5,_⟩:=aDj M hn hL hr (aP n) [] r 0 none (λ_ z=>z) rfl hr (zero_le _) (by omega)
  obtain⟨y,w1,w2,w3⟩:=aP2 M hn hL k2 hr;have hc:=bGa (cM n) hr;have hxl:x.length<=((aP n).length-1)*((aP n).length-1):=Nat.le_trans k3 (Nat.mul_le_mul_right _ (by omega))
  have hxn:x≠[]:=λz=>by
   rw[z]at k5;rcases List.mem_cons.mp (k5 g0 hg0) with z'|z'
   .exact hne z'
   .cases z'
  have hp:=aC4 k1 w2;have hne':x++y≠[]:=λz=>hxn (List.append_eq_nil_iff.mp z).1
  have hlen:(x++y).length<=(aP n).length*(aP n).length:=by
   obtain⟨k,hk2⟩:∃k,(aP n).length=k+1:=⟨(aP n).length-1,by omega⟩
   rw[hk2,Nat.add_sub_cancel]at hxl;rw[length_append,hk2,Nat.add_mul,Nat.mul_add,Nat.one_mul];omega
  have h64:(aP n).length*(aP n).length<=8*8:=Nat.mul_le_mul hk hk;refine⟨x++y,bF rfl (cV a1 (cV a2 (cV ((gY t3 rfl)) (aG ((bC rfl)) (aG (st':=aYl S rk c n r [] r none) ((bC rfl)) (aG ((fJ (vC (aQ rfl hro)) e)) ((bU (aK rfl (aQ rfl w1) (aF (eN (by rw[length_append]at hlen;omega)))))))))))),⟨hp,hne',hlen,λg hg=>?_⟩⟩
  rcases List.mem_cons.mp (k5 g hg) with rfl|z
  .have:=aYk (S:=S) hne' g
   rwa [uF hp]at this
  .rw[aIz];exact List.mem_append_left _ z
end
theorem aTn{x:Int}:∀(l acc:List Int),x∈l.foldl (λacc x=>if acc.any (· == x) then acc else acc++[x]) acc↔x∈acc\/x∈l
 |[],acc=>by simp
 |y::l,acc=>by
  rw[foldl_cons,aTn l]
  by_cases h:acc.any (· == y)=true
  .rw[if_pos h];have hy:y∈acc:=by
    obtain⟨z,hz,e⟩:=List.any_eq_true.mp h;rw[<-eq_of_beq e];exact hz
   constructor
   .rintro(z|z)
    .exact .inl z
    .exact .inr (mem_cons_of_mem _ z)
   .rintro(z|z)
    .exact .inl z
    .rcases List.mem_cons.mp z with rfl|z
     .exact .inl hy
     .exact .inr z
  .rw[if_neg h,List.mem_append,List.mem_singleton,mem_cons,or_assoc]
theorem bGb{x:Int}{l:List Int}:x∈aHh (aAk l)↔x∈l:=by
 rw[(aAl _).mem_iff];unfold aAk;rw[aTn];simp
theorem aRg(l:List Int):∀acc:List Int,(l.foldl (λacc x=>if acc.any (· == x) then acc else acc++[x]) acc).length<=acc.length+l.length:=by
 induction l with
 |nil=>intro acc;exact Nat.le_refl _
 |cons y l ih=>
  intro acc;rw[foldl_cons,length_cons];refine Nat.le_trans (ih _) ?_
  split
  .omega
  .rw[length_append,length_singleton];omega
section
variable{S:List (List Nat)}{rk:List Nat}{c n al:Nat}{p:Int}{w:Bool}
theorem yF(h0:n≠0):aP n≠[]:=λz=>h0 (by
 have:=gC n;rw[z]at this;exact this.symm)
theorem aP3(h0:n≠0):(∃r∈aP n,(rk.getD r 0:Int)=oJ rk n)/\∀r∈aP n,(rk.getD r 0:Int)<=oJ rk n:=by
 obtain⟨h1,h2⟩:=aTk (l:=(aP n).map λr=>(rk.getD r 0:Int)) (by simpa using yF h0)
 obtain⟨r,hr,e⟩:=List.mem_map.mp h1;exact⟨⟨r,hr,e⟩,λr hr=>h2 _ (List.mem_map.mpr ⟨r,hr,rfl⟩)⟩
theorem bGc{r:Nat}(hr:r∈aP n)(e:(rk.getD r 0:Int)=p)(hx:∀r∈aP n,(rk.getD r 0:Int)<=p):oJ rk n=p:=
 aT2 (List.mem_map.mpr ⟨r,hr,e⟩) λx hx'=>by
  obtain⟨r,hr,rfl⟩:=List.mem_map.mp hx';exact hx r hr
def yG(rk:List Nat)(al:Nat)(p:Int):Nat:=iH ((aP al).filter λr=>decide ((rk.getD r 0:Int)<=p))
theorem aMx{r:Nat}:r∈aP (yG rk al p)↔r∈aP al/\(rk.getD r 0:Int)<=p:=by
 unfold yG;rw[aG3,List.mem_filter,decide_eq_true_eq]
theorem aG5(ha:al<2^S.length):yG rk al p<2^S.length:=pA λr hr=>bH ha (List.mem_filter.mp hr).1
noncomputable def vD(S:List (List Nat))(c:Nat)(rk:List Nat)(al:Nat)(p:Int):List Nat:=(dF S c (yG rk al p)).filter λm=>decide (oJ rk m=p)
noncomputable def aVr(rk:List Nat)(al:Nat)(w:Bool):List Int:=(aHh (aAk ((aP al).map λr=>(rk.getD r 0:Int)))).filter λp=>decide (p%2=0)==w
noncomputable def nR(S:List (List Nat))(c:Nat)(rk:List Nat)(al:Nat)(w:Bool):List Nat:=(aVr rk al w).flatMap (vD S c rk al)
noncomputable def aLi(S:List (List Nat))(c:Nat)(rk:List Nat)(al:Nat)(p:Int)(r:Nat):Bool:=roundN S (fL S c (yG rk al p) r)&&decide (oJ rk (fL S c (yG rk al p) r)=p)
theorem aVs(M:Mch S rk c)(ha:al<2^S.length){r:Nat}(hr:r∈aP (yG rk al p))(hg:aLi S c rk al p r=true):LpN S c (fL S c (yG rk al p) r)/\(∀g∈aP (fL S c (yG rk al p) r),g∈aP al)/\oJ rk (fL S c (yG rk al p) r)=p:=by
 unfold aLi at hg;rw[and_eq_true,decide_eq_true_eq]at hg;exact⟨aG4 M (aG5 ha) hr hg.1,λg hg=>(aMx.mp (aMv M (aG5 ha) hr hg)).1,hg.2⟩
theorem aVt(M:Mch S rk c)(ha:al<2^S.length){m:Nat}(hm:LpN S c m)(hs:∀g∈aP m,g∈aP al)(ht:oJ rk m=p){r:Nat}(hr:r∈aP m):r∈aP (yG rk al p)/\aLi S c rk al p r=true/\∀g∈aP m,g∈aP (fL S c (yG rk al p) r):=by
 obtain⟨⟨g,hg,eg⟩,hx⟩:=aP3 (rk:=rk) hm.1;rw[ht]at eg hx;have hsub:∀g∈aP m,g∈aP (yG rk al p):=λg hg=>aMx.mpr ⟨hs g hg,hx g hg⟩
 have hin:=aTj M (aG5 ha) hm hsub hr;refine⟨hsub r hr,?_,hin⟩;unfold aLi;rw[aP0 hm hin,decide_eq_true (bGc (hin g hg) eg λy hy=>(aMx.mp (aMv M (aG5 ha) (hsub r hr) hy)).2)]
 rfl
theorem aVu(M:Mch S rk c)(ha:al<2^S.length){m:Nat}(h:m∈vD S c rk al p):m<2^S.length/\LpN S c m/\(∀g∈aP m,g∈aP al)/\oJ rk m=p:=by
 obtain⟨h1,h2⟩:=List.mem_filter.mp h;obtain⟨r,hr,rfl,hq⟩:=lZ.mp h1;exact⟨aHs,aVs M ha hr (by unfold aLi;rw[hq,h2];rfl)⟩
theorem aTo:p∈aVr rk al w↔(∃r∈aP al,(rk.getD r 0:Int)=p)/\(decide (p%2=0)==w)=true:=by
 unfold aVr;rw[List.mem_filter,bGb,List.mem_map]
end
theorem aP4{tg:Tg}{C E:Ex}{st:PSt}{q:Int->Bool}:∀(ks:List Int),(∀k∈ks,∃s1,tg (.int k) st=.ok s1/\C s1=.ok (.bl (q k))/\E s1=.ok (.int k))->gU tg C E st (ks.map D.int)=.ok ((ks.filter q).map D.int)
 |[],_=>rfl
 |k::ks,h=>by
  obtain⟨s1,a1,a2,a3⟩:=h k mem_cons_self;have ih:=aP4 ks λk hk=>h k (mem_cons_of_mem _ hk)
  rw[map_cons,nM,a1,aO,a2,aO,pP];cases hq:q k with
  |true=>rw[filter_cons_of_pos hq,map_cons,if_pos rfl,a3,aO,ih];rfl
  |false=>rw[filter_cons_of_neg (by rw[hq];decide),if_neg Bool.false_ne_true,ih]
theorem bGd(p q:Bool):dEq (.bl p) (.bl q)=.ok (.bl (p==q)):=aF ⟨zero_le 64,rfl,rfl⟩
theorem aYm(l:List Nat):dEq (.lst (nats l)) (.lst [])=.ok (.bl (decide (l=[]))):=by
 obtain⟨p1,p2,_⟩:=gD l;have:=aEw l [];rw[show nats []=[] from rfl]at this
 simp[p1,p2,this]
section
variable {al:Nat} {p:Int} {w:Bool}
theorem bE6(M:Mch S rk c){r:Nat}(hr:r<S.length):atI (nats rk) (r:Int)=some (.int (rk.getD r 0:Nat)):=by
 have hr':r<rk.length:=by rw[M.rks];exact hr
 rw[atI_nat (by rw[bD];exact hr')]
 simp[nats,getD_eq_getElem?_getD,List.getElem?_eq_getElem hr']
theorem yH(hn:n<2^S.length):(aP n).length<=S.length:=lH S.length _ (cM _) λx hx=>bH hn hx
theorem bC0(M:Mch S rk c)(ha:al<2^S.length):nC [mD S rk c,.int al,.bl w]=.ok (.lst ((aVr rk al w).map D.int)):=by
 have n8:=M.most;have hro:=mW ha (by omega)
 have hl:=yH ha;have c1:=lJ (tg:=tgN 5) (C:=dD) (E:=oV) (st:=[some (.v (mD S rk c)),some (.v (.int al)),some (.v (.bl w)),none,none,none]) (q:=λ_=>true) (G:=λr=>.int (rk.getD r 0:Nat)) (aP al) (λr hr=>⟨_,rfl,rfl,aK (show jJ "Machine" "ranks" (mD S rk c)=_ from uE) rfl (fY (bE6 M (bH ha hr)))⟩)
 rw[List.filter_eq_self.mpr λ_ _=>rfl]at c1
 have em:(aP al).map (λr=>D.int (rk.getD r 0:Nat))=((aP al).map λr=>(rk.getD r 0:Int)).map D.int:=by rw[List.map_map];rfl
 rw[em]at c1;have h1:e1 aMp (cY [5] (tgN 5) (itE (aV bW (aD (aB 1) aU))) dD oV) [some (.v (mD S rk c)),some (.v (.int al)),some (.v (.bl w)),none,none,none]=.ok (.lst ((aHh (aAk ((aP al).map λr=>(rk.getD r 0:Int)))).map D.int)):=by
  rw[aOh,gH (vC (aQ rfl hro)) (by rw[bD];omega) c1,aO]
  show (aAj _).bind _=_;rw[wO,aO];exact aF ⟨by rw[length_map];omega,Nat.lt_of_le_of_lt (aRg _ []) (by rw[length_map,length_nil];omega)⟩
 have hs:(aHh (aAk ((aP al).map λr=>(rk.getD r 0:Int)))).length<=S.length:=by
  rw[(aAl _).length_eq];refine Nat.le_trans (aRg _ []) ?_
  rw[length_map];simpa using hl
 refine bF rfl (aG (bC h1) (bU (gH (vC rfl) (by rw[length_map];omega) (aP4 (q:=λp=>decide (p%2=0)==w) _ λk _=>⟨_,rfl,aK (aK (aK rfl rfl (yE (by decide))) rfl (qG _ _)) rfl (bGd _ _),rfl⟩))))
theorem aLj:(dF S c n).length<=(aP n).length:=by
 have hf:∀(rs ps:List Nat),(rs.foldl (λps r=>if fL S c n r∉ps/\roundN S (fL S c n r)=true then ps++[fL S c n r] else ps) ps).length<=ps.length+rs.length:=λrs=>by
  induction rs with
  |nil=>intro ps;exact Nat.le_refl _
  |cons r rs ih=>
   intro ps;rw[foldl_cons,length_cons];refine Nat.le_trans (ih _) ?_
   split
   .rw[length_append,length_singleton];omega
   .omega
 have:=hf (aP n) [];unfold dF;simpa using this
theorem aTp(M:Mch S rk c)(hn:n<2^S.length) (h:m∈dF S c n):m<2^S.length/\m≠0:=by
 obtain⟨r,hr,rfl,hq⟩:=lZ.mp h;exact⟨aHs,(aG4 M hn hr hq).1⟩
theorem aVv(M:Mch S rk c)(ha:al<2^S.length):lD [mD S rk c,.int al,.int p]=.ok (.lst (nats (vD S c rk al p))):=by
 have n8:=M.most;have hro:=mW ha (by omega)
 have hl:=yH ha;have hlow:=aG5 (rk:=rk) (p:=p) ha;have h1:nD [some (.v (mD S rk c)),some (.v (.int al)),some (.v (.int p)),none,none,none]=.ok (.nx [some (.v (mD S rk c)),some (.v (.int al)),some (.v (.int p)),some (.v (.int (yG rk al p))),none,none]):=by
  refine aG (bC (aQ (bA (gH (vC (aQ rfl hro)) (by rw[bD];omega) (lJ (q:=λr=>decide ((rk.getD r 0:Int)<=p)) (G:=λr=>.int r) (aP al) λr hr=>⟨_,rfl,aK (aK (show jJ "Machine" "ranks" (mD S rk c)=_ from uE) rfl (fY (bE6 M (bH ha hr)))) rfl rfl,rfl⟩)) rfl) (aEu (l:=(aP al).filter λr=>decide ((rk.getD r 0:Int)<=p)) (λr hr=>by have:=bH ha (List.mem_filter.mp hr).1;omega) (by have:=length_filter_le (λr=>decide ((rk.getD r 0:Int)<=p)) (aP al);omega)))) rfl
 have hpl:=Nat.le_trans (aLj (S:=S) (c:=c) (n:=yG rk al p)) (yH hlow);have h2:=gH (is:=[4]) (it:=itE (aV gG (aD (aB 0) (aD (aB 3) aU)))) (st:=[some (.v (mD S rk c)),some (.v (.int al)),some (.v (.int p)),some (.v (.int (yG rk al p))),none,none]) (vC (aQ rfl (aIy M hlow))) (by rw[bD];omega) (lJ (tg:=tgN 4) (C:=lX) (E:=lW) (q:=λm=>decide (oJ rk m=p)) (G:=λr=>.int r) (dF S c (yG rk al p)) λm hm=>⟨_,rfl,aK (aQ rfl (aRe M (aTp M hlow hm).1 (aTp M hlow hm).2)) rfl (qG _ _),rfl⟩)
 refine bF rfl ?_
 show uU nD _ [some (.v (mD S rk c)),some (.v (.int al)),some (.v (.int p)),none,none,none]=_;unfold uU;rw[h1];show R.bind (cY [4] (tgN 4) (itE (aV gG (aD (aB 0) (aD (aB 3) aU)))) lX lW [some (.v (mD S rk c)),some (.v (.int al)),some (.v (.int p)),some (.v (.int (yG rk al p))),none,none]) _=_;rw[h2];rfl
theorem aLk(M:Mch S rk c)(ha:al<2^S.length):∀(ps:List Int)(F:List Nat)(x4:Option Sl),F.length+8*ps.length<=1000->∃x4',forR (tgN 4) uY (ps.map D.int) [some (.v (mD S rk c)),some (.v (.int al)),some (.v (.bl w)),some (.o .l (nats F)),x4]=.ok (.nx [some (.v (mD S rk c)),some (.v (.int al)),some (.v (.bl w)),some (.o .l (nats (F++ps.flatMap (vD S c rk al)))),x4'])
 |[],F,x4,_=>⟨x4,by rw[List.flatMap_nil,append_nil];rfl⟩
 |p::ps,F,x4,hl=>by
  rw[length_cons]at hl;have n8:=M.most;have ht:(vD S c rk al p).length<=8:=Nat.le_trans (length_filter_le _ _) (Nat.le_trans (aLj (S:=S) (c:=c)) (Nat.le_trans (yH (aG5 ha)) n8));obtain⟨x4',e⟩:=aLk M ha ps (F++vD S c rk al p) (some (.v (.int p))) (by rw[length_append];omega)
  rw[List.append_assoc]at e;have hx:=bFy (i:=3) (f:=aV lD (aD (aB 0) (aD (aB 1) (aD (aB 4) aU)))) (st:=[some (.v (mD S rk c)),some (.v (.int al)),some (.v (.bl w)),some (.o .l (nats F)),some (.v (.int p))]) (aQ rfl (aVv (p:=p) M ha)) rfl (eN (by rw[bD,bD];omega))
  refine⟨x4',fO rfl hx ?_⟩;rw[<-(show nats (F++vD S c rk al p)=nats F++nats (vD S c rk al p) from List.map_append),List.flatMap_cons]
  exact e
theorem aMy(M:Mch S rk c)(ha:al<2^S.length):dM [mD S rk c,.int al,.bl w]=.ok (.lst (nats (nR S c rk al w))):=by
 have n8:=M.most;have hr:(aVr rk al w).length<=8:=by
  refine Nat.le_trans (length_filter_le _ _) ?_
  rw[(aAl _).length_eq];refine Nat.le_trans (aRg _ []) ?_
  rw[length_map];have:=yH ha;simp only[length_nil];omega
 obtain⟨x4,e⟩:=aLk (w:=w) M ha (aVr rk al w) [] none (by simp only[length_nil];omega)
 exact bF rfl (aG (oY (fX rfl)) (aG (fJ (vC (aQ rfl (bC0 M ha))) e) rfl))
end
theorem aVw{a b c:Bd}{st:PSt}:bB (bB a b) c st=bB a (bB b c) st:=by
 show aKi (aKi (a st) b) c=aKi (a st) λs=>aKi (b s) c
 cases h:a st with
 |ok x=>cases x<;>rfl
 |exc e=>rfl
 |bad=>rfl
inductive Fits:List Nat->List Nat->Prop
 |nil:Fits [] []
 |cons {x m:Nat} {xs ms:List Nat}:x<m->Fits xs ms->Fits (x::xs) (m::ms)
theorem Fits.cut:∀{c n s:Nat}{xs:List Nat},Fits xs (List.replicate c n++[s])->∃r x,xs=r++[x]/\r.length=c/\(∀z∈r,z<n)/\x<s
 |0,n,s,_,.cons h .nil=>⟨[],_,rfl,rfl,λ_ z=>(nomatch z),h⟩
 |c+1,n,s,xs,h=>by
  rw[List.replicate_succ,cons_append]at h;cases h with
  |cons h1 h2=>
   rename_i x xs;obtain⟨r,y,e,l,a,b⟩:=h2.cut;refine⟨x::r,y,by rw[e];rfl,by rw[length_cons,l],λz hz=>?_,b⟩
   rcases List.mem_cons.mp hz with q|q
   .rw[q];exact h1
   .exact a z q
theorem aTq{k:Nat}(h:k<ns.length):atI (ns.map D.int) (k:Int)=some (.int (ns.getD k 0)):=by
 rw[atI_nat (by rw[length_map];exact h)]
 simp[getD_eq_getElem?_getD,List.getElem?_eq_getElem h]
theorem bC1(S:List (List Nat))(r:List Nat):stD (S++[r])=stD S++[.lst (nats r)]:=by unfold stD;simp
theorem aYn(l:List D)(d:D):cut (l++[d]) none (some (-1))=l:=by
 have e:((-1:Int)+((l++[d]).length:Nat)).toNat=l.length:=by rw[length_append,length_singleton];omega
 show ((l++[d]).drop 0).take ((if (-1:Int)<0 then ((-1:Int)+((l++[d]).length:Nat)).toNat else min (-1:Int).toNat (l++[d]).length)-0)=l
 rw[if_pos (by decide),e]
 simp
theorem aTr{E:Ex}{st:PSt}{tg:Tg}{n:Nat}:∀r:List Nat,(∀g∈r,∃s1 v,tg (.int (g:Nat)) st=.ok s1/\E s1=.ok (.int (v:Nat))/\v<n)->∃r',gU tg dD E st (nats r)=.ok (nats r')/\r'.length=r.length/\∀z∈r',z<n
 |[],_=>⟨[],rfl,rfl,λ_ z=>(nomatch z)⟩
 |g::r,h=>by
  obtain⟨s1,v,e1',e2',hv⟩:=h g mem_cons_self;obtain⟨r',e,l,hr⟩:=aTr r λg hg=>h g (mem_cons_of_mem _ hg)
  refine⟨v::r',?_,by rw[length_cons,length_cons,l],λz hz=>?_⟩
  .show gU tg dD E st (.int (g:Nat)::nats r)=.ok (.int (v:Nat)::nats r');rw[nM,e1'];simp only[aO,show dD s1=.ok (.bl true) from rfl,pP,if_true,e2',e]
  .rcases List.mem_cons.mp hz with q|q
   .rw[q];exact hv
   .exact hr z q
theorem aMz{i j:Int}(h : -18446744073709551616<i/\i<18446744073709551616):uV (.int i) (.int j)=.ok (.int (i*j)):=aF (.inl h)
theorem aRh{i j:Int}(h : -18446744073709551616<j/\j<18446744073709551616):uV (.int i) (.int j)=.ok (.int (i*j)):=aF (.inr h)
theorem aP5{i j:Int}(h:0<j):∃v,pO (.int i) (.int j)=.ok (.int v)/\0<=v/\v<j:=⟨i%j,yE h,Int.emod_nonneg _ (by omega),Int.emod_lt_of_pos _ h⟩
theorem aP6(ns:List Int)(k:Nat)(hk:k<=100000):∃v:Int,0<=v/\rF [.lst (ns.map D.int),.int k]=.ok (.int v):=by
 have ln:∀x,e1 lU (aB 0) [some (.v (.lst (ns.map D.int))),some (.v (.int k)),x]=.ok (.int (ns.length:Nat)):=λx=>by
  show R.ok (D.int (((ns.map D.int).length:Nat):Int))=_;rw[length_map]
 by_cases h:k<ns.length
 .obtain⟨v,e,v0,_⟩:=aP5 (i:=ns.getD k 0) (j:=1000000000000000000000000000000) (by decide)
  refine⟨v,v0,bF rfl (oX (rM (aK rfl (ln none) (by show R.ok (D.bl (decide ((k:Int)<(ns.length:Nat))))=_;rw[bJ0 h])) (bU (aK (aK rfl rfl (fY (aTq h))) (aK rfl rfl (y:=.int 30) (aF (by decide))) e))))⟩
 .have fin:∀r:Int,∃v:Int,0<=v/\e2 pO (e2 uV (e2 oG (e2 oG (e2 uV (aB 2) (eC (.int 48271))) (e2 uV (eC (.int 7919)) (aB 1))) (eC (.int 11))) (e2 oG (aB 1) (eC (.int 2)))) (eC (.int 2147483647)) [some (.v (.lst (ns.map D.int))),some (.v (.int k)),some (.v (.int r))]=.ok (.int v):=λr=>by
   obtain⟨v,e,v0,_⟩:=aP5 (i:=(r*48271+7919*(k:Int)+11)*((k:Int)+2)) (j:=2147483647) (by decide)
   exact⟨v,v0,aK (aK (aK (aK (aK rfl rfl (aRh (by decide))) (aK rfl rfl (aMz (by decide))) rfl) rfl rfl) (aK rfl rfl rfl) (aRh (by omega))) rfl e⟩
  have t1:e2 aMo (aB 1) (e1 lU (aB 0)) [some (.v (.lst (ns.map D.int))),some (.v (.int k)),none]=.ok (.bl false):=aK rfl (ln none) (by show R.ok (D.bl (decide ((k:Int)<(ns.length:Nat))))=_;rw[bJ1 h])
  by_cases h0:ns.length=0
  .obtain⟨v,v0,e⟩:=fin 0;refine⟨v,v0,bF rfl (aG (gY t1 rfl) (aG (bC rfl) (aG (gY (aK (ln _) rfl ?_) rfl) (bU e))))⟩;show R.ok (D.bl (decide ((0:Int)<(ns.length:Nat))))=_;rw[h0];rfl
  .have hm:k%ns.length<ns.length:=mod_lt _ (Nat.pos_of_ne_zero h0);have ec:((k%ns.length:Nat):Int)=(k:Int)%(ns.length:Nat):=by push_cast;rfl
   have e:=aTq hm;rw[ec]at e;obtain⟨r,er,_,_⟩:=aP5 (i:=ns.getD (k%ns.length) 0) (j:=999983) (by decide)
   obtain⟨v,v0,ev⟩:=fin r;refine⟨v,v0,bF rfl (aG (gY t1 rfl) (aG (bC rfl) (aG (rM (aK (ln _) rfl ?_) (bC (aK (aK rfl (aK rfl (ln _) (yE (by omega))) (fY e)) rfl er))) (bU ev))))⟩
   show R.ok (D.bl (decide ((0:Int)<(ns.length:Nat))))=_;rw[decide_eq_true (by omega)]
theorem aP7(c k:Int){m:Int}(h:0<m):∃v,rG [.int c,.int k,.int m]=.ok (.int v)/\0<=v/\v<m:=by
 obtain⟨a,e1',a0,a1⟩:=aP5 (i:=c+15485863*k) (j:=2147483629) (by decide)
 obtain⟨a',e2',b0,b1⟩:=aP5 (i:=a*a) (j:=2147483647) (by decide)
 obtain⟨b,e3',c0,c1⟩:=aP5 (i:=a' * 69621) (j:=2147483629) (by decide)
 obtain⟨d,e4',d0,d1⟩:=aP5 (i:=b*b) (j:=2147483587) (by decide)
 obtain⟨v,e5',v0,v1⟩:=aP5 (i:=d/32) h;refine⟨v,bF rfl (aG (bC (aK (aK rfl (aK rfl rfl (aMz (by decide))) rfl) rfl e1')) (aG (bC (aK (aK (aK (aK rfl rfl (aMz (by omega))) rfl e2') rfl (aRh (by decide))) rfl e3')) (bU (aK (aK (aK (aK rfl rfl (aMz (by omega))) rfl e4') rfl (aEq (by decide))) rfl e5')))),v0,v1⟩
theorem aLl{x1:Option Sl}:∀(ms:List Nat)(c:Int)(row:List Nat)(x3:Option Sl),(∀m∈ms,1<=m/\m<=1000)->row.length+ms.length<=1000->∃c' row' y3,forR (tgN 3) zL (nats ms) [some (.v (.int c)),x1,some (.o .l (nats row)),x3]=.ok (.nx [some (.v (.int c')),x1,some (.o .l (nats (row++row'))),y3])/\Fits row' ms
 |[],c,row,x3,_,_=>⟨c,[],x3,by rw[append_nil];rfl,.nil⟩
 |m::ms,c,row,x3,h,hl=>by
  obtain⟨m1,m2⟩:=h m mem_cons_self;rw[length_cons]at hl;have e0:c%(m:Int)=((c%(m:Int)).toNat:Int):=by have:=Int.emod_nonneg c (show (m:Int)≠0 by omega);omega
  have e1':(c%(m:Int)).toNat<m:=by have:=Int.emod_lt_of_pos c (show (0:Int)<m by omega);omega
  obtain⟨c',row',y3,e,hf⟩:=aLl (x1:=x1) ms (c/(m:Int)) (row++[(c%(m:Int)).toNat]) (some (.v (.int m))) (λm hm=>h m (mem_cons_of_mem _ hm)) (by rw[length_append,length_singleton];omega)
  rw[List.append_assoc,List.singleton_append]at e;refine⟨c',_,y3,fO rfl (aG (wB (aK rfl rfl (yE (by omega))) rfl (by rw[bD];omega)) (bC (aK rfl rfl (aEq (by omega))))) ?_,.cons e1' hf⟩
  rw[jZ,<-e0]at e;exact e
theorem aTs(c:Int)(ms:List Nat)(h:∀m∈ms,1<=m/\m<=1000)(hl:ms.length<=1000):∃row,kE [.int c,.lst (nats ms)]=.ok (.lst (nats row))/\Fits row ms:=by
 obtain⟨c',row,y3,e,hf⟩:=aLl (x1:=some (.v (.lst (nats ms)))) ms c [] none h (by rw[length_nil];omega)
 exact⟨row,bF rfl (aG (oY (fX rfl)) (aG (fJ rfl e) (bU rfl))),hf⟩
theorem aJ3{tg:Tg}{E:Ex}{st:PSt}:∀(ms:List Nat)(j:Nat),(∀i m:Nat,ms[i]?=some m->∃s1 v,tg (.int ((j+i:Nat):Int)) st=.ok s1/\E s1=.ok (.int v)/\0<=v/\v<(m:Int))->∃row,gU tg dD E st (nats (List.range' j ms.length))=.ok (nats row)/\Fits row ms
 |[],_,_=>⟨[],rfl,.nil⟩
 |m::ms,j,h=>by
  obtain⟨s1,v,e1',e2',v0,v1⟩:=h 0 m rfl;obtain⟨row,e,hf⟩:=aJ3 ms (j+1) λi m hm=>by
   obtain⟨s1,v,a,b,c⟩:=h (i+1) m (by simpa using hm)
   exact⟨s1,v,by rw[show j+1+i=j+(i+1) by omega];exact a,b,c⟩
  refine⟨v.toNat::row,?_,.cons (by omega) hf⟩
  rw[length_cons,List.range'_succ];show gU tg dD E st (.int (j:Nat)::nats (List.range' (j+1) ms.length))=_;rw[nM,show tg (.int (j:Nat)) st=.ok s1 from e1']
  have ev:nats (v.toNat::row)=.int v::nats row:=by
   show D.int ((v.toNat:Nat):Int)::nats row=_;rw[Int.toNat_of_nonneg v0]
  rw[ev];simp only[aO,show dD s1=.ok (.bl true) from rfl,pP,if_true,e2',e]
theorem aC6{i x:Nat}(h:l[i]?=some x):atI (nats l) (i:Int)=some (.int (x:Nat)):=by
 have hi:=(List.getElem?_eq_some_iff.mp h).1;rw[atI_nat (by rw[bD];exact hi),<-List.getElem?_eq_getElem]
 unfold nats;rw[List.getElem?_map,h];rfl
theorem aVx(l:List Nat)(x:Nat):atI (nats (l++[x])) (-1)=some (.int (x:Nat)):=by
 rw[jZ];unfold atI ixN;rw[if_neg (by decide),if_pos (by rw[length_append,length_singleton];omega)]
 have e:((-1:Int)+((nats l++[D.int (x:Nat)]).length:Nat)).toNat=(nats l).length:=by rw[length_append,length_singleton];omega
 show (nats l++[D.int (x:Nat)])[((-1:Int)+((nats l++[D.int (x:Nat)]).length:Nat)).toNat]?=_;rw[e];simp
theorem bC2(k:Nat)(d:D):rep k [d]=List.replicate k d:=by
 unfold rep
 induction k with
 |zero=>rfl
 |succ k ih=>rw[List.replicate_succ,List.flatten_cons,ih];rfl
theorem aYo{k g w:Nat}(hk:k<n)(hg:g<n):∃v:Nat,uW [.int k,.int g,.int w,.int n]=.ok (.int v)/\v<n:=by
 have mx:aSr (.int k) (.int g)=.ok (.int ((max k g:Nat):Int)):=by
  show R.ok (D.int (if (g:Int)>(k:Int) then (g:Int) else (k:Int)))=_
  congr 2;split<;>omega
 by_cases h1:w=1
 .refine⟨max k g,bF rfl (oX (rM (aK rfl rfl ((qG _ _).trans ?_)) (bU (aK rfl rfl mx)))),by omega⟩
  rw[decide_eq_true (by omega)]
 .have t1:e2 dEq (aB 2) (eC (.int 1)) [some (.v (.int k)),some (.v (.int g)),some (.v (.int w)),some (.v (.int n))]=.ok (.bl false):=aK rfl rfl ((qG _ _).trans (by rw[decide_eq_false (by omega)]))
  have t2:oH (e2 dEq (aB 2) (eC (.int 2))) (e2 aMo (e2 aAe (aB 1) (eC (.int 2))) (e2 aAe (aB 0) (eC (.int 2)))) [some (.v (.int k)),some (.v (.int g)),some (.v (.int w)),some (.v (.int n))]=.ok (.bl (decide ((w:Int)=2)&&decide ((g:Int)/2<(k:Int)/2))):=nQ (aK rfl rfl (qG _ _)) λ_=>aK (aK rfl rfl (aEq (by decide))) (aK rfl rfl (aEq (by decide))) rfl
  cases h2:decide ((w:Int)=2)&&decide ((g:Int)/2<(k:Int)/2)
  .exact⟨g,bF rfl (aG (gY t1 rfl) (aG (gY (t2.trans (by rw[h2])) rfl) (bU rfl))),hg⟩
  .refine⟨min (n-1) (k-k%2+g%2),bF rfl (aG (gY t1 rfl) (oX (rM (t2.trans (by rw[h2])) (bU (aK (aK rfl rfl rfl) (aK (aK rfl (aK rfl rfl (yE (by decide))) rfl) (aK rfl rfl (yE (by decide))) rfl) ?_))))),by omega⟩
   show R.ok (D.int (if (k:Int)-(k:Int)%2+(g:Int)%2<(n:Int)-1 then (k:Int)-(k:Int)%2+(g:Int)%2 else (n:Int)-1))=_
   congr 2;split<;>omega
abbrev aHj(ns:List Int)(f:Int)(ms ds:List Nat)(n:Nat)(S rk:List D)(x9 x10 x11:Option Sl):PSt:=[some (.v (.lst (ns.map D.int))),some (.v (.int 0)),some (.v (.int 6)),some (.v (.int f)),some (.v (.lst (nats ms))),some (.v (.lst (nats ds))),some (.v (.int n)),some (.o .l S),some (.o .l rk),x9,x10,x11,none,none]
section
variable{f:Int}{s d0 d1 d2 d3 d4:Nat}
theorem aRi(hn:1<=n/\n<=6)(hc:c<=3)(hs:1<=s/\s<=6)(h2:d2<4)(S:List (List Nat))(rk:List Nat)(hS:S.length<=100)(hrk:rk.length<=100)(k:Nat)(hk:k<n)(x10 x11:Option Sl) :
  ∃r v y10 y11,pU (aHj ns f (List.replicate c n++[s]) [d0,d1,d2,d3,d4] n (stD S) (nats rk) (some (.v (.int k))) x10 x11)=.ok (.nx (aHj ns f (List.replicate c n++[s]) [d0,d1,d2,d3,d4] n (stD (S++[r])) (nats (rk++[v])) (some (.v (.int k))) y10 y11))/\r.length=c/\∀z∈r,z<n:=by
 have hms:∀m∈List.replicate c n++[s],1<=m/\m<=1000:=λm hm=>by
  rcases List.mem_append.mp hm with h|h
  .rw[(List.mem_replicate.mp h).2];omega
  .rw[List.mem_singleton.mp h];omega
 have hml:(List.replicate c n++[s]).length=c+1:=by simp
 obtain⟨cl,c0,ec⟩:=aP6 ns (0+1+k) (by omega)
 rw[show ((0+1+k:Nat):Int)=0+1+(k:Int) by omega]at ec
 obtain⟨row,ed,hd⟩:=aTs cl (List.replicate c n++[s]) hms (by omega)
 have ex:∃row',(sIf (e2 dEq (e2 pO (aB 3) (eC (.int 2))) (eC (.int 0))) (cB 11 (cY [12] (tgN 12) (xW (e1 lU (aB 4))) dD pR)) cP) (aHj ns f (List.replicate c n++[s]) [d0,d1,d2,d3,d4] n (stD S) (nats rk) (some (.v (.int k))) (some (.v (.int cl))) (some (.v (.lst (nats row)))))=.ok (.nx (aHj ns f (List.replicate c n++[s]) [d0,d1,d2,d3,d4] n (stD S) (nats rk) (some (.v (.int k))) (some (.v (.int cl))) (some (.v (.lst (nats row'))))))/\Fits row' (List.replicate c n++[s]):=by
  have t:(e2 dEq (e2 pO (aB 3) (eC (.int 2))) (eC (.int 0))) (aHj ns f (List.replicate c n++[s]) [d0,d1,d2,d3,d4] n (stD S) (nats rk) (some (.v (.int k))) (some (.v (.int cl))) (some (.v (.lst (nats row)))))=.ok (.bl (decide (f%2=0))):=aK (aK rfl rfl (yE (by decide))) rfl (qG _ _)
  cases hf:decide (f%2=0)
  .exact⟨row,gY (t.trans (by rw[hf])) rfl,hd⟩
  .obtain⟨row',e,hF⟩:=aJ3 (tg:=tgN 12) (E:=pR) (st:=aHj ns f (List.replicate c n++[s]) [d0,d1,d2,d3,d4] n (stD S) (nats rk) (some (.v (.int k))) (some (.v (.int cl))) (some (.v (.lst (nats row))))) (List.replicate c n++[s]) 0 λi m hm=>by
    obtain⟨v,e,v0,v1⟩:=aP7 cl (11+((0+i:Nat):Int)) (m:=(m:Int)) (by have:=hms m (List.mem_of_getElem? hm);omega)
    exact⟨_,v,rfl,aQ (bA rfl (bA (aK rfl rfl rfl) (bA (aK rfl rfl (fY (aC6 (by rw[Nat.zero_add];exact hm)))) rfl))) e,v0,v1⟩
   refine⟨row',rM (t.trans (by rw[hf])) (bC (gH (aH2 (n:=(List.replicate c n++[s]).length) ?_ (by omega)) (by simp;omega) ?_)),hF⟩
   .show R.ok (D.int ((nats (List.replicate c n++[s])).length:Nat))=_;rw[bD]
   .rw[<-List.range_eq_range']at e;exact e
 obtain⟨row',e11,hF⟩:=ex;obtain⟨r,x,rfl,lr,hr,hx⟩:=hF.cut;have em:∃r',gU (tgN 13) dD wQ (aHj ns f (List.replicate c n++[s]) [d0,d1,d2,d3,d4] n (stD S) (nats rk) (some (.v (.int k))) (some (.v (.int cl))) (some (.v (.lst (nats (r++[x])))))) (nats r)=.ok (nats r')/\r'.length=r.length/\∀z∈r',z<n:=aTr r λg hg=>by
  obtain⟨v,e,hv⟩:=aYo (w:=d4) hk (hr g hg);exact⟨_,v,rfl,aQ (bA rfl (bA rfl (bA (aK rfl rfl (fY (d:=.int d4) rfl)) rfl))) e,hv⟩
 obtain⟨r',er,lr',hr'⟩:=em;obtain⟨b,eb⟩:∃b:Nat,e2 dIx (jX (aD (eC (.int 0)) (aD (eC (.int 0)) (aD (eC (.int 1)) (aD (e2 aVh (eC (.int 10)) (eC (.int 29))) aU))))) (e2 dIx (aB 5) (eC (.int 2))) (aHj ns f (List.replicate c n++[s]) [d0,d1,d2,d3,d4] n (stD (S++[r'])) (nats rk) (some (.v (.int k))) (some (.v (.int cl))) (some (.v (.lst (nats (r++[x]))))))=.ok (.int (b:Nat)):=by
  have el:jX (aD (eC (.int 0)) (aD (eC (.int 0)) (aD (eC (.int 1)) (aD (e2 aVh (eC (.int 10)) (eC (.int 29))) aU)))) (aHj ns f (List.replicate c n++[s]) [d0,d1,d2,d3,d4] n (stD (S++[r'])) (nats rk) (some (.v (.int k))) (some (.v (.int cl))) (some (.v (.lst (nats (r++[x]))))))=.ok (.lst (nats [0,0,1,10^29])):=fX (bA rfl (bA rfl (bA rfl (bA (aK rfl rfl (aF (by decide))) rfl))))
  obtain⟨b,hb⟩:∃b,[0,0,1,10^29][d2]?=some b:=⟨_,List.getElem?_eq_getElem (by simpa using h2)⟩
  exact⟨b,aK el (aK rfl rfl (fY (d:=.int d2) rfl)) (fY (aC6 hb))⟩
 refine⟨r',b+x,some (.v (.int cl)),some (.v (.lst (nats (r++[x])))),aG (bC (aQ (bA rfl (bA (aK (aK rfl rfl rfl) rfl rfl) rfl)) ec)) (aG (bC (aQ rfl ed)) (aG e11 (aG (st':=aHj ns f (List.replicate c n++[s]) [d0,d1,d2,d3,d4] n (stD (S++[r'])) (nats rk) (some (.v (.int k))) (some (.v (.int cl))) (some (.v (.lst (nats (r++[x])))))) ?_ ?_))),by rw[lr',lr],hr'⟩
 .rw[bC1];refine wB (d:=.lst (nats r')) (gH (vC (xs:=nats r) ?_) (by rw[bD,lr];omega) er) rfl (by rw[oZ];omega)
  show R.ok (D.lst (cut (nats (r++[x])) none (some (-1))))=_;rw[jZ,aYn]
 .have:nats (rk++[b+x])=nats rk++[.int ((b:Int)+(x:Int))]:=by rw[jZ];push_cast;rfl
  rw[this];exact wB (d:=.int ((b:Int)+(x:Int))) (aK eb (aK rfl rfl (fY (aVx r x))) rfl) rfl (by rw[bD];omega)
theorem aJ4(hn:1<=n/\n<=6)(hc:c<=3)(hs:1<=s/\s<=6)(h2:d2<4):∀(ks:List Nat) (S:List (List Nat)) (rk:List Nat) (x9 x10 x11:Option Sl),(∀x∈ks,x<n)->S.length+ks.length<=100->rk.length=S.length->(∀r∈S,r.length=c/\∀z∈r,z<n)->
  ∃S' rk' y9 y10 y11,forR (tgN 9) pU (nats ks) (aHj ns f (List.replicate c n++[s]) [d0,d1,d2,d3,d4] n (stD S) (nats rk) x9 x10 x11)=.ok (.nx (aHj ns f (List.replicate c n++[s]) [d0,d1,d2,d3,d4] n (stD S') (nats rk') y9 y10 y11))/\S'.length=S.length+ks.length/\rk'.length=S'.length/\∀r∈S',r.length=c/\∀z∈r,z<n
 |[],S,rk,x9,x10,x11,_,_,he,hr=>⟨S,rk,x9,x10,x11,rfl,rfl,he,hr⟩
 |x::ks,S,rk,x9,x10,x11,hk,hl,he,hr=>by
  rw[length_cons]at hl;obtain⟨r,v,y10,y11,t,tl,tr⟩:=aRi (ns:=ns) (f:=f) (d0:=d0) (d1:=d1) (d3:=d3) (d4:=d4) hn hc hs h2 S rk (by omega) (by omega) x (hk x mem_cons_self) x10 x11
  obtain⟨S',rk',z9,z10,z11,e,h1,h2',h3⟩:=aJ4 hn hc hs h2 ks (S++[r]) (rk++[v]) (some (.v (.int x))) y10 y11 (λx hx=>hk x (mem_cons_of_mem _ hx)) (by rw[length_append,length_singleton];omega) (by rw[length_append,length_append,length_singleton,length_singleton,he]) (λr' hr'=>by
   rcases List.mem_append.mp hr' with h|h
   .exact hr r' h
   .rw[List.mem_singleton.mp h];exact⟨tl,tr⟩)
  exact⟨S',rk',z9,z10,z11,fO rfl t e,by rw[h1,length_append,length_singleton,length_cons];omega,h2',h3⟩
theorem aYp(ns:List Int):∃S rk c,lB [.lst (ns.map D.int),.int 0,.int 6]=.ok (.tup [.lst (stD S),.lst (nats rk)])/\Mch S rk c:=by
 obtain⟨f,f0,ef⟩:=aP6 ns 0 (by omega)
 obtain⟨ds,ed,hd⟩:∃ds,(bB (cB 5 (cY [9] (tgN 9) (xW (eC (.int 5))) dD jB)) (sIf (e2 dEq (e2 pO (aB 3) (eC (.int 2))) (eC (.int 1))) (cB 5 (aV kE (aD (e2 aAe (aB 3) (eC (.int 2))) (aD (aB 4) aU)))) cP)) [some (.v (.lst (ns.map D.int))),some (.v (.int 0)),some (.v (.int 6)),some (.v (.int f)),some (.v (.lst (nats [6,3,4,4,3]))),none,none,none,none,none,none,none,none,none]=.ok (.nx [some (.v (.lst (ns.map D.int))),some (.v (.int 0)),some (.v (.int 6)),some (.v (.int f)),some (.v (.lst (nats [6,3,4,4,3]))),some (.v (.lst (nats ds))),none,none,none,none,none,none,none,none])/\Fits ds [6,3,4,4,3]:=by
  obtain⟨row,e,hF⟩:=aJ3 (tg:=tgN 9) (E:=jB) (st:=[some (.v (.lst (ns.map D.int))),some (.v (.int 0)),some (.v (.int 6)),some (.v (.int f)),some (.v (.lst (nats [6,3,4,4,3]))),none,none,none,none,none,none,none,none,none]) [6,3,4,4,3] 0 λi m hm=>by
   have hpos:0<m:=by
    have:=List.mem_of_getElem? hm;simp at this;omega
   obtain⟨v,e,v0,v1⟩:=aP7 f (1+((0+i:Nat):Int)) (m:=(m:Int)) (by omega)
   exact⟨_,v,rfl,aQ (bA rfl (bA (aK rfl rfl rfl) (bA (aK rfl rfl (fY (aC6 (by rw[Nat.zero_add];exact hm)))) rfl))) e,v0,v1⟩
  obtain⟨row',e',hF'⟩:=aTs (f/2) [6,3,4,4,3] (λm hm=>by simp at hm;omega) (by decide)
  have t:(e2 dEq (e2 pO (aB 3) (eC (.int 2))) (eC (.int 1))) [some (.v (.lst (ns.map D.int))),some (.v (.int 0)),some (.v (.int 6)),some (.v (.int f)),some (.v (.lst (nats [6,3,4,4,3]))),some (.v (.lst (nats row))),none,none,none,none,none,none,none,none]=.ok (.bl (decide (f%2=1))):=aK (aK rfl rfl (yE (by decide))) rfl (qG _ _)
  have s5:(cB 5 (cY [9] (tgN 9) (xW (eC (.int 5))) dD jB)) [some (.v (.lst (ns.map D.int))),some (.v (.int 0)),some (.v (.int 6)),some (.v (.int f)),some (.v (.lst (nats [6,3,4,4,3]))),none,none,none,none,none,none,none,none,none]=.ok (.nx [some (.v (.lst (ns.map D.int))),some (.v (.int 0)),some (.v (.int 6)),some (.v (.int f)),some (.v (.lst (nats [6,3,4,4,3]))),some (.v (.lst (nats row))),none,none,none,none,none,none,none,none]):=bC (gH (aH2 (n:=5) rfl (by omega)) (by simp) e)
  cases hf:decide (f%2=1)
  .exact⟨row,aG s5 (gY (t.trans (by rw[hf])) rfl),hF⟩
  .exact⟨row',aG s5 (rM (t.trans (by rw[hf])) (bC (aQ (bA (aK rfl rfl (aEq (by decide))) rfl) e'))),hF'⟩
 cases hd with|cons h0 hd=>cases hd with|cons h1 hd=>cases hd with|cons h2 hd=>cases hd with|cons h3 hd=>cases hd with|cons h4 hd=>
 cases hd;rename_i d0 d1 d2 d3 d4;obtain⟨s,hs,es⟩:∃s,[2,3,4,6][d3]?=some s/\1<=s/\s<=6:=by
  have:d3=0\/d3=1\/d3=2\/d3=3:=by omega
  rcases this with rfl|rfl|rfl|rfl<;>exact⟨_,rfl,by decide⟩
 obtain⟨S,rk,y9,y10,y11,e,l1,l2,hr⟩:=aJ4 (ns:=ns) (f:=f) (n:=1+d0) (c:=1+d1) (s:=s) (d0:=d0) (d1:=d1) (d2:=d2) (d3:=d3) (d4:=d4) (by omega) (by omega) es h2 (List.range (1+d0)) [] [] none none none (λx hx=>List.mem_range.mp hx) (by simp;omega) rfl (λ_ h=>(nomatch h))
 rw[length_range,length_nil,Nat.zero_add]at l1;refine⟨S,rk,1+d1,bF rfl (aG (bC (aQ rfl ef)) (aG (bC (d:=.lst (nats [6,3,4,4,3])) (fX rfl)) ?_)),⟨by omega,by omega,by omega,by omega,λr hr'=>⟨(hr r hr').1,λx hx=>by have:=(hr r hr').2 x hx;omega⟩,l2⟩⟩
 obtain⟨z1,hz1,hz2⟩:=R.ok_of (show aKi _ _=_ from ed)
 refine(aVw (a:=cB 5 (cY [9] (tgN 9) (xW (eC (.int 5))) dD jB))).symm.trans (aG ed (aG (bC (d:=.int ((1+d0:Nat):Int)) (aK rfl (aK rfl rfl (fY (d:=.int d0) rfl)) ?_)) (aG (bC (d:=.lst (nats (List.replicate (1+d1) (1+d0)++[s]))) (aK (x:=.lst (List.replicate (1+d1) (.int ((1+d0:Nat):Int)))) (y:=.lst [.int (s:Nat)]) ?_ ?_ ?_)) (aG (oY (fX rfl)) (aG (oY (fX rfl)) (aG (fJ (aH2 rfl (by omega)) e) (bU ?_)))))))
 .show R.ok (D.int (1+(d0:Int)))=_
  push_cast;rfl
 .show (R.ok [D.int ((1+d0:Nat):Int)]).bind _=_;rw[aO,show (e2 oG (eC (.int 1)) (e2 dIx (aB 5) (eC (.int 1)))) _=.ok (.int ((1+d1:Nat):Int)) from aK rfl (aK rfl rfl (fY (d:=.int d1) rfl)) (by show R.ok (D.int (1+(d1:Int)))=_;push_cast;rfl),aO]
  show aY _ (R.ok (D.lst (rep ((1+d1:Nat):Int).toNat [.int ((1+d0:Nat):Int)])))=_;rw[aF ⟨eN (by simp),eN (by simp;omega),by omega,by omega⟩,toNat_natCast,bC2]
 .have el:jX (aD (eC (.int 2)) (aD (eC (.int 3)) (aD (eC (.int 4)) (aD (eC (.int 6)) aU)))) (List.set [some (Sl.v (D.lst (ns.map D.int))),some (.v (.int 0)),some (.v (.int 6)),some (.v (.int f)),some (.v (.lst (nats [6,3,4,4,3]))),some (.v (.lst (nats [d0,d1,d2,d3,d4]))),none,none,none,none,none,none,none,none] 6 (some (.v (.int ((1+d0:Nat):Int)))))=.ok (.lst (nats [2,3,4,6])):=fX rfl;exact fX (bA (aK el (aK rfl rfl (fY (d:=.int d3) rfl)) (fY (aC6 hs))) rfl)
 .show aY _ _=_;rw[aF (eN (by simp;omega))]
  unfold nats;rw[List.map_append,List.map_replicate];rfl
 .show (R.ok [D.lst (stD S),.lst (nats rk)]).bind _=_;rw[aO];exact aF (eN (show 2<=10000000 by decide))
end
section
variable{S:List (List Nat)}{rk:List Nat}{c n:Nat}
abbrev oK(m n:Nat):Prop:=∀g∈aP m,g∈aP n
theorem aEy(h0:n≠0):aP n≠[]:=λz=>h0 (by
 have:=gC n;rw[z]at this;exact this.symm)
theorem aC7(h0:n≠0):(∃r∈aP n,(rk.getD r 0:Int)=oJ rk n)/\∀r∈aP n,(rk.getD r 0:Int)<=oJ rk n:=by
 obtain⟨h1,h2⟩:=aTk (l:=(aP n).map λr=>(rk.getD r 0:Int)) (by simpa using aEy h0)
 obtain⟨r,hr,e⟩:=List.mem_map.mp h1;exact⟨⟨r,hr,e⟩,λr hr=>h2 _ (List.mem_map.mpr ⟨r,hr,rfl⟩)⟩
def evN(rk:List Nat)(m:Nat):Bool:=decide (oJ rk m%2=0)
def szN(m:Nat):Nat:=(aP m).length
def woN(rk:List Nat)(m:Nat):Nat:=iH ((aP m).filter λr=>!decide ((rk.getD r 0:Int)=oJ rk m))
theorem uG{r:Nat}:r∈aP (woN rk m)↔r∈aP m/\(rk.getD r 0:Int)≠oJ rk m:=by
 unfold woN;rw[aG3,List.mem_filter];simp
theorem wZ{k:Nat}(h:m<2^k):woN rk m<2^k:=pA λr hr=>bH h (List.mem_filter.mp hr).1
theorem jT(M:Mch S rk c) (hm:m<2^S.length) (h:q∈dF S c m):LpN S c q/\oK q m/\q<2^S.length:=by
 obtain⟨r,hr,rfl,hq⟩:=lZ.mp h;exact⟨aG4 M hm hr hq,λg hg=>aMv M hm hr hg,aHs⟩
theorem aTt(M:Mch S rk c){m z:Nat}(hm:m<2^S.length)(hz:LpN S c z)(hs:oK z m):∃q∈dF S c m,oK z q:=by
 obtain⟨r,hr⟩:=exists_mem_of_ne_nil _ (aEy hz.1);have hsub:=aTj M hm hz hs hr;exact⟨_,lZ.mpr ⟨r,hs r hr,rfl,aP0 hz hsub⟩,hsub⟩
theorem aN0(M:Mch S rk c){p g:Nat}(hm:m<2^S.length)(hp:p∈dF S c m)(hq:q∈dF S c m)(h1:g∈aP p)(h2:g∈aP q):p=q:=by
 obtain⟨a,ha,rfl,_⟩:=lZ.mp hp;obtain⟨b,hb,rfl,_⟩:=lZ.mp hq;have la:=bH hm ha;have lb:=bH hm hb;have m1:Mut S c m a g:=(jR M la).mp (aL.mp h1);have m2:Mut S c m b g:=(jR M lb).mp (aL.mp h2);exact(aOx M lb (m2.trans m1.symm))
theorem bE7{p r:Nat}(h:oK m p)(hr:r∈aP p)(hn:r∉aP m):szN m<szN p:=by
 have nd:(r::aP m).Nodup:=List.nodup_cons.mpr ⟨hn,cM m⟩;have:=nd.length_le_of_subset (l₂:=aP p) λx hx=>by
  rcases List.mem_cons.mp hx with z|z
  .rw[z];exact hr
  .exact h x z
 rw[length_cons]at this;exact this
theorem aN1(M:Mch S rk c){p:Nat}(h0:p≠0)(hp:p<2^S.length)(h:q∈dF S c (woN rk p)):szN q<szN p/\oK q p:=by
 obtain⟨⟨r,hr,e⟩,_⟩:=aC7 (rk:=rk) h0;obtain⟨_,h2,_⟩:=jT M (wZ hp) h;exact⟨bE7 (λg hg=>(uG.mp (h2 g hg)).1) hr λz=>(uG.mp (h2 r z)).2 e,λg hg=>(uG.mp (h2 g hg)).1⟩
inductive Inl (S:List (List Nat)) (c:Nat) (rk:List Nat) (w:Bool):Nat->Nat->Prop
 |out {P Y:Nat}:Y∈dF S c (woN rk P)->evN rk Y≠w->Inl S c rk w P Y
 |go {P Q Y:Nat}:Q∈dF S c (woN rk P)->evN rk Q=w->Inl S c rk w Q Y->Inl S c rk w P Y
theorem aC8(M:Mch S rk c){w:Bool}{P Y:Nat}(h:Inl S c rk w P Y):P≠0->P<2^S.length->LpN S c Y/\oK Y (woN rk P)/\Y<2^S.length/\szN Y<szN P/\evN rk Y≠w:=by
 induction h with
 |out h1 h2=>
  intro h0 hp;obtain⟨a,b,d⟩:=jT M (wZ hp) h1;exact⟨a,b,d,(aN1 M h0 hp h1).1,h2⟩
 |go h1 h2 _ ih=>
  intro h0 hp;obtain⟨a,b,d⟩:=jT M (wZ hp) h1;obtain⟨i1,i2,i3,i4,i5⟩:=ih a.1 d;have hs:=aN1 M h0 hp h1;exact⟨i1,λg hg=>b g (uG.mp (i2 g hg)).1,i3,by omega,i5⟩
theorem bC3{z p:Nat}(h0:z≠0)(hs:oK z p){r:Nat}(hr:r∈aP z)(e:(rk.getD r 0:Int)=oJ rk p):oJ rk z=oJ rk p:=by
 obtain⟨⟨r',hr',e'⟩,hx⟩:=aC7 (rk:=rk) h0;have hp0:p≠0:=λz'=>by
  have:=hs r hr;rw[z']at this;exact absurd (aL.mp this) (by simp)
 obtain⟨_,hy⟩:=aC7 (rk:=rk) hp0;have h1:=hx r hr;have h2:=hy r' (hs r' hr');omega
theorem aLm(M:Mch S rk c){w:Bool}:∀(k P:Nat),szN P<=k->P≠0->P<2^S.length->evN rk P=w->∀{Z:Nat},LpN S c Z->oK Z P->(∃Y,Inl S c rk w P Y/\oK Z Y)\/(evN rk Z=w/\∃r∈aP Z,∀Y,Inl S c rk w P Y->r∉aP Y)
 |0,P,hk,h0,_,_,_,_,_=>absurd (List.length_eq_zero_iff.mp (Nat.le_zero.mp hk)) (aEy h0)
 |k+1,P,hk,h0,hp,hw,Z,hz,hs=>by
  by_cases ht:∃r∈aP Z,(rk.getD r 0:Int)=oJ rk P
  .obtain⟨r,hr,e⟩:=ht;refine .inr ⟨?_,r,hr,λY hy hry=>?_⟩
   .unfold evN at hw ⊢;rw[bC3 hz.1 hs hr e];exact hw
   .obtain⟨_,i2,_⟩:=aC8 M hy h0 hp;exact(uG.mp (i2 r hry)).2 e
  .obtain⟨Q,hQ,hsQ⟩:=aTt M (wZ (rk:=rk) hp) hz λg hg=>uG.mpr ⟨hs g hg,λe=>ht ⟨g,hg,e⟩⟩
   obtain⟨q1,q2,q3⟩:=jT M (wZ hp) hQ;have hsz:=aN1 M h0 hp hQ
   by_cases hq:evN rk Q=w
   .rcases aLm M k Q (by omega) q1.1 q3 hq hz hsQ with ⟨Y,hy,hzy⟩|⟨e1,r,hr,hY⟩
    .exact .inl ⟨Y,.go hQ hq hy,hzy⟩
    .refine .inr ⟨e1,r,hr,λY hy hry=>?_⟩
     have hrQ:=hsQ r hr;cases hy with
     |out h3 h4=>
      have:=aN0 M (wZ hp) hQ h3 hrQ hry;rw[<-this]at h4;exact h4 hq
     |go h3 h4 h5=>
      obtain⟨a,_,d⟩:=jT M (wZ hp) h3;obtain⟨_,i2,_⟩:=aC8 M h5 a.1 d;have:=aN0 M (wZ hp) hQ h3 hrQ (uG.mp (i2 r hry)).1;subst this;exact hY Y h5 hry
   .exact .inl ⟨Q,.out hQ hq,hsQ⟩
def bGe(base:Nat)(good:Bool):Nat:=if (decide (base%2=0))==good then base else base+1
section
variable{L:Nat->List Nat}{base:Nat}
theorem aN2{X:Nat}(h:X≠0):1<=szN X:=List.length_pos_iff.mpr (aEy h)
inductive Row (S:List (List Nat)) (c:Nat) (rk:List Nat) (base:Nat):Nat->Nat->Prop
 |one {Z:Nat}:LpN S c Z->Row S c rk base Z (bGe base (evN rk Z))
 |up {Y Z v:Nat}:Row S c rk base Y v->LpN S c Z->oK Y Z->evN rk Y≠evN rk Z->Row S c rk base Z (v+1)
end
end
section
variable{S:List (List Nat)}{rk:List Nat}{c n:Nat}
theorem bJ5(M:Mch S rk c)(hn:n<2^S.length):(aP n).length<=8:=by
 have:=lH S.length _ (cM n) λx hx=>bH hn hx
 have:=M.most;omega
theorem aP8(M:Mch S rk c)(hn:n<2^S.length){a:Nat}{st:PSt}(h:st[a]?=some (some (.v (.int (n:Int))))):aV bW (aD (aB a) aU) st=.ok (.lst (nats (aP n))):=
 aQ (bA (aEx h) rfl) (mW hn (by have:=M.most;omega))
theorem aRj(M:Mch S rk c)(hn:n<2^S.length)(h0:n≠0):qW [mD S rk c,.int n]=.ok (.int (woN rk n)):=by
 have h8:=bJ5 M hn;refine bF rfl ?_
 refine aG (st':=[some (.v (mD S rk c)),some (.v (.int n)),some (.v (.int (oJ rk n))),none]) (bC (aQ rfl (aRe M hn h0))) ?_
 have ce:gU (tgN 3) zY zX [some (.v (mD S rk c)),some (.v (.int n)),some (.v (.int (oJ rk n))),none] (nats (aP n))=.ok (nats ((aP n).filter λr=>!decide ((rk.getD r 0:Int)=oJ rk n))):=lJ (aP n) λr hr=>by
  have hr':r<rk.length:=by rw[M.rks];exact bH hn hr
  have ea:atI (nats rk) (r:Int)=some (.int (rk.getD r 0:Nat)):=by
   rw[atI_nat (by rw[bD];exact hr')]
   simp[nats,getD_eq_getElem?_getD,List.getElem?_eq_getElem hr']
  refine⟨_,rfl,?_,rfl⟩;exact aK (aK (show e1 (jJ "Machine" "ranks") (aB 0) _=.ok (.lst (nats rk)) from uE) rfl (fY ea)) rfl (aIn _ _)
 refine bU (aQ (bA (gH (vC (aP8 M hn rfl)) (by rw[bD];omega) ce) rfl) ?_)
 exact aEu (λr hr=>by have:=bH hn (List.mem_filter.mp hr).1;have:=M.most;omega) (by have:=length_filter_le (λr=>!decide ((rk.getD r 0:Int)=oJ rk n)) (aP n);omega)
theorem aJ5(f:Nat->Nat)(q:Nat->Bool):∀(rs ps:List Nat),ps.Nodup->(rs.foldl (λps r=>if f r∉ps/\q (f r)=true then ps++[f r] else ps) ps).Nodup
 |[],_,h=>h
 |r::rs,ps,h=>by
  rw[foldl_cons];refine aJ5 f q rs _ ?_
  split
  .rename_i z;refine List.nodup_append.mpr ⟨h,List.nodup_cons.mpr ⟨not_mem_nil,nodup_nil⟩,λa ha b hb e=>?_⟩
   rw[List.mem_singleton.mp hb]at e;exact z.1 (e ▸ ha)
  .exact h
theorem aP9:(dF S c m).Nodup:=aJ5 _ _ _ _ nodup_nil
def szs(l:List Nat):Nat:=(l.map szN).sum
theorem aN3(l m:List Nat):szs (l++m)=szs l+szs m:=by unfold szs;simp
theorem bGf{l:List Nat}(nd:l.Nodup)(hs:∀q∈l,oK q m)(hd:∀p∈l,∀q∈l,∀g,g∈aP p->g∈aP q->p=q):szs l<=szN m:=by
 have key:∀l:List Nat,l.Nodup->(∀p∈l,∀q∈l,∀g,g∈aP p->g∈aP q->p=q)->(l.flatMap aP).Nodup/\(l.flatMap aP).length=szs l:=λl=>by
  induction l with
  |nil=>exact λ_ _=>⟨nodup_nil,rfl⟩
  |cons p l ih=>
   intro nd hd;obtain⟨n1,n2⟩:=List.nodup_cons.mp nd;obtain⟨i1,i2⟩:=ih n2 λp hp q hq=>hd p (mem_cons_of_mem _ hp) q (mem_cons_of_mem _ hq)
   rw[List.flatMap_cons];refine⟨List.nodup_append.mpr ⟨cM p,i1,λa ha b hb e=>?_⟩,?_⟩
   .obtain⟨q,hq,hb⟩:=List.mem_flatMap.mp hb;subst e;rw[hd p mem_cons_self q (mem_cons_of_mem _ hq) a ha hb]at n1;exact n1 hq
   .rw[length_append,i2];unfold szs szN;simp
 obtain⟨k1,k2⟩:=key l nd hd;rw[<-k2];exact k1.length_le_of_subset λg hg=>by
  obtain⟨q,hq,hg⟩:=List.mem_flatMap.mp hg;exact hs q hq g hg
theorem aVy(M:Mch S rk c){p:Nat}(h0:p≠0)(hp:p<2^S.length):szs (dF S c (woN rk p))<szN p:=by
 obtain⟨⟨r,hr,e⟩,_⟩:=aC7 (rk:=rk) h0;have h1:=bGf (m:=woN rk p) aP9 (λq hq=>(jT M (wZ hp) hq).2.1) λa ha b hb g h1 h2=>aN0 M (wZ hp) ha hb h1 h2
 have h2:szN (woN rk p)<szN p:=bE7 (λg hg=>(uG.mp hg).1) hr λz=>(uG.mp z).2 e
 omega
theorem aLn(q:Nat->Bool):∀(l:List Nat),(∀x∈l,1<=szN x)->(l.filter λx=>!q x).length+szs (l.filter q)<=szs l
 |[],_=>Nat.le_refl _
 |x::l,h=>by
  have ih:=aLn q l λx hx=>h x (mem_cons_of_mem _ hx)
  have hx:=h x mem_cons_self;have e:szs (x::l)=szN x+szs l:=by unfold szs;simp
  cases hq:q x
  .rw[filter_cons_of_pos (by simp[hq]),filter_cons_of_neg (by simp[hq]),length_cons]
   omega
  .rw[filter_cons_of_neg (by simp[hq]),filter_cons_of_pos (by simp[hq])]
   have e2:szs (x::l.filter q)=szN x+szs (l.filter q):=by unfold szs;simp
   omega
abbrev ist(S:List (List Nat))(rk:List Nat)(c n:Nat)(F T:List Nat)(x4 x5:Option Sl):PSt:=[some (.v (mD S rk c)),some (.v (.int n)),some (.o .l (nats F)),some (.o .l (nats T)),x4,x5]
theorem aTu(M:Mch S rk c)(hn:n<2^S.length)(h0:n≠0){a:Nat}{st:PSt}(h:st[a]?=some (some (.v (.int (n:Int)))))(hm:st[0]?=some (some (.v (mD S rk c)))):aV oF (aD (aB 0) (aD (aB a) aU)) st=.ok (.bl (evN rk n)):=
 aQ (bA (d:=mD S rk c) (by simp[hm]) (bA (aEx h) rfl)) (bBu M hn h0)
theorem bC4(p q:Bool):dEq (.bl p) (.bl q)=.ok (.bl (p==q)):=aF ⟨zero_le 64,rfl,rfl⟩
theorem aG6(M:Mch S rk c)(hn:n<2^S.length)(h0:n≠0){x4:Option Sl}:∀(l F T:List Nat)(x5:Option Sl),(∀q∈l,q≠0/\q<2^S.length)->F.length+l.length<=1000->T.length+l.length<=1000->
  ∃y5,forR (tgN 5) zZ (nats l) (ist S rk c n F T x4 x5)=.ok (.nx (ist S rk c n (F++l.filter λq=>!(evN rk q==evN rk n)) (T++l.filter λq=>evN rk q==evN rk n) x4 y5))
 |[],F,T,x5,_,_,_=>⟨x5,by rw[filter_nil,filter_nil,append_nil,append_nil];rfl⟩
 |q::l,F,T,x5,h,hF,hT=>by
  rw[length_cons]at hF hT;obtain⟨q0,q1⟩:=h q mem_cons_self;have test:(e2 dEq (aV oF (aD (aB 0) (aD (aB 5) aU))) (aV oF (aD (aB 0) (aD (aB 1) aU)))) (ist S rk c n F T x4 (some (.v (.int q))))=.ok (.bl (evN rk q==evN rk n)):=aK (aTu M q1 q0 rfl rfl) (aTu M hn h0 rfl rfl) (bC4 _ _);cases hq:evN rk q==evN rk n
  .obtain⟨y5,e⟩:=aG6 M hn h0 (x4:=x4) l (F++[q]) T (some (.v (.int q))) (λq hq=>h q (mem_cons_of_mem _ hq)) (by simp;omega) (by omega)
   refine⟨y5,fO (s1:=ist S rk c n F T x4 (some (.v (.int q)))) rfl (gY (test.trans (by rw[hq])) (wB (d:=.int q) rfl rfl (by rw[bD];omega))) ?_⟩
   rw[filter_cons_of_pos (by simp[hq]),filter_cons_of_neg (by simp[hq])]
   rw[List.append_assoc]at e;show forR _ _ (nats l) [some (.v (mD S rk c)),some (.v (.int n)),some (.o .l (nats F++[.int q])),some (.o .l (nats T)),x4,some (.v (.int q))]=_;rw[<-jZ];exact e
  .obtain⟨y5,e⟩:=aG6 M hn h0 (x4:=x4) l F (T++[q]) (some (.v (.int q))) (λq hq=>h q (mem_cons_of_mem _ hq)) (by omega) (by simp;omega)
   refine⟨y5,fO (s1:=ist S rk c n F T x4 (some (.v (.int q)))) rfl (rM (test.trans (by rw[hq])) (wB (d:=.int q) rfl rfl (by rw[bD];omega))) ?_⟩
   rw[filter_cons_of_neg (by simp[hq]),filter_cons_of_pos (by simp[hq])]
   rw[List.append_assoc]at e;show forR _ _ (nats l) [some (.v (mD S rk c)),some (.v (.int n)),some (.o .l (nats F)),some (.o .l (nats T++[.int q])),x4,some (.v (.int q))]=_;rw[<-jZ];exact e
theorem aJ6{w:Bool}{P Y:Nat}:Inl S c rk w P Y↔(Y∈dF S c (woN rk P)/\evN rk Y≠w)\/∃Q∈dF S c (woN rk P),evN rk Q=w/\Inl S c rk w Q Y:=by
 constructor
 .intro h;cases h with
  |out h1 h2=>exact .inl ⟨h1,h2⟩
  |go h1 h2 h3=>exact .inr ⟨_,h1,h2,h3⟩
 .rintro(⟨h1,h2⟩|⟨Q,h1,h2,h3⟩)
  .exact .out h1 h2
  .exact .go h1 h2 h3
theorem aN4(T:List Nat):dNe (.lst (nats T)) (.lst [])=.ok (.bl (!decide (T=[]))):=by
 obtain⟨k1,k2,_⟩:=gD T;have kd:dep (.lst (nats T))=1:=by unfold dep;rw[k2]
 have kp:plain (.lst (nats T))=true:=by(conv=>lhs;unfold plain);exact k1
 have ke:eqD (.lst (nats T)) (.lst [])=decide (T=[]):=by(conv=>lhs;unfold eqD);exact aEw T []
 rw[aMm,aF ⟨by omega,kp,rfl⟩,ke]
theorem bC5{st:PSt}{x:D} (hf:f st=.ok x) (hs:st[j]?=some (some (.o .l (ys++[d])))) (hl:ys.length<1000) (hp:p [x,d]=.ok y):aT4 i j p f st=.ok (.nx ((st.set j (some (.o .l ys))).set i (some (.v y)))):=by
 unfold aT4;rw[hf,aO,hs];dsimp only;rw[List.getLast?_append,List.getLast?_singleton,Option.some_or];dsimp only;rw[aF (eN (by rw[length_append,length_singleton];omega)),hp,aO,List.dropLast_concat]
theorem aRk(M:Mch S rk c)(hn:n<2^S.length)(h0:n≠0):∀(k f:Nat)(F T:List Nat)(x4 x5:Option Sl),szs T<=k->k<f->(∀q∈T,q≠0/\q<2^S.length)->F.length+szs T<=100->
  ∃F' y4 y5,nJ aA1 aA0 f (ist S rk c n F T x4 x5)=.ok (.nx (ist S rk c n F' [] y4 y5))/\F'.length<=100/\∀Y,Y∈F'↔Y∈F\/∃P∈T,Inl S c rk (evN rk n) P Y:=by
 intro k
 induction k with
 |zero=>
  intro f F T x4 x5 hk hf hT hl;obtain⟨f,rfl⟩:∃g,f=g+1:=⟨f-1,by omega⟩
  cases T with
  |nil=>exact⟨F,x4,x5,wW (aK rfl (fX rfl) (aN4 [])),by omega,λY=>⟨.inl,λz=>z.elim id λ⟨_,h,_⟩=>nomatch h⟩⟩
  |cons p T=>
   have:=aN2 (hT p mem_cons_self).1;unfold szs at hk;simp at hk;omega
 |succ k ih=>
  intro f F T x4 x5 hk hf hT hl;obtain⟨f,rfl⟩:∃g,f=g+1:=⟨f-1,by omega⟩
  rcases List.eq_nil_or_concat T with rfl|⟨T',p,rfl⟩
  .exact⟨F,x4,x5,wW (aK rfl (fX rfl) (aN4 [])),by omega,λY=>⟨.inl,λz=>z.elim id λ⟨_,h,_⟩=>nomatch h⟩⟩
  .rw[List.concat_eq_append]at *;obtain⟨p0,p1⟩:=hT p (List.mem_append_right _ mem_cons_self);have hpz:=aN2 p0;have es:szs (T'++[p])=szs T'+szN p:=by rw[aN3];unfold szs;simp
   have hps:=aVy M p0 p1;have parts:∀q∈dF S c (woN rk p),q≠0/\q<2^S.length:=λq hq=>⟨(jT M (wZ p1) hq).1.1,(jT M (wZ p1) hq).2.2⟩
   have hsp:=aLn (λq=>evN rk q==evN rk n) (dF S c (woN rk p)) λq hq=>aN2 (parts q hq).1
   have lle:∀l:List Nat,(∀q∈l,q≠0)->l.length<=szs l:=λl hl=>by
    induction l with
    |nil=>exact Nat.le_refl _
    |cons q l ih=>
     have e:szs (q::l)=szN q+szs l:=by unfold szs;simp
     have:=aN2 (hl q mem_cons_self);have:=ih λq hq=>hl q (mem_cons_of_mem _ hq)
     rw[length_cons];omega
   have hlp:=lle _ λq hq=>(parts q hq).1
   have hlT:=lle T' λq hq=>(hT q (List.mem_append_left _ hq)).1
   obtain⟨y5,e1⟩:=aG6 M hn h0 (x4:=some (.v (.int (woN rk p)))) (dF S c (woN rk p)) F T' x5 parts (by omega) (by omega)
   obtain⟨F',z4,z5,e3,l3,i3⟩:=ih f (F++(dF S c (woN rk p)).filter λq=>!(evN rk q==evN rk n)) (T'++(dF S c (woN rk p)).filter λq=>evN rk q==evN rk n) (some (.v (.int (woN rk p)))) y5 (by rw[aN3];omega) (by omega) (λq hq=>by
    rcases List.mem_append.mp hq with h|h
    .exact hT q (List.mem_append_left _ h)
    .exact parts q (List.mem_filter.mp h).1) (by rw[aN3,length_append];omega)
   refine⟨F',z4,z5,aB2 (st':=ist S rk c n (F++(dF S c (woN rk p)).filter λq=>!(evN rk q==evN rk n)) (T'++(dF S c (woN rk p)).filter λq=>evN rk q==evN rk n) (some (.v (.int (woN rk p)))) y5) (aK rfl (fX rfl) ?_) (aG (st':=ist S rk c n F T' (some (.v (.int (woN rk p)))) x5) ?_ (fJ (vC (aQ rfl (aIy M (wZ p1)))) e1)) e3,l3,λY=>?_⟩
   .rw[show ofK .l (nats (T'++[p]))=.lst (nats (T'++[p])) from rfl,aN4]
    simp
   .exact bC5 (x:=mD S rk c) (ys:=nats T') (d:=.int p) rfl (by rw[<-jZ];rfl) (by rw[bD];omega) (aRj M p1 p0)
   .rw[i3 Y];constructor
    .rintro(h|⟨P,hP,h⟩)
     .rcases List.mem_append.mp h with h|h
      .exact .inl h
      .obtain⟨h1,h2⟩:=List.mem_filter.mp h;exact .inr ⟨p,List.mem_append_right _ mem_cons_self,aJ6.mpr (.inl ⟨h1,by simpa using h2⟩)⟩
     .rcases List.mem_append.mp hP with h'|h'
      .exact .inr ⟨P,List.mem_append_left _ h',h⟩
      .obtain⟨h1,h2⟩:=List.mem_filter.mp h';exact .inr ⟨p,List.mem_append_right _ mem_cons_self,aJ6.mpr (.inr ⟨P,h1,by simpa using h2,h⟩)⟩
    .rintro(h|⟨P,hP,h⟩)
     .exact .inl (List.mem_append_left _ h)
     .rcases List.mem_append.mp hP with h'|h'
      .exact .inr ⟨P,List.mem_append_left _ h',h⟩
      .rw[List.mem_singleton.mp h']at h;rcases aJ6.mp h with ⟨h1,h2⟩|⟨Q,h1,h2,h3⟩
       .exact .inl (List.mem_append_right _ (List.mem_filter.mpr ⟨h1,by simpa using h2⟩))
       .exact .inr ⟨Q,List.mem_append_right _ (List.mem_filter.mpr ⟨h1,by simpa using h2⟩),h3⟩
theorem aYq(M:Mch S rk c)(hn:n<2^S.length)(h0:n≠0):∃F,mV [mD S rk c,.int n]=.ok (.lst (nats F))/\F.length<=100/\∀Y,Y∈F↔Inl S c rk (evN rk n) n Y:=by
 have h8:=bJ5 M hn;have e1:szs [n]=szN n:=by unfold szs;simp
 have e2':szN n<=8:=h8;obtain⟨F,y4,y5,e,l,i⟩:=aRk M hn h0 8 100000 [] [n] none none (by omega) (by omega) (λq hq=>by rw[List.mem_singleton.mp hq];exact⟨h0,hn⟩) (by simp;omega)
 refine⟨F,bF rfl ?_,l,λY=>?_⟩
 .refine aG (oY (fX rfl)) (aG (st':=ist S rk c n [] [n] none none) (oY (fX (ds:=[.int n]) rfl)) (aG e ?_));exact bU rfl
 .rw[i Y];constructor
  .rintro(h|⟨P,hP,h⟩)
   .exact nomatch h
   .rw[List.mem_singleton.mp hP]at h;exact h
  .exact λh=>.inr ⟨n,mem_cons_self,h⟩
end
section
variable{S:List (List Nat)}{rk:List Nat}{c n:Nat}
theorem aPa{x0 x1 x2:Option Sl}:∀(l:List Nat)(b:Nat)(x4:Option Sl),(∀r∈l,r<=1000000)->∃y4,forR (tgN 4) aAn (nats l) [x0,x1,x2,some (.v (.int b)),x4]=.ok (.nx [x0,x1,x2,some (.v (.int (orN l b))),y4])
 |[],b,x4,_=>⟨x4,rfl⟩
 |r::l,b,x4,h=>by
  obtain⟨y4,e⟩:=aPa (x0:=x0) (x1:=x1) (x2:=x2) l (b|||2^r) (some (.v (.int r))) λr hr=>h r (mem_cons_of_mem _ hr)
  exact⟨y4,fO (d:=.int (r:Nat)) rfl (bC (aK rfl (aK rfl rfl (aRc (h r mem_cons_self))) (aEv _ _))) e⟩
theorem aJ7(M:Mch S rk c){x0:Option Sl}:∀(T:List (List Nat)) (F:List Nat) (x2 x3 x4:Option Sl),(∀r∈T,r∈S)->F.length+T.length<=100->∃y2 y3 y4,forR (tgN 2) aAo (stD T) [x0,some (.o .l (nats F)),x2,x3,x4]=.ok (.nx [x0,some (.o .l (nats (F++T.map iH))),y2,y3,y4])
 |[],F,x2,x3,x4,_,_=>⟨x2,x3,x4,by rw[List.map_nil,append_nil];rfl⟩
 |r::T,F,x2,x3,x4,h,hl=>by
  rw[length_cons]at hl;have n8:=M.most;obtain⟨z4,e1'⟩:=aPa (x0:=x0) (x1:=some (.o .l (nats F))) (x2:=some (.v (.lst (nats r)))) r 0 x4 λx hx=>by have:=(M.row r (h r mem_cons_self)).2 x hx;omega
  obtain⟨y2,y3,y4,e⟩:=aJ7 M (x0:=x0) T (F++[iH r]) (some (.v (.lst (nats r)))) (some (.v (.int (iH r)))) z4 (λr hr=>h r (mem_cons_of_mem _ hr)) (by rw[length_append,length_singleton];omega)
  rw[List.append_assoc,List.singleton_append,jZ]at e;exact⟨y2,y3,y4,fO (d:=.lst (nats r)) rfl (aG (bC rfl) (aG (fJ rfl e1') (wB (d:=.int (iH r:Nat)) rfl rfl (by rw[bD];omega)))) e⟩
def glN(S:List (List Nat)):List Nat:=S.map iH
theorem aVz(M:Mch S rk c):tD [.lst (stD S)]=.ok (.lst (nats (glN S))):=by
 have n8:=M.most;obtain⟨y2,y3,y4,e⟩:=aJ7 M (x0:=some (.v (.lst (stD S)))) S [] none none none (λ_ h=>h) (by rw[length_nil];omega)
 exact bF rfl (aG (oY (fX rfl)) (aG (fJ rfl e) (bU rfl)))
theorem bE8{k:Nat}(hk:k<S.length):(glN S)[k]?=some (iH (S.getD k [])):=by
 unfold glN;rw[List.getElem?_map,List.getElem?_eq_getElem hk,getD_eq_getElem?_getD,List.getElem?_eq_getElem hk];rfl
theorem aRl:(glN S).length=S.length:=length_map _
theorem bJ6(M:Mch S rk c){k:Nat}(hk:k<S.length):iH (S.getD k [])<2^S.length:=pA λr hr=>by
 rw[getD_eq_getElem?_getD,List.getElem?_eq_getElem hk]at hr;exact(M.row _ (List.getElem_mem hk)).2 r hr
def nxN(S:List (List Nat))(ins:Nat)(F:Nat)(ks:List Nat)(w:Nat):Nat:=ks.foldl (λw k=>if F.testBit k=true then w|||(iH (S.getD k [])&&&ins) else w) w
theorem aRm{ins F:Nat}(g:Nat):∀(ks:List Nat)(w:Nat),(nxN S ins F ks w).testBit g=true↔w.testBit g=true\/∃k∈ks,F.testBit k=true/\g∈S.getD k []/\ins.testBit g=true
 |[],w=>⟨.inl,λz=>z.elim id λ⟨_,h,_⟩=>nomatch h⟩
 |k::ks,w=>by
  have ih:=aRm (ins:=ins) (F:=F) g ks (if F.testBit k=true then w|||(iH (S.getD k [])&&&ins) else w)
  show (nxN S ins F ks _).testBit g=true↔_;rw[ih];constructor
  .rintro(h|⟨j,hj,h⟩)
   .by_cases hk:F.testBit k=true
    .rw[if_pos hk,testBit_or,or_eq_true,testBit_and,and_eq_true,fZ,decide_eq_true_eq]at h;rcases h with h|h
     .exact .inl h
     .exact .inr ⟨k,mem_cons_self,hk,h.1,h.2⟩
    .rw[if_neg hk]at h;exact .inl h
   .exact .inr ⟨j,mem_cons_of_mem _ hj,h⟩
  .rintro(h|⟨j,hj,h1,h2,h3⟩)
   .refine .inl ?_
    by_cases hk:F.testBit k=true
    .rw[if_pos hk,testBit_or,h];rfl
    .rw[if_neg hk];exact h
   .rcases List.mem_cons.mp hj with e|hj
    .subst e;refine .inl ?_
     rw[if_pos h1,testBit_or,testBit_and,fZ,decide_eq_true h2,h3,or_eq_true];exact .inr rfl
    .exact .inr ⟨j,hj,h1,h2,h3⟩
abbrev cst(S:List (List Nat))(ins b F:Nat)(m:Bool)(x5 x6:Option Sl):PSt:=[some (.v (.lst (nats (glN S)))),some (.v (.int ins)),some (.v (.int b)),some (.v (.int F)),some (.v (.bl m)),x5,x6]
theorem aJ8{ins b F:Nat}{m:Bool}:∀(ks:List Nat)(w:Nat)(x6:Option Sl),(∀k∈ks,k<S.length)->∃y6,forR (tgN 6) aAp (nats ks) (cst S ins b F m (some (.v (.int w))) x6)=.ok (.nx (cst S ins b F m (some (.v (.int (nxN S ins F ks w)))) y6))
 |[],w,x6,_=>⟨x6,rfl⟩
 |k::ks,w,x6,h=>by
  obtain⟨y6,e⟩:=aJ8 (ins:=ins) (b:=b) (F:=F) (m:=m) ks (if F.testBit k=true then w|||(iH (S.getD k [])&&&ins) else w) (some (.v (.int k))) λk hk=>h k (mem_cons_of_mem _ hk)
  have t:(e2 dEq (e2 uA (e2 aFv (aB 3) (aB 6)) (eC (.int 1))) (eC (.int 1))) (cst S ins b F m (some (.v (.int w))) (some (.v (.int k))))=.ok (.bl (F.testBit k)):=bG6 rfl rfl;refine⟨y6,fO (d:=.int (k:Nat)) (s1:=cst S ins b F m (some (.v (.int w))) (some (.v (.int k)))) (s2:=cst S ins b F m (some (.v (.int (if F.testBit k=true then w|||(iH (S.getD k [])&&&ins) else w:Nat)))) (some (.v (.int k)))) rfl ?_ e⟩
  cases hk:F.testBit k
  .rw[if_neg Bool.false_ne_true];exact gY (t.trans (by rw[hk])) rfl
  .rw[if_pos rfl];exact rM (t.trans (by rw[hk])) (bC (aK rfl (aK (aK rfl rfl (fY (aC6 (bE8 (h k mem_cons_self))))) rfl (tM _ _)) (aEv _ _)))
def Clo(S:List (List Nat))(c ins b g:Nat):Prop:=∃s,b.testBit s=true/\ins.testBit s=true/\Rch S c (inN ins) s g
theorem bC6(M:Mch S rk c){ins a g:Nat}{s:Nat}(ha:a<S.length)(hr:Rch S c (inN ins) s a)(hg:g∈S.getD a [])(hi:ins.testBit g=true):Rch S c (inN ins) s g:=by
 obtain⟨l,hl,rfl⟩:=(wX M ha).mp hg;exact .on hr hl hi
theorem aRn(M:Mch S rk c){ins b:Nat}(hb:b<2^S.length):∀(k f F:Nat)(x5 x6:Option Sl),S.length<=(aP F).length+k->k+2<=f->F<2^S.length->(∀g,F.testBit g=true->Clo S c ins b g)->(∀g,b.testBit g=true->ins.testBit g=true->F.testBit g=true)->
  ∃F' y5 y6,nJ aAq uB f (cst S ins b F true x5 x6)=.ok (.nx (cst S ins b F' false y5 y6))/\F' < 2^S.length/\∀g,F'.testBit g=true↔Clo S c ins b g:=by
 have n8:=M.most;intro k
 induction k with
 |zero=>
  intro f F x5 x6 hk hf hF h1 h2;obtain⟨f,rfl⟩:∃g,f=g+2:=⟨f-2,by omega⟩
  have lt:∀g,F.testBit g=true->g<S.length:=λg hg=>bH hF (aL.mpr hg)
  obtain⟨y6,e⟩:=aJ8 (S:=S) (ins:=ins) (b:=b) (F:=F) (m:=true) (List.range S.length) F x6 λk hk=>List.mem_range.mp hk
  have all:∀g,g<S.length->F.testBit g=true:=λg hg=>aL.mp (by
   refine Classical.byContradiction λhn=>?_
   have:=(List.nodup_cons.mpr ⟨hn,cM F⟩).length_le_of_subset (l₂:=List.range S.length) λx hx=>by
    rcases List.mem_cons.mp hx with q|q
    .rw[q];exact List.mem_range.mpr hg
    .exact List.mem_range.mpr (bH hF q)
   rw[length_cons,length_range]at this;omega)
  have same:nxN S ins F (List.range S.length) F=F:=eq_of_testBit_eq λg=>by
   have:=aRm (S:=S) (ins:=ins) (F:=F) g (List.range S.length) F;cases hg:F.testBit g with
   |true=>exact this.mpr (.inl hg)
   |false=>
    cases hz:(nxN S ins F (List.range S.length) F).testBit g with
    |false=>rfl
    |true=>
     rcases this.mp hz with q|⟨a,ha,_,h4,_⟩
     .rw[hg]at q;cases q
     .have:=all g (by
       have ha:=List.mem_range.mp ha;rw[getD_eq_getElem?_getD,List.getElem?_eq_getElem ha]at h4;exact(M.row _ (List.getElem_mem ha)).2 g h4)
      rw[hg]at this;cases this
  rw[same]at e;refine⟨F,some (.v (.int F)),y6,aB2 rfl (aG (bC rfl) (aG (fJ (aH2 (n:=S.length) (by show R.ok (D.int ((nats (glN S)).length:Nat))=_;rw[bD,aRl]) (by omega)) e) (aG (bC (d:=.bl false) (aK rfl rfl ((aIn _ _).trans (by rw[decide_eq_true rfl];rfl)))) (bC rfl)))) (wW rfl),hF,λg=>⟨h1 g,λhg=>?_⟩⟩
  .obtain⟨s,s1,s2,hr⟩:=hg;exact all g (aB4 M (lt s (h2 s s1 s2)) hr)
 |succ k ih=>
  intro f F x5 x6 hk hf hF h1 h2;obtain⟨f,rfl⟩:∃g,f=g+1:=⟨f-1,by omega⟩
  have lt:∀g,F.testBit g=true->g<S.length:=λg hg=>bH hF (aL.mpr hg)
  obtain⟨y6,e⟩:=aJ8 (S:=S) (ins:=ins) (b:=b) (F:=F) (m:=true) (List.range S.length) F x6 λk hk=>List.mem_range.mp hk
  have hbit:=λg=>aRm (S:=S) (ins:=ins) (F:=F) g (List.range S.length) F
  have body:∀m,(!decide (((nxN S ins F (List.range S.length) F:Nat):Int)=(F:Int)))=m->uB (cst S ins b F true x5 x6)=.ok (.nx (cst S ins b (nxN S ins F (List.range S.length) F) m (some (.v (.int (nxN S ins F (List.range S.length) F)))) y6)):=λm hm=>by
   refine aG (bC rfl) (aG (fJ (aH2 (n:=S.length) (by show R.ok (D.int ((nats (glN S)).length:Nat))=_;rw[bD,aRl]) (by omega)) e) (aG (bC (d:=.bl m) (aK rfl rfl ((aIn _ _).trans (by rw[hm])))) (bC rfl)))
  by_cases same:nxN S ins F (List.range S.length) F=F
  .have hb':=body false (by rw[same,decide_eq_true rfl];rfl)
   rw[same]at hb';obtain⟨f,rfl⟩:∃g,f=g+1:=⟨f-1,by omega⟩
   refine⟨F,_,y6,aB2 rfl hb' (wW rfl),hF,λg=>⟨h1 g,λhg=>?_⟩⟩
   obtain⟨s,s1,s2,hr⟩:=hg
   induction hr with
   |here=>exact h2 s s1 s2
   |on hr hl ha ih2=>
    rename_i r l;have hr':=ih2;have hlt:=lt r hr';rw[<-same];exact(hbit _).mpr (.inr ⟨r,List.mem_range.mpr hlt,hr',(wX M hlt).mpr ⟨l,hl,rfl⟩,ha⟩)
  .have hb':=body true (by rw[decide_eq_false λz=>same (by omega)];rfl)
   have sub:∀g,F.testBit g=true->(nxN S ins F (List.range S.length) F).testBit g=true:=λg hg=>(hbit g).mpr (.inl hg)
   have hN:nxN S ins F (List.range S.length) F<2^S.length:=Nat.lt_pow_two_of_testBit _ λg hg=>by
    cases hz:(nxN S ins F (List.range S.length) F).testBit g with
    |false=>rfl
    |true=>
     rcases (hbit g).mp hz with q|⟨a,ha,_,h4,_⟩
     .have:=lt g q;omega
     .have ha:=List.mem_range.mp ha;rw[getD_eq_getElem?_getD,List.getElem?_eq_getElem ha]at h4;have:=(M.row _ (List.getElem_mem ha)).2 g h4;omega
   have more:(aP F).length<(aP (nxN S ins F (List.range S.length) F)).length:=by
    refine Classical.byContradiction λhn=>same ?_
    have hle:(aP F).length=(aP (nxN S ins F (List.range S.length) F)).length:=Nat.le_antisymm ((cM F).length_le_of_subset λg hg=>aL.mpr (sub g (aL.mp hg))) (by omega)
    refine aYg (λg hg=>?_) λg hg=>aL.mpr (sub g (aL.mp hg))
    exact sub_len (cM F) (λg hg=>aL.mpr (sub g (aL.mp hg))) hle hg
   obtain⟨F',z5,z6,e3,l3,i3⟩:=ih f (nxN S ins F (List.range S.length) F) (some (.v (.int (nxN S ins F (List.range S.length) F)))) y6 (by omega) (by omega) hN (λg hg=>by
    rcases (hbit g).mp hg with q|⟨a,ha,h3,h4,h5⟩
    .exact h1 g q
    .obtain⟨s,s1,s2,hr⟩:=h1 a h3;exact⟨s,s1,s2,bC6 M (List.mem_range.mp ha) hr h4 h5⟩) (λg g1 g2=>sub g (h2 g g1 g2))
   exact⟨F',z5,z6,aB2 rfl hb' e3,l3,i3⟩
theorem aPb(M:Mch S rk c){ins b:Nat}(hb:b<2^S.length):∃F:Nat,gF [.lst (nats (glN S)),.int ins,.int b]=.ok (.int F)/\F<2^S.length/\∀g,F.testBit g=true↔Clo S c ins b g:=by
 have n8:=M.most;have hand:b&&&ins<2^S.length:=Nat.lt_of_le_of_lt Nat.and_le_left hb;obtain⟨F,y5,y6,e,l,i⟩:=aRn M (ins:=ins) (b:=b) hb S.length 100000 (b&&&ins) none none (by omega) (by omega) hand (λg hg=>by
  rw[testBit_and,and_eq_true]at hg;exact⟨g,hg.1,hg.2,.here⟩) (λg g1 g2=>by rw[testBit_and,g1,g2];rfl)
 exact⟨F,bF rfl (aG (bC (aK rfl rfl (tM _ _))) (aG (bC rfl) (aG e (bU rfl)))),l,i⟩
theorem aW0(M:Mch S rk c) {a b:Nat} (ha:a<S.length) (h:Rch S c al a b):a=b\/∃s∈S.getD a [],al s=true/\Rch S c al s b:=by
 induction h with
 |here=>exact .inl rfl
 |on h hl hg ih=>
  rename_i r l;rcases ih with e|⟨s,hs,h1,h2⟩
  .subst e;exact .inr ⟨_,(wX M ha).mpr ⟨l,hl,rfl⟩,hg,.here⟩
  .exact .inr ⟨s,hs,h1,.on h2 hl hg⟩
theorem aYr(M:Mch S rk c) (h0:m≠0) (hm:m<2^S.length):LpN S c m↔∀k,m.testBit k=true->∀g,m.testBit g=true->Clo S c m (iH (S.getD k [])) g:=by
 have lt:∀g,m.testBit g=true->g<S.length:=λg hg=>bH hm (aL.mpr hg)
 constructor
 .rintro⟨_,h1,h2⟩ k hk g hg;have go:∀{b},Rch S c (inN m) k b->b≠k->∃s∈S.getD k [],m.testBit s=true/\Rch S c (inN m) s b:=λ{b} h hn=>by
   rcases aW0 M (lt k hk) h with e|e
   .exact(hn e.symm).elim
   .exact e
  have fin:∀s,s∈S.getD k []->m.testBit s=true->Rch S c (inN m) s g->Clo S c m (iH (S.getD k [])) g:=λs h1 h2 h3=>⟨s,by rw[fZ,decide_eq_true h1],h2,h3⟩
  by_cases e:g=k
  .subst e
   by_cases hx:∃b,m.testBit b=true/\b≠g
   .obtain⟨b,hb,hne⟩:=hx;obtain⟨s,s1,s2,s3⟩:=go (h1 g (aL.mpr hk) b (aL.mpr hb)) hne;exact fin s s1 s2 (Rch.trans s3 (h1 b (aL.mpr hb) g (aL.mpr hk)))
   .have only:∀b∈aP m,b=g:=λb hb=>Classical.byContradiction λhn=>hx ⟨b,aL.mp hb,hn⟩
    have hl:aP m=[g]:=by
     have nd:=cM m;have hg':=aL.mpr hk;cases hmm:aP m with
     |nil=>rw[hmm]at hg';cases hg'
     |cons a T=>
      rw[hmm]at only nd;have ea:=only a mem_cons_self;cases T with
      |nil=>rw[ea]
      |cons b T=>
       have eb:=only b (mem_cons_of_mem _ mem_cons_self);rw[ea,eb]at nd;exact absurd mem_cons_self (List.nodup_cons.mp nd).1
    unfold roundN at h2;rw[hl]at h2;have:g∈S.getD g []:=by simpa using h2
    exact fin g this hk .here
  .obtain⟨s,s1,s2,s3⟩:=go (h1 k (aL.mpr hk) g (aL.mpr hg)) e;exact fin s s1 s2 s3
 .intro h;refine⟨h0,λa ha b hb=>?_,?_⟩
  .obtain⟨s,s1,s2,s3⟩:=h a (aL.mp ha) b (aL.mp hb);rw[fZ,decide_eq_true_eq]at s1;obtain⟨l,hl,rfl⟩:=(wX M (bH hm ha)).mp s1;exact Rch.trans (.on .here hl s2) s3
  .unfold roundN;rw[or_eq_true,decide_eq_true_eq,decide_eq_true_eq];cases hmm:aP m with
   |nil=>
    refine(h0 ?_).elim;have:=gC m;rw[hmm]at this;exact this.symm
   |cons a T=>
    cases T with
    |cons b T=>exact .inl (by simp)
    |nil=>
     have ha:m.testBit a=true:=aL.mp (by rw[hmm];exact mem_cons_self)
     obtain⟨s,s1,s2,_⟩:=h a ha a ha;have:s∈aP m:=aL.mpr s2;rw[hmm]at this;rw[fZ,decide_eq_true_eq,List.mem_singleton.mp this]at s1;exact .inr s1
end
theorem aPc(n:Nat):kJ 1 n=nats (List.range' 1 n):=by
 unfold kJ nats;rw[List.range'_eq_map_range,List.map_map];refine List.map_congr_left λk _=>?_
 show D.int (1+(k:Int))=D.int ((1+k:Nat):Int)
 push_cast
 rfl
section
variable{S:List (List Nat)}{rk:List Nat}{c n:Nat}
open Classical in
noncomputable def aW1(S:List (List Nat))(c al:Nat):List Nat:=(List.range' 1 al).filter λm=>decide (m&&&al=m)&&decide (LpN S c m)
theorem yI{o:Nat}:m&&&o=m↔oK m o:=by
 constructor
 .intro h g hg;have:=aL.mp hg;rw[<-h,testBit_and,and_eq_true]at this;exact aL.mpr this.2
 .intro h;refine eq_of_testBit_eq λg=>?_
  rw[testBit_and];cases hg:m.testBit g with
  |false=>rfl
  |true=>rw[aL.mp (h g (aL.mpr hg))];rfl
open Classical in
theorem aTv{al m:Nat}:m∈aW1 S c al↔LpN S c m/\oK m al:=by
 unfold aW1;rw[List.mem_filter,and_eq_true,decide_eq_true_eq,decide_eq_true_eq,yI,List.mem_range'_1];constructor
 .exact λh=>⟨h.2.2,h.2.1⟩
 .intro h;have h0:=h.1.1;have:m<=al:=by rw[<-yI.mpr h.2];exact Nat.and_le_right
  exact⟨by omega,h.2,h.1⟩
theorem aYs(M:Mch S rk c){k:Nat}(h0:m≠0)(hk:k<S.length):∃F:Nat,gF [.lst (nats (glN S)),.int m,.int (iH (S.getD k []):Nat)]=.ok (.int F)/\(F=m↔∀g,m.testBit g=true->Clo S c m (iH (S.getD k [])) g):=by
 obtain⟨F,e,_,hF⟩:=aPb M (ins:=m) (bJ6 M hk);refine⟨F,e,?_⟩;constructor
 .rintro rfl g hg;exact(hF g).mp hg
 .intro h;refine eq_of_testBit_eq λg=>?_
  cases hg:m.testBit g with
  |true=>exact(hF g).mpr (h g hg)
  |false=>
   cases hz:F.testBit g with
   |false=>rfl
   |true=>
    obtain⟨s,_,s2,s3⟩:=(hF g).mp hz;have:m.testBit g=true:=aIv (al:=inN m) s2 s3;rw[hg]at this;cases this
abbrev aPd(S:List (List Nat))(al:Nat)(F:List Nat)(x3 x4:Option Sl):PSt:=[some (.v (.lst (nats (glN S)))),some (.v (.int al)),some (.o .l (nats F)),x3,x4,none]
open Classical in
theorem aYt(M:Mch S rk c){al m:Nat}(h0:m≠0)(hal:al<2^S.length){F:List Nat}(hl:F.length<=1000)(x4:Option Sl):∃y4,nO (aPd S al F (some (.v (.int m))) x4)=.ok (.nx (aPd S al (if decide (m&&&al=m)&&decide (LpN S c m) then F++[m] else F) (some (.v (.int m))) y4)):=by
 have n8:=M.most;have t:e2 dEq (e2 uA (aB 3) (aB 1)) (aB 3) (aPd S al F (some (.v (.int m))) x4)=.ok (.bl (decide (m&&&al=m))):=eqE (aK rfl rfl (tM _ _)) (aEx rfl)
 by_cases h:m&&&al=m
 .rw[decide_eq_true h]at t;rw[decide_eq_true h,Bool.true_and];have hm:m<2^S.length:=by rw[<-h];exact Nat.lt_of_le_of_lt Nat.and_le_right hal
  have ce:gU (tgN 5) uD uC (aPd S al F (some (.v (.int m))) x4) (nats (List.range S.length))=.ok (nats ((List.range S.length).filter λk=>m.testBit k && !decide (∀g,m.testBit g=true->Clo S c m (iH (S.getD k [])) g))):=lJ (List.range S.length) λk hk=>by
   have hk:=List.mem_range.mp hk;obtain⟨Fk,e,hF⟩:=aYs M h0 hk;refine⟨_,rfl,nQ (bG6 rfl rfl) λ_=>?_,rfl⟩
   refine aK (aQ (bA rfl (bA rfl (bA (aK rfl rfl (fY (aC6 (bE8 hk)))) rfl))) e) rfl ((aIn _ _).trans ?_);have:decide ((Fk:Int)=(m:Int))=decide (∀g,m.testBit g=true->Clo S c m (iH (S.getD k [])) g):=decide_eq_decide.mpr (Iff.trans ⟨λz=>by omega,λz=>by omega⟩ hF)
   rw[this]
  have lp:((List.range S.length).filter λk=>m.testBit k && !decide (∀g,m.testBit g=true->Clo S c m (iH (S.getD k [])) g))=[]↔LpN S c m:=by
   rw[aYr M h0 hm,List.filter_eq_nil_iff];constructor
   .intro hz k hk;have:=hz k (List.mem_range.mpr (bH hm (aL.mpr hk)));rw[hk,Bool.true_and,not_eq_true',decide_eq_false_iff_not]at this;exact Classical.byContradiction λz=>this z
   .intro hz k _ z;rw[and_eq_true,not_eq_true',decide_eq_false_iff_not]at z;exact z.2 (hz k z.1)
  have em:=gH (is:=[5]) (it:=xW (e1 lU (aB 0))) (st:=aPd S al F (some (.v (.int m))) x4) (aH2 (n:=S.length) (by show R.ok (D.int ((nats (glN S)).length:Nat))=_;rw[bD,aRl]) (by omega)) (by simp;omega) ce
  refine⟨some (.v (.lst (nats ((List.range S.length).filter λk=>m.testBit k && !decide (∀g,m.testBit g=true->Clo S c m (iH (S.getD k [])) g))))),rM t (aG (bC em) ?_)⟩
  by_cases hL:LpN S c m
  .rw[decide_eq_true hL,if_pos rfl];have ea:=jZ F m;unfold aPd;rw[ea];exact rM (aK rfl (fX rfl) ((aYm _).trans (by rw[decide_eq_true (lp.mpr hL)]))) (wB (d:=.int (m:Nat)) rfl rfl (by rw[bD];omega))
  .rw[decide_eq_false hL,if_neg Bool.false_ne_true];exact gY (aK rfl (fX rfl) ((aYm _).trans (by rw[decide_eq_false λz=>hL (lp.mp z)]))) rfl
 .rw[decide_eq_false h]at t;rw[decide_eq_false h,Bool.false_and,if_neg Bool.false_ne_true];exact⟨x4,gY t rfl⟩
open Classical in
theorem aJ9(M:Mch S rk c){al:Nat}(hal:al<2^S.length):∀(ms F:List Nat)(x3 x4:Option Sl),(∀m∈ms,m≠0)->F.length+ms.length<=1000->∃y3 y4,forR (tgN 3) nO (nats ms) (aPd S al F x3 x4)=.ok (.nx (aPd S al (F++ms.filter λm=>decide (m&&&al=m)&&decide (LpN S c m)) y3 y4))
 |[],F,x3,x4,_,_=>⟨x3,x4,by rw[filter_nil,append_nil];rfl⟩
 |m::ms,F,x3,x4,h,hl=>by
  rw[length_cons]at hl;obtain⟨z4,e1'⟩:=aYt M (h m mem_cons_self) hal (F:=F) (by omega) x4
  cases hq:decide (m&&&al=m)&&decide (LpN S c m)
  .rw[hq,if_neg Bool.false_ne_true]at e1';obtain⟨y3,y4,e⟩:=aJ9 M hal ms F (some (.v (.int m))) z4 (λm hm=>h m (mem_cons_of_mem _ hm)) (by omega)
   refine⟨y3,y4,fO (d:=.int (m:Nat)) rfl e1' ?_⟩;rw[filter_cons_of_neg (by rw[hq];decide)]
   exact e
  .rw[hq,if_pos rfl]at e1';obtain⟨y3,y4,e⟩:=aJ9 M hal ms (F++[m]) (some (.v (.int m))) z4 (λm hm=>h m (mem_cons_of_mem _ hm)) (by rw[length_append,length_singleton];omega)
   refine⟨y3,y4,fO (d:=.int (m:Nat)) rfl e1' ?_⟩;rw[filter_cons_of_pos (by rw[hq])]
   rw[List.append_assoc]at e;exact e
theorem aYu(M:Mch S rk c):2^S.length<=256:=by
 have:2^S.length<=2^8:=Nat.pow_le_pow_right (by decide) M.most
 omega
theorem bC7(M:Mch S rk c){al:Nat}(hal:al<2^S.length):(aW1 S c al).length<=256:=by
 have:=aYu M;unfold aW1;refine Nat.le_trans (length_filter_le _ _) ?_
 rw[List.length_range'];omega
theorem bC8(M:Mch S rk c){al:Nat}(hal:al<2^S.length):jC [.lst (nats (glN S)),.int al]=.ok (.lst (nats (aW1 S c al))):=by
 have n2:=aYu M;obtain⟨y3,y4,e⟩:=aJ9 M hal (List.range' 1 al) [] none none (λm hm=>by have:=(List.mem_range'_1.mp hm).1;omega) (by rw[length_nil,List.length_range'];omega)
 refine bF rfl (aG (oY (fX rfl)) (aG (fJ (xs:=nats (List.range' 1 al)) ?_ e) (bU rfl)));rw[bBj,show eC (.int 1) _=.ok (.int 1) from rfl,aO,show e2 oG (aB 1) (eC (.int 1)) _=.ok (.int ((al:Int)+1)) from rfl,aO]
 show aY _ (R.ok (kJ 1 ((al:Int)+1-1).toNat))=_;rw[aF ?_,show ((al:Int)+1-1).toNat=al by omega,aPc]
 exact⟨aE0 (by omega),xU (by omega),aE0 (by omega),xU (by omega)⟩
end
theorem aJa{e:Ex}{st:PSt} {j:Int} (he:e st=.ok d) (hg:g st=.ok (.int j)) (hs:st[i]?=some (some (.o .l xs))) (h0:0<=j) (h1:j<xs.length):aOg i g e st=.ok (.nx (st.set i (some (.o .l (xs.set j.toNat d))))):=by
 unfold aOg;rw[he,aO,hg,aO];show (match st[i]? with|some (some (.o .l xs))=>_|_=>_)=_
 rw[hs];show (ofO (ixN xs.length j)).bind _=_;unfold ixN;rw[if_pos h0,if_pos h1];rfl
section
variable{S:List (List Nat)}{rk:List Nat}{c n:Nat}
open Classical in
noncomputable def ahN(S:List (List Nat))(c m:Nat):Nat:=iH ((List.range S.length).filter λg=>decide (Clo S c 255 m g))
open Classical in
theorem aTw(M:Mch S rk c){m:Nat}(hm:m<2^S.length):gF [.lst (nats (glN S)),.int 255,.int m]=.ok (.int (ahN S c m:Nat))/\∀g,(ahN S c m).testBit g=true↔Clo S c 255 m g:=by
 obtain⟨F,e,l,hF⟩:=aPb M (ins:=255) hm;have ef:F=ahN S c m:=eq_of_testBit_eq λg=>by
  unfold ahN;rw[fZ];cases hz:F.testBit g with
  |true=>exact(decide_eq_true (List.mem_filter.mpr ⟨List.mem_range.mpr (bH l (aL.mpr hz)),decide_eq_true ((hF g).mp hz)⟩)).symm
  |false=>
   refine(decide_eq_false λz=>?_).symm
   have:=(hF g).mpr (of_decide_eq_true (List.mem_filter.mp z).2);rw[hz]at this;cases this
 rw[<-ef];exact⟨e,hF⟩
theorem aEz(M:Mch S rk c)(hn:n<2^S.length)(h0:n≠0):lC [.lst (nats rk),.int n]=.ok (.bl (evN rk n)):=bF rfl (bU (aK (aK (aQ rfl (bBv M hn h0)) rfl (yE (by decide))) rfl (qG _ _)))
def toN(A:Nat->Nat)(G B:Nat):Bool:=decide ((0:Int)<((A G&&&B:Nat):Int))
def ck0(A:Nat->Nat)(G B:Nat):Bool:=!toN A B G
def ck1(A:Nat->Nat)(G B:Nat):Bool:=!toN A G B
def ck2(A:Nat->Nat)(G B:Nat):Bool:=!(toN A G B&&toN A B G)
def ck3(G B:Nat):Bool:=!decide (G&&&B=G)
def ck4(G B:Nat):Bool:=!decide (G&&&B=B)
abbrev bs5(b0 b1 b2 b3 b4:Bool):List D:=[.bl b0,.bl b1,.bl b2,.bl b3,.bl b4]
abbrev tst(S:List (List Nat))(rk L:List Nat)(A:Nat->Nat)(Gs Bs:List Nat)(t:List D)(x5 x9 x10 x11:Option Sl):PSt:=[some (.v (.lst (nats (glN S)))),some (.v (.lst (nats L))),some (.v (.lst (nats rk))),some (.o (.d false (nats L)) (L.map λm=>D.int (A m:Nat))),x5,some (.v (.lst (nats Gs))),some (.v (.lst (nats Bs))),some (.o .l t),x9,x10,x11]
theorem bC9{L Bs:List Nat}{A:Nat->Nat}{B:Nat}(hG:G∈L)(hB:B∈L){b0 b1 b2 b3 b4:Bool}{x10 x11:Option Sl}:∃y10 y11,rT (tst S rk L A Gs Bs (bs5 b0 b1 b2 b3 b4) (some (.v (.int G))) (some (.v (.int B))) x10 x11)=.ok (.nx (tst S rk L A Gs Bs (bs5 (b0&&ck0 A G B) (b1&&ck1 A G B) (b2&&ck2 A G B) (b3&&ck3 G B) (b4&&ck4 G B)) (some (.v (.int G))) (some (.v (.int B))) y10 y11)):=by
 have at':∀{m:Nat},m∈L->dIx (.dct false (nats L) (L.map λm=>D.int (A m:Nat))) (.int m)=.ok (.int (A m:Nat)):=λh=>aC3 (wY (λm=>D.int (A m:Nat)) h)
 refine⟨some (.v (.bl (toN A G B))),some (.v (.bl (toN A B G))),?_⟩;refine aG (st':=tst S rk L A Gs Bs (bs5 b0 b1 b2 b3 b4) (some (.v (.int G))) (some (.v (.int B))) (some (.v (.bl (toN A G B)))) x11) (bC (aK (aK (aK rfl rfl (at' hG)) rfl (tM _ _)) rfl rfl)) ?_
 refine aG (st':=tst S rk L A Gs Bs (bs5 b0 b1 b2 b3 b4) (some (.v (.int G))) (some (.v (.int B))) (some (.v (.bl (toN A G B)))) (some (.v (.bl (toN A B G))))) (bC (aK (aK (aK rfl rfl (at' hB)) rfl (tM _ _)) rfl rfl)) ?_
 refine aG (aJa (d:=.bl (b0&&ck0 A G B)) (j:=0) (nQ (aK rfl rfl rfl) λ_=>kO rfl) rfl rfl (by decide) (by simp)) ?_
 refine aG (aJa (d:=.bl (b1&&ck1 A G B)) (j:=1) (nQ (aK rfl rfl rfl) λ_=>kO rfl) rfl rfl (by decide) (by simp)) ?_
 refine aG (aJa (d:=.bl (b2&&ck2 A G B)) (j:=2) (nQ (aK rfl rfl rfl) λ_=>kO (nQ rfl λ_=>rfl)) rfl rfl (by decide) (by simp)) ?_
 refine aG (aJa (d:=.bl (b3&&ck3 G B)) (j:=3) (nQ (aK rfl rfl rfl) λ_=>neE (aK rfl rfl (tM _ _)) (aEx rfl)) rfl rfl (by decide) (by simp)) ?_
 exact Eq.trans (aJa (xs:=[.bl (b0&&ck0 A G B),.bl (b1&&ck1 A G B),.bl (b2&&ck2 A G B),.bl (b3&&ck3 G B),.bl b4]) (d:=.bl (b4&&ck4 G B)) (j:=4) (nQ (aK rfl rfl rfl) λ_=>neE (aK rfl rfl (tM _ _)) (aEx rfl)) rfl rfl (by decide) (by simp)) rfl
theorem aYv{L Gs Bs:List Nat}{A:Nat->Nat}{G:Nat}(hG:G∈L):∀(l:List Nat)(b0 b1 b2 b3 b4:Bool)(x9 x10 x11:Option Sl),(∀B∈l,B∈L)->∃y9 y10 y11,forR (tgN 8) rT (nats l) (tst S rk L A Gs Bs (bs5 b0 b1 b2 b3 b4) (some (.v (.int G))) x9 x10 x11)=.ok (.nx (tst S rk L A Gs Bs (bs5 (b0&&l.all (ck0 A G)) (b1&&l.all (ck1 A G)) (b2&&l.all (ck2 A G)) (b3&&l.all (ck3 G)) (b4&&l.all (ck4 G))) (some (.v (.int G))) y9 y10 y11))
 |[],b0,b1,b2,b3,b4,x9,x10,x11,_=>⟨x9,x10,x11,by simp only[List.all_nil,Bool.and_true];rfl⟩
 |B::l,b0,b1,b2,b3,b4,x9,x10,x11,h=>by
  obtain⟨z10,z11,e1'⟩:=bC9 (S:=S) (rk:=rk) (Gs:=Gs) (Bs:=Bs) (A:=A) hG (h B mem_cons_self) (b0:=b0) (b1:=b1) (b2:=b2) (b3:=b3) (b4:=b4) (x10:=x10) (x11:=x11);obtain⟨y9,y10,y11,e⟩:=aYv (Gs:=Gs) (Bs:=Bs) (A:=A) hG l _ _ _ _ _ (some (.v (.int B))) z10 z11 λB hB=>h B (mem_cons_of_mem _ hB)
  refine⟨y9,y10,y11,fO (d:=.int (B:Nat)) rfl e1' (e.trans ?_)⟩;simp only[all_cons,Bool.and_assoc]
theorem aYw{L Gs Bs:List Nat}{A:Nat->Nat}(hB:∀B∈Bs,B∈L):∀(l:List Nat)(b0 b1 b2 b3 b4:Bool)(x5 x9 x10 x11:Option Sl),(∀G∈l,G∈L)->∃y5 y9 y10 y11,forR (tgN 4) wU (nats l) (tst S rk L A Gs Bs (bs5 b0 b1 b2 b3 b4) x5 x9 x10 x11)=.ok (.nx (tst S rk L A Gs Bs (bs5 (b0&&l.all λG=>Bs.all (ck0 A G)) (b1&&l.all λG=>Bs.all (ck1 A G)) (b2&&l.all λG=>Bs.all (ck2 A G)) (b3&&l.all λG=>Bs.all (ck3 G)) (b4&&l.all λG=>Bs.all (ck4 G))) y5 y9 y10 y11))
 |[],b0,b1,b2,b3,b4,x5,x9,x10,x11,_=>⟨x5,x9,x10,x11,by simp only[List.all_nil,Bool.and_true];rfl⟩
 |G::l,b0,b1,b2,b3,b4,x5,x9,x10,x11,h=>by
  obtain⟨z9,z10,z11,e1'⟩:=aYv (S:=S) (rk:=rk) (Gs:=Gs) (Bs:=Bs) (A:=A) (h G mem_cons_self) Bs b0 b1 b2 b3 b4 x9 x10 x11 hB;obtain⟨y5,y9,y10,y11,e⟩:=aYw (Gs:=Gs) (A:=A) hB l _ _ _ _ _ (some (.v (.int G))) z9 z10 z11 λB hB=>h B (mem_cons_of_mem _ hB)
  refine⟨y5,y9,y10,y11,fO (d:=.int (G:Nat)) rfl (fJ rfl e1') (e.trans ?_)⟩;simp only[all_cons,Bool.and_assoc]
theorem aJb(M:Mch S rk c):∀(l p:List Nat)(x5:Option Sl){x0 x1:Option Sl},(p++l).Nodup->(p++l).length<1000->(∀m∈l,m<2^S.length)->∃y5,forR (tgN 4) zM (nats l) [some (.v (.lst (nats (glN S)))),x0,x1,some (.o (.d false (nats p)) (p.map λm=>D.int (ahN S c m:Nat))),x5,none,none,none,none,none,none]=.ok (.nx [some (.v (.lst (nats (glN S)))),x0,x1,some (.o (.d false (nats (p++l))) ((p++l).map λm=>D.int (ahN S c m:Nat))),y5,none,none,none,none,none,none])
 |[],p,x5,x0,x1,_,_,_=>⟨x5,by rw[append_nil];rfl⟩
 |m::l,p,x5,x0,x1,nd,hl,h=>by
  obtain⟨n1,n2,n3⟩:=List.nodup_append.mp nd;have hn:m∉p:=λz=>n3 m z m mem_cons_self rfl
  obtain⟨e1',e2'⟩:=aTi (V:=ahN S c) (x:=.int (ahN S c m:Nat)) hn;have ea:p++m::l=p++[m]++l:=by simp
  rw[ea]at nd hl ⊢;obtain⟨y5,e⟩:=aJb M l (p++[m]) (some (.v (.int m))) (x0:=x0) (x1:=x1) nd hl λm hm=>h m (mem_cons_of_mem _ hm)
  refine⟨y5,fO (d:=.int (m:Nat)) (s2:=[some (.v (.lst (nats (glN S)))),x0,x1,some (.o (.d false (nats (p++[m]))) ((p++[m]).map λm=>D.int (ahN S c m:Nat))),some (.v (.int m)),none,none,none,none,none,none]) rfl ((aMu (k:=.int m) (d:=.int (ahN S c m:Nat)) (aQ rfl (aTw M (h m mem_cons_self)).1) rfl rfl rfl (by rw[length_map];rw[length_append,length_append]at hl;omega)).trans ?_) e⟩
  rw[e1',e2'];have:(p++[m]).map (λm=>D.int (ahN S c m:Nat))=(p.map λr=>D.int (ahN S c r:Nat))++[.int (ahN S c m:Nat)]:=by simp
  rw[this];rfl
noncomputable abbrev aYx(S:List (List Nat))(c:Nat):Nat:=ahN S c 1
noncomputable abbrev lps(S:List (List Nat))(c:Nat):List Nat:=aW1 S c (aYx S c)
noncomputable def gds(S:List (List Nat))(c:Nat)(rk:List Nat):List Nat:=(lps S c).filter λm=>evN rk m
noncomputable def bds(S:List (List Nat))(c:Nat)(rk:List Nat):List Nat:=(lps S c).filter λm=>!evN rk m
noncomputable def trN(S:List (List Nat))(c:Nat)(rk:List Nat)(k:Nat->Nat->Bool):Bool:=(gds S c rk).all λG=>(bds S c rk).all (k G)
noncomputable abbrev trs(S:List (List Nat))(c:Nat)(rk:List Nat):List D:=bs5 (trN S c rk (ck0 (ahN S c))) (trN S c rk (ck1 (ahN S c))) (trN S c rk (ck2 (ahN S c))) (trN S c rk ck3) (trN S c rk ck4)
theorem aTx(M:Mch S rk c):aYx S c<2^S.length:=pA λg hg=>List.mem_range.mp (List.mem_filter.mp hg).1
theorem aLo(M:Mch S rk c):mU [.lst (nats (glN S)),.lst (nats (lps S c)),.lst (nats rk)]=.ok (.lst (trs S c rk)):=by
 have n1:=M.one;have hal:=aTx M;have hl:(lps S c).length<=256:=bC7 M hal;have hlp:∀m∈lps S c,m<2^S.length/\m≠0:=λm hm=>by
  obtain⟨h1,h2⟩:=aTv.mp hm;refine⟨?_,h1.1⟩;rw[<-gC m];exact pA λr hr=>bH hal (h2 r hr)
 have nd:(lps S c).Nodup:=List.Pairwise.filter _ List.nodup_range';obtain⟨y5,e1'⟩:=aJb M (lps S c) [] none (x0:=some (.v (.lst (nats (lps S c))))) (x1:=some (.v (.lst (nats rk)))) nd (by rw[nil_append];omega) λm hm=>(hlp m hm).1
 have cg:∀x5,gU (tgN 4) zO zN [some (.v (.lst (nats (glN S)))),some (.v (.lst (nats (lps S c)))),some (.v (.lst (nats rk))),some (.o (.d false (nats (lps S c))) ((lps S c).map λm=>D.int (ahN S c m:Nat))),x5,none,none,none,none,none,none] (nats (lps S c))=.ok (nats (gds S c rk)):=λx5=>lJ (lps S c) λm hm=>⟨_,rfl,aQ rfl (aEz M (hlp m hm).1 (hlp m hm).2),rfl⟩
 have cb:∀x5 x6,gU (tgN 4) zQ zP [some (.v (.lst (nats (glN S)))),some (.v (.lst (nats (lps S c)))),some (.v (.lst (nats rk))),some (.o (.d false (nats (lps S c))) ((lps S c).map λm=>D.int (ahN S c m:Nat))),x5,x6,none,none,none,none,none] (nats (lps S c))=.ok (nats (bds S c rk)):=λx5 x6=>lJ (lps S c) λm hm=>⟨_,rfl,kO (aQ rfl (aEz M (hlp m hm).1 (hlp m hm).2)),rfl⟩
 obtain⟨z5,z9,z10,z11,e2'⟩:=aYw (S:=S) (rk:=rk) (L:=lps S c) (Gs:=gds S c rk) (Bs:=bds S c rk) (A:=ahN S c) (λB hB=>(List.mem_filter.mp hB).1) (gds S c rk) true true true true true y5 none none none λG hG=>(List.mem_filter.mp hG).1
 simp only[Bool.true_and]at e2';refine bF rfl ?_
 refine aG rfl (aG (fJ rfl e1') (aG (bC (gH rfl (by rw[bD];omega) (cg _))) (aG (bC (gH rfl (by rw[bD];omega) (cb _ _))) ?_)))
 exact aG (oY (fX rfl)) (aG (fJ rfl e2') (bU rfl))
theorem aW2(M:Mch S rk c):∃F:Nat,gF [.lst (nats (glN S)),.int 255,.int 1]=.ok (.int F)/\jC [.lst (nats (glN S)),.int F]=.ok (.lst (nats (lps S c))):=
 ⟨aYx S c,(aTw M (m:=1) (Nat.one_lt_two_pow (by have:=M.one;omega))).1,bC8 M (aTx M)⟩
end
theorem aYy{p:Prop}{r:R α}(h:¬ p):aY p r=.bad:=if_neg h
theorem aHt{st:PSt} (h:f st=.ok d):pQ f g st=.ok d:=by unfold pQ;rw[h]
theorem mX{st:PSt}{r:R D}(h:f st=.bad)(hg:g st=r):pQ f g st=r:=by unfold pQ;rw[h];exact hg
theorem aJc{c m:String} {st:PSt} (h:f st=.ok (.ins c [] [])) (hr:r st=.ok xs) (hp:p (.ins c [] [] :: xs)=.ok d):dY c m p [] f r st=.ok d:=by
 rw[aE4,h,hr];show aY _ (p (.ins c [] [] :: (xs++[])))=_;rw[append_nil,hp];exact aF ⟨rfl,not_mem_nil⟩
theorem qX{c c' m:String} {st:PSt} (h:f st=.ok (.ins c' [] [])) (hr:r st=.ok xs) (hn:c'≠c):dY c m p [] f r st=.bad:=by
 rw[aE4,h,hr];exact aYy λz=>hn z.1
theorem tY{α:Type}{tg:Tg}{C E:Ex}{st:PSt}{F G:α->D}{q:α->Bool}:∀(ks:List α),(∀k∈ks,∃s1,tg (F k) st=.ok s1/\C s1=.ok (.bl (q k))/\(q k=true->E s1=.ok (G k)))->gU tg C E st (ks.map F)=.ok ((ks.filter q).map G)
 |[],_=>rfl
 |k::ks,h=>by
  obtain⟨s1,a1,a2,a3⟩:=h k mem_cons_self;have ih:=tY ks λk hk=>h k (mem_cons_of_mem _ hk)
  rw[map_cons,nM,a1,aO,a2,aO,pP];cases hq:q k with
  |true=>rw[filter_cons_of_pos hq,map_cons,if_pos rfl,a3 hq,aO,ih];rfl
  |false=>rw[filter_cons_of_neg (by rw[hq];decide),if_neg Bool.false_ne_true,ih]
def kindS:List String:=["EarlyNo","EarlyYes","Settled","Again","Lasting"]
def lK(k:Nat):D:=.ins (kindS.getD k "Lasting") [] []
theorem me5{m:String}{p0 p1 p2 p3 p4:List D->R D} {st:PSt} {k:Nat} (hk:k<5) (h:f st=.ok (lK k)) (hr:r st=.ok xs) (hp:([p0,p1,p2,p3,p4].getD k p0) (lK k::xs)=.ok d):pQ (dY "EarlyNo" m p0 [] f r) (pQ (dY "EarlyYes" m p1 [] f r) (pQ (dY "Settled" m p2 [] f r) (pQ (dY "Again" m p3 [] f r) (dY "Lasting" m p4 [] f r)))) st=.ok d:=by
 have:k=0\/k=1\/k=2\/k=3\/k=4:=by omega
 rcases this with rfl|rfl|rfl|rfl|rfl
 .exact aHt (aJc h hr hp)
 .exact mX (qX h hr (by decide)) (aHt (aJc h hr hp))
 .exact mX (qX h hr (by decide)) (mX (qX h hr (by decide)) (aHt (aJc h hr hp)))
 .exact mX (qX h hr (by decide)) (mX (qX h hr (by decide)) (mX (qX h hr (by decide)) (aHt (aJc h hr hp))))
 .exact mX (qX h hr (by decide)) (mX (qX h hr (by decide)) (mX (qX h hr (by decide)) (mX (qX h hr (by decide)) (aJc h hr hp))))
theorem aYz{k:Nat}(hk:k<5):uX [.int k]=.ok (lK k):=by
 have t:∀j:Nat,e2 dEq (aB 0) (eC (.int j)) [some (.v (.int k))]=.ok (.bl (decide ((k:Int)=(j:Int)))):=λj=>aK rfl rfl (qG _ _)
 have:k=0\/k=1\/k=2\/k=3\/k=4:=by omega
 rcases this with rfl|rfl|rfl|rfl|rfl
 .exact bF rfl (oX (rM (t 0) (bU rfl)))
 .exact bF rfl (aG (gY (t 0) rfl) (oX (rM (t 1) (bU rfl))))
 .exact bF rfl (aG (gY (t 0) rfl) (aG (gY (t 1) rfl) (oX (rM (t 2) (bU rfl)))))
 .exact bF rfl (aG (gY (t 0) rfl) (aG (gY (t 1) rfl) (aG (gY (t 2) rfl) (oX (rM (t 3) (bU rfl))))))
 .exact bF rfl (aG (gY (t 0) rfl) (aG (gY (t 1) rfl) (aG (gY (t 2) rfl) (aG (gY (t 3) rfl) (bU rfl)))))
theorem aLp{α:Type}{tg:Tg}{C E:Ex}{st:PSt}{F:α->D}{q:α->Bool}:∀(ks:List α),(∀k∈ks,∃s1,tg (F k) st=.ok s1/\C s1=.ok (.bl (q k))/\E s1=.ok (F k))->gU tg C E st (ks.map F)=.ok ((ks.filter q).map F)
 |[],_=>rfl
 |k::ks,h=>by
  obtain⟨s1,a1,a2,a3⟩:=h k mem_cons_self;have ih:=aLp ks λk hk=>h k (mem_cons_of_mem _ hk)
  rw[map_cons,nM,a1,aO,a2,aO,pP];cases hq:q k with
  |true=>rw[filter_cons_of_pos hq,map_cons,if_pos rfl,a3,aO,ih];rfl
  |false=>rw[filter_cons_of_neg (by rw[hq];decide),if_neg Bool.false_ne_true,ih]
theorem aC9(d:D)(xs:List D):atI (d::xs) 0=some d:=by
 unfold atI ixN;rw[if_pos (by decide),if_pos (by rw[length_cons];omega)]
 rfl
theorem aRo{st:PSt} (h:r st=.ok ds) (hl:ds.length<=1000):aVj r st=.ok (.tup ds):=by
 show (r st).bind _=_;rw[h];exact aF (eN (Nat.le_trans hl (by decide)))
section
variable{S:List (List Nat)}{rk:List Nat}{c n:Nat}
theorem aTy{al:Nat->Bool}:∀{u:List Nat}{s g:Nat},Pat S c al u s g->Rch S c al s g
 |[],s,g,h=>by
  have e:s=g:=h;rw[e];exact .here
 |ch::u,s,g,h=>by
  obtain⟨l,hl,_,ha,h2⟩:=h;exact Rch.trans (.on .here hl ha) (aTy h2)
theorem bCa(M:Mch S rk c):dR [mD S rk c,.int 0]=.ok .non:=aY1 rfl (gY (kO (p:=true) (aQ (bA rfl (bA (show e1 (jJ "Machine" "many") (aB 0) _=.ok (.int (S.length:Nat)) from aIo) rfl)) (aLb (x:=0) (by have:=M.one;omega)))) rfl)
theorem bCb(M:Mch S rk c){x:List Nat}(hx:Ltr c x)(hl:x.length<=1000):dU [mD S rk c,.str x]=.ok .non:=aY1 rfl (gY (kO (p:=true) (aQ (bA rfl (bA (show e1 (jJ "Machine" "letters") (aB 0) _=.ok (.int (c:Nat)) from aOm) rfl)) ((aY5 M (.str x) rfl (λy e=>by cases e;omega)).trans (by
 show R.ok (D.bl (good c x))=_;rw[aOl.mpr hx])))) rfl)
theorem aZ0(M:Mch S rk c){x:List Nat}(hx:Ltr c x)(hl:x.length<=1000):jY [mD S rk c,.int 0,.str x]=.ok (.int (dZ S 0 x:Nat)):=by
 refine bF rfl (cV ?_ (cV ?_ (bU (aK (x:=.lst (nats (0::runs S 0 x))) ?_ rfl (fY (atI_last (aG2 (aC1 x 0))))))))
 .show (dY "Machine" "check_room" dR [] (aB 0) (aD (aB 1) aU) _).bind _=_;rw[aIr (S:=S) (rk:=rk) (c:=c) rfl rfl (by decide)]
  show (dR [mD S rk c,.int 0]).bind _=_;rw[bCa M];rfl
 .show (dY "Machine" "check_word" dU [] (aB 0) (aD (aB 2) aU) _).bind _=_;rw[aIr (S:=S) (rk:=rk) (c:=c) rfl rfl (by decide)]
  show (dU [mD S rk c,.str x]).bind _=_;rw[bCb M hx hl];rfl
 .exact(aJ1 rfl rfl).trans (aOo M (q:=0) (by have:=M.one;omega) x hx (by omega))
noncomputable def see(S:List (List Nat))(c:Nat):Nat:=iK S c (iH (List.range S.length)) 0
theorem rY:see S c<2^S.length:=aB5
theorem bCc{g:Nat}:(iH (List.range S.length)).testBit g=decide (g∈List.range S.length):=by rw[fZ]
theorem aHu(M:Mch S rk c)(g:Nat):(see S c).testBit g=true↔Rch S c (λg=>decide (g∈List.range S.length)) 0 g:=by
 rw[see,qI M (by have:=M.one;omega)]
 exact aVm λg=>bCc
theorem aTz(M:Mch S rk c){X:Nat}{row:List Nat}(hr:∀L∈X::row,LpN S c L/\L<2^S.length/\oK X L)(hs:oK X (see S c))(hl:row.length<=100):∃(f:List Nat)(R:Nat->List Nat),tX [mD S rk c,.lst (nats (X::row))]=.ok (.tup [.str f,.lst ((X::row).map λL=>.str (R L))])/\Ltr c f/\f.length<=8/\dZ S 0 f∈aP X/\∀L∈X::row,Rnd S c L (dZ S 0 f) (R L):=by
 classical
 obtain⟨acc,e,b⟩:=aRa M;have n8:=M.most;have hX:=hr X mem_cons_self;have bl:=b.len;have ce:gU (tgN 5) aGz aGy [some (.v (mD S rk c)),some (.v (.lst (nats (X::row)))),none,none,none,none,none] (prD acc)=.ok (prD (acc.filter λx=>X.testBit x.1)):=aLp acc λx hx=>⟨_,rfl,aQ (bA (aK rfl rfl (fY (aC9 (.int X) (nats row)))) (bA (aK (z:=.ok (.int (x.1:Nat))) rfl rfl rfl) rfl)) (aDi _ _),rfl⟩
 obtain⟨g,hg⟩:=exists_mem_of_ne_nil _ (yF hX.1.1);have hin:g∈acc.map (·.1):=b.whole.mpr ((aHu M g).mp (aL.mp (hs g hg)));obtain⟨x0,hx0,e0⟩:=List.mem_map.mp hin;cases hf:acc.filter λx=>X.testBit x.1 with
 |nil=>
  have:=List.filter_eq_nil_iff.mp hf x0 hx0;rw[e0]at this;exact(this (aL.mp hg)).elim
 |cons y T=>
  have hy:y∈acc.filter λx=>X.testBit x.1:=by rw[hf];exact mem_cons_self
  obtain⟨y1,y2⟩:=List.mem_filter.mp hy;obtain⟨k,hk⟩:=List.mem_iff_getElem?.mp y1;have hp:=b.path k y hk;have hyX:y.1∈aP X:=aL.mpr y2;have key:∀L:Nat,∃u:List Nat,L∈X::row->nP [mD S rk c,.int L,.int (y.1:Nat)]=.ok (.str u)/\Rnd S c L y.1 u:=λL=>by
   by_cases hL:L∈X::row
   .obtain⟨l1,l2,l3⟩:=hr L hL;obtain⟨u,eu,hu⟩:=aJ2 M l2 l1 (l3 y.1 hyX);exact⟨u,λ_=>⟨eu,hu⟩⟩
   .exact⟨[],λz=>(hL z).elim⟩
  let R:Nat->List Nat:=λL=>Classical.choose (key L)
  have hR:∀L∈X::row,nP [mD S rk c,.int L,.int (y.1:Nat)]=.ok (.str (R L))/\Rnd S c L y.1 (R L):=λL hL=>Classical.choose_spec (key L) hL
  have eu:gU (tgN 6) dD aH0 [some (.v (mD S rk c)),some (.v (.lst (nats (X::row)))),some (.v (.lst (prD (y::T)))),some (.v (.int (y.1:Nat))),some (.v (.str y.2)),none,none] (nats (X::row))=.ok (((X::row).filter λ_=>true).map λL=>.str (R L)):=tY (X::row) λL hL=>⟨_,rfl,rfl,λ_=>aQ rfl (hR L hL).1⟩
  rw[List.filter_eq_self.mpr (λ_ _=>rfl)]at eu
  rw[hf]at ce;refine⟨y.2,R,bF rfl (aG (bC (gH (vC (aQ rfl e)) (by rw[bBq];omega) ce)) (aG (bC (d:=.int (y.1:Nat)) (aK (aK rfl rfl (fY (aC9 (.tup [.int (y.1:Nat),.str y.2]) (prD T)))) rfl rfl)) (aG (bC (d:=.str y.2) (aK (aK rfl rfl (fY (aC9 (.tup [.int (y.1:Nat),.str y.2]) (prD T)))) rfl rfl)) (bU ?_)))),aC5 hp,b.wl M y1,by rw[uF hp];exact hyX,λL hL=>by rw[uF hp];exact(hR L hL).2⟩
  exact aRo (bA rfl (bA (gH rfl (by rw[bD,length_cons];omega) eu) rfl)) (show 2<=1000 by decide)
theorem aU0{n':Nat}(h:oK m n'){a b:Nat}(hr:Rch S c (inN m) a b):Rch S c (inN n') a b:=Rch.mono (λg hg=>aL.mp (h g (aL.mpr hg))) hr
def aDk(S:List (List Nat))(c L G:Nat):Prop:=∃a∈aP L,∃b∈aP G,Rch S c (inN (see S c)) a b
theorem aN5(M:Mch S rk c){a b:Nat}(hL:LpN S c L)(sL:oK L (see S c))(hG:LpN S c G)(sG:oK G (see S c))(ha:a∈aP L)(hb:b∈aP G):aDk S c L G↔Rch S c (inN (see S c)) a b:=by
 constructor
 .rintro⟨x,hx,y,hy,h⟩;exact Rch.trans (aU0 sL (hL.2.1 a ha x hx)) (Rch.trans h (aU0 sG (hG.2.1 y hy b hb)))
 .exact λh=>⟨a,ha,b,hb,h⟩
def Cnt(S:List (List Nat))(c m:Nat):Prop:=LpN S c m/\m<2^S.length/\oK m (see S c)
theorem jE(M:Mch S rk c){w:Bool} (h:m∈nR S c rk (see S c) w):Cnt S c m/\evN rk m=w:=by
 obtain⟨p,hp,hm⟩:=List.mem_flatMap.mp h;obtain⟨h1,h2,h3,h4⟩:=aVu M rY hm;refine⟨⟨h2,h1,h3⟩,?_⟩;have:=(aTo.mp hp).2;unfold evN;rw[h4];exact eq_of_beq this
theorem aG7(M:Mch S rk c){m:Nat}(h:Cnt S c m):∃F∈nR S c rk (see S c) (evN rk m),oK m F:=by
 obtain⟨h1,h2,h3⟩:=h;obtain⟨r,hr⟩:=exists_mem_of_ne_nil _ (yF h1.1);obtain⟨a,b,d⟩:=aVt (rk:=rk) M rY h1 h3 rfl hr;refine⟨fL S c (yG rk (see S c) (oJ rk m)) r,List.mem_flatMap.mpr ⟨oJ rk m,aTo.mpr ⟨?_,?_⟩,?_⟩,d⟩
 .obtain⟨⟨g,hg,e⟩,_⟩:=aP3 (rk:=rk) h1.1;exact⟨g,h3 g hg,e⟩
 .unfold evN;exact beq_self_eq_true _
 .unfold aLi at b;rw[and_eq_true,decide_eq_true_eq]at b;exact List.mem_filter.mpr ⟨lZ.mpr ⟨r,a,rfl,b.1⟩,decide_eq_true b.2⟩
structure Pap(S:List (List Nat))(c:Nat)(f u w v:List Nat)(X Z:Nat):Prop where
 lf:Ltr c f
 nf:f.length<=8
 lw:Ltr c w
 nw:w.length<=8
 ru:Rnd S c X (dZ S 0 f) u
 rv:Rnd S c Z (dZ S (dZ S 0 f) w) v
 a:dZ S 0 f∈aP X
 b:dZ S (dZ S 0 f) w∈aP Z
noncomputable abbrev uQ(S:List (List Nat))(rk:List Nat)(c:Nat)(g:Bool)(Gs:List Nat)(x4 x5 x6 x7 x8 x9:Option Sl):PSt:=[some (.v (mD S rk c)),some (.v (.bl g)),some (.v (.int (see S c))),some (.v (.lst (nats Gs))),x4,x5,x6,x7,x8,x9]
theorem bCd{G g:Nat}{T:List Nat}(M:Mch S rk c)(hG:G<2^S.length)(hm:aP G=g::T){a:Nat}{st:PSt}(h:st[a]?=some (some (.v (.int (G:Int))))):e2 dIx (aV bW (aD (aB a) aU)) (eC (.int 0)) st=.ok (.int (g:Nat)):=aK (aP8 M hG h) rfl (fY (by rw[hm];exact aC9 _ _))
theorem aLq(M:Mch S rk c){g:Bool}{Gs:List Nat}{L a:Nat}{f u:List Nat}{us:List D}(hus:us=[.str u])(lf:Ltr c f)(nf:f.length<=8)(ef:dZ S 0 f=a)(hu:Rnd S c L a u)(hL:Cnt S c L)(ha:a∈aP L){x4:Option Sl}:∀(l:List Nat)(x7 x8 x9:Option Sl),(∀G∈l,Cnt S c G)->
  ((∃y7 y8 y9,forR (tgN 7) gZ (nats l) (uQ S rk c g Gs x4 (some (.v (.tup [.str f,.lst us]))) (some (.v (.int a))) x7 x8 x9)=.ok (.nx (uQ S rk c g Gs x4 (some (.v (.tup [.str f,.lst us]))) (some (.v (.int a))) y7 y8 y9)))/\∀G∈l,¬ aDk S c L G)\/(∃w v G,forR (tgN 7) gZ (nats l) (uQ S rk c g Gs x4 (some (.v (.tup [.str f,.lst us]))) (some (.v (.int a))) x7 x8 x9)=.ok (.rt (.tup [.str f,.str u,.str w,.str v]))/\G∈l/\aDk S c L G/\Pap S c f u w v L G)
 |[],x7,x8,x9,_=>.inl ⟨⟨x7,x8,x9,rfl⟩,λ_ h=>(nomatch h)⟩
 |G::l,x7,x8,x9,h=>by
  obtain⟨g1,g2,g3⟩:=h G mem_cons_self;have sa:a<S.length:=bH hL.2.1 ha;cases hm:aP G with
  |nil=>exact(yF g1.1 hm).elim
  |cons e T'=>
   have he:e∈aP G:=by rw[hm];exact mem_cons_self
   have lead:=aN5 M hL.1 hL.2.2 g1 g3 ha he;have s8:cB 8 (e2 dIx (aV bW (aD (aB 7) aU)) (eC (.int 0))) (uQ S rk c g Gs x4 (some (.v (.tup [.str f,.lst us]))) (some (.v (.int a))) (some (.v (.int G))) x8 x9)=.ok (.nx (uQ S rk c g Gs x4 (some (.v (.tup [.str f,.lst us]))) (some (.v (.int a))) (some (.v (.int G))) (some (.v (.int e))) x9)):=bC (bCd M g2 hm rfl);rcases aYi M (rY (S:=S) (c:=c)) sa e with ⟨ew,hn⟩|⟨w,ew,_,hw,lw,nw⟩
   .have hnl:¬ aDk S c L G:=λz=>hn ⟨aL.mp (hL.2.2 a ha),aTm (lead.mp z)⟩
    have t:gZ (uQ S rk c g Gs x4 (some (.v (.tup [.str f,.lst us]))) (some (.v (.int a))) (some (.v (.int G))) x8 x9)=.ok (.nx (uQ S rk c g Gs x4 (some (.v (.tup [.str f,.lst us]))) (some (.v (.int a))) (some (.v (.int G))) (some (.v (.int e))) (some (.v .non)))):=aG s8 (aG (bC (aQ rfl ew)) (gY (aK rfl rfl rfl) rfl));rcases aLq M (g:=g) (Gs:=Gs) (f:=f) hus lf nf ef hu hL ha (x4:=x4) l (some (.v (.int G))) (some (.v (.int e))) (some (.v .non)) λG hG=>h G (mem_cons_of_mem _ hG) with ⟨⟨y7,y8,y9,e'⟩,hall⟩|⟨w,v,G',e',hG',hl⟩
    .refine .inl ⟨⟨y7,y8,y9,fO (d:=.int (G:Nat)) rfl t e'⟩,λG' hG'=>?_⟩
     rcases List.mem_cons.mp hG' with q|q
     .rw[q];exact hnl
     .exact hall G' q
    .exact .inr ⟨w,v,G',fO (d:=.int (G:Nat)) rfl t e',mem_cons_of_mem _ hG',hl⟩
   .obtain⟨v,ev,hv⟩:=aJ2 M g2 g1 he;have ew':dZ S a w=e:=uF hw.1;have n8:=M.most;have sn:(aP (see S c)).length<=S.length:=yH rY;refine .inr ⟨w,v,G,?_,mem_cons_self,lead.mpr (aTy hw.1),⟨lf,nf,lw,by omega,by rw[ef];exact hu,by rw[ef,ew'];exact hv,by rw[ef];exact ha,by rw[ef,ew'];exact he⟩⟩
    have t:gZ (uQ S rk c g Gs x4 (some (.v (.tup [.str f,.lst us]))) (some (.v (.int a))) (some (.v (.int G))) x8 x9)=.ok (.rt (.tup [.str f,.str u,.str w,.str v])):=by
     subst hus;exact aG s8 (aG (bC (aQ rfl ew)) (rM (aK rfl rfl rfl) (bU (aRo (bA (aK (z:=.ok (.str f)) rfl rfl rfl) (bA (aK (x:=.lst [.str u]) (aK rfl rfl rfl) rfl (fY (aC9 (.str u) []))) (bA rfl (bA (aQ rfl ev) rfl)))) (show 4<=1000 by decide)))))
    show forR (tgN 7) gZ (.int (G:Nat)::nats l) _=_;rw[nZ];show (gZ (uQ S rk c g Gs x4 (some (.v (.tup [.str f,.lst us]))) (some (.v (.int a))) (some (.v (.int G))) x8 x9)).bind _=_;rw[t];rfl
theorem aJd(M:Mch S rk c){g:Bool}{Gs:List Nat}(hGs:∀G∈Gs,Cnt S c G):∀(l:List Nat)(x4 x5 x6 x7 x8 x9:Option Sl),(∀L∈l,Cnt S c L)->
  ((∃y4 y5 y6 y7 y8 y9,forR (tgN 4) iB (nats l) (uQ S rk c g Gs x4 x5 x6 x7 x8 x9)=.ok (.nx (uQ S rk c g Gs y4 y5 y6 y7 y8 y9)))/\∀L∈l,∀G∈Gs,¬ aDk S c L G)\/(∃f u w v L G,forR (tgN 4) iB (nats l) (uQ S rk c g Gs x4 x5 x6 x7 x8 x9)=.ok (.rt (.tup [.str f,.str u,.str w,.str v]))/\L∈l/\G∈Gs/\aDk S c L G/\Pap S c f u w v L G)
 |[],x4,x5,x6,x7,x8,x9,_=>.inl ⟨⟨x4,x5,x6,x7,x8,x9,rfl⟩,λ_ h=>(nomatch h)⟩
 |L::l,x4,x5,x6,x7,x8,x9,h=>by
  have hL:=h L mem_cons_self;obtain⟨f,R,en,f1,f2,f3,f4⟩:=aTz M (X:=L) (row:=[]) (λL' hL'=>by rw[List.mem_singleton.mp hL'];exact⟨hL.1,hL.2.1,λ_ z=>z⟩) hL.2.2 (by simp)
  have hu:=f4 L mem_cons_self;generalize hus:(List.map (λL=>D.str (R L)) [L])=us at en
  have hus:us=[.str (R L)]:=hus.symm;have s5:cB 5 (aV tX (aD (aB 0) (aD (jX (aD (aB 4) aU)) aU))) (uQ S rk c g Gs (some (.v (.int L))) x5 x6 x7 x8 x9)=.ok (.nx (uQ S rk c g Gs (some (.v (.int L))) (some (.v (.tup [.str f,.lst us]))) x6 x7 x8 x9)):=bC (aQ (bA rfl (bA (fX (ds:=nats [L]) rfl) rfl)) en);have s6:cB 6 (dY "Machine" "after" jY [] (aB 0) (aD (eC (.int 0)) (aD (e2 dIx (aB 5) (eC (.int 0))) aU))) (uQ S rk c g Gs (some (.v (.int L))) (some (.v (.tup [.str f,.lst us]))) x6 x7 x8 x9)=.ok (.nx (uQ S rk c g Gs (some (.v (.int L))) (some (.v (.tup [.str f,.lst us]))) (some (.v (.int (dZ S 0 f)))) x7 x8 x9)):=bC (by
   rw[aIr (S:=S) (rk:=rk) (c:=c) (xs:=[.int 0,.str f]) rfl (bA rfl (bA (aK (z:=.ok (.str f)) rfl rfl rfl) rfl)) (by decide)]
   exact aZ0 M f1 (by omega))
  rcases aLq M (g:=g) (Gs:=Gs) (f:=f) hus f1 f2 rfl hu hL f3 (x4:=some (.v (.int L))) Gs x7 x8 x9 hGs with ⟨⟨y7,y8,y9,e'⟩,hall⟩|⟨w,v,G,e',hG,hl⟩
  .have t:iB (uQ S rk c g Gs (some (.v (.int L))) x5 x6 x7 x8 x9)=.ok (.nx (uQ S rk c g Gs (some (.v (.int L))) (some (.v (.tup [.str f,.lst us]))) (some (.v (.int (dZ S 0 f)))) y7 y8 y9)):=aG s5 (aG s6 (fJ rfl e'));rcases aJd M (g:=g) hGs l (some (.v (.int L))) (some (.v (.tup [.str f,.lst us]))) (some (.v (.int (dZ S 0 f)))) y7 y8 y9 λL hL=>h L (mem_cons_of_mem _ hL) with ⟨⟨z4,z5,z6,z7,z8,z9,e2'⟩,hall2⟩|⟨f,u,w,v,L',G,e2',hL',hl⟩
   .refine .inl ⟨⟨z4,z5,z6,z7,z8,z9,fO (d:=.int (L:Nat)) rfl t e2'⟩,λL' hL'=>?_⟩
    rcases List.mem_cons.mp hL' with q|q
    .rw[q];exact hall
    .exact hall2 L' q
   .exact .inr ⟨f,u,w,v,L',G,fO (d:=.int (L:Nat)) rfl t e2',mem_cons_of_mem _ hL',hl⟩
  .refine .inr ⟨f,R L,w,v,L,G,?_,mem_cons_self,hG,hl⟩;have t:iB (uQ S rk c g Gs (some (.v (.int L))) x5 x6 x7 x8 x9)=.ok (.rt (.tup [.str f,.str (R L),.str w,.str v])):=aG s5 (aG s6 (fJ rfl e'));show forR (tgN 4) iB (.int (L:Nat)::nats l) _=_;rw[nZ];show (iB (uQ S rk c g Gs (some (.v (.int L))) x5 x6 x7 x8 x9)).bind _=_;rw[t];rfl
def Beh(S:List (List Nat))(c:Nat)(rk:List Nat)(g:Bool):Prop:=∃L G,Cnt S c L/\Cnt S c G/\evN rk L=!g/\evN rk G=g/\aDk S c L G
theorem bJ7(M:Mch S rk c):jK [mD S rk c,.int 0]=.ok (.int (see S c)):=aYh M (r:=0) (by have:=M.one;omega)
theorem aW3(M:Mch S rk c)(g:Bool):(jQ [mD S rk c,.bl g]=.ok .non/\¬ Beh S c rk g)\/(∃f u w v L G,jQ [mD S rk c,.bl g]=.ok (.tup [.str f,.str u,.str w,.str v])/\Beh S c rk g/\Pap S c f u w v L G/\Cnt S c L/\Cnt S c G/\evN rk L=(!g)/\evN rk G=g):=by
 have up:(∃L∈nR S c rk (see S c) (!g),∃G∈nR S c rk (see S c) g,aDk S c L G)↔Beh S c rk g:=by
  constructor
  .rintro⟨L,hL,G,hG,h⟩;obtain⟨l1,l2⟩:=jE M hL;obtain⟨g1,g2⟩:=jE M hG;exact⟨L,G,l1,g1,l2,g2,h⟩
  .rintro⟨L,G,l1,g1,l2,g2,a,ha,b,hb,h⟩;obtain⟨L',hL',sL⟩:=aG7 (rk:=rk) M l1;obtain⟨G',hG',sG⟩:=aG7 (rk:=rk) M g1;rw[l2]at hL';rw[g2]at hG';exact⟨L',hL',G',hG',a,sL a ha,b,sG b hb,h⟩
 have s2:cB 2 (aV jK (aD (aB 0) (aD (eC (.int 0)) aU))) [some (.v (mD S rk c)),some (.v (.bl g)),none,none,none,none,none,none,none,none]=.ok (.nx [some (.v (mD S rk c)),some (.v (.bl g)),some (.v (.int (see S c))),none,none,none,none,none,none,none]):=bC (aQ rfl (bJ7 M));have s3:cB 3 (aV dM (aD (aB 0) (aD (aB 2) (aD (aB 1) aU)))) [some (.v (mD S rk c)),some (.v (.bl g)),some (.v (.int (see S c))),none,none,none,none,none,none,none]=.ok (.nx (uQ S rk c g (nR S c rk (see S c) g) none none none none none none)):=bC (aQ rfl (aMy M rY));have it:itE (aV dM (aD (aB 0) (aD (aB 2) (aD (mR (aB 1)) aU)))) (uQ S rk c g (nR S c rk (see S c) g) none none none none none none)=.ok (nats (nR S c rk (see S c) (!g))):=vC (aQ (bA rfl (bA rfl (bA (kO rfl) rfl))) (aMy M rY));rcases aJd M (g:=g) (Gs:=nR S c rk (see S c) g) (λG hG=>(jE M hG).1) (nR S c rk (see S c) (!g)) none none none none none none (λL hL=>(jE M hL).1) with ⟨⟨y4,y5,y6,y7,y8,y9,e⟩,hall⟩|⟨f,u,w,v,L,G,e,hL,hG,hl,hp⟩
 .exact .inl ⟨bF rfl (aG s2 (aG s3 (aG (fJ it e) (bU rfl)))),λz=>by
   obtain⟨L,hL,G,hG,h⟩:=up.mpr z;exact hall L hL G hG h⟩
 .exact .inr ⟨f,u,w,v,L,G,bF rfl (aG s2 (aG s3 (oX (fJ it e)))),up.mp ⟨L,hL,G,hG,hl⟩,hp,(jE M hL).1,(jE M hG).1,(jE M hL).2,(jE M hG).2⟩
abbrev aJe(S:List (List Nat))(rk:List Nat)(c:Nat)(g:Bool)(x2 x3 x4:Option Sl):PSt:=[some (.v (mD S rk c)),some (.v (.bl g)),x2,x3,x4]
theorem aH3(M:Mch S rk c){g:Bool}:∀(l:List Nat)(x2 x3 x4:Option Sl),(∀L∈l,Cnt S c L)->
  ((∃y2 y3 y4,forR (tgN 2) iC (nats l) (aJe S rk c g x2 x3 x4)=.ok (.nx (aJe S rk c g y2 y3 y4)))/\∀L∈l,∀Y,¬ Inl S c rk (evN rk L) L Y)\/(∃f u v L Y,forR (tgN 2) iC (nats l) (aJe S rk c g x2 x3 x4)=.ok (.rt (.tup [.str f,.str u,.str [],.str v]))/\L∈l/\Inl S c rk (evN rk L) L Y/\Pap S c f u [] v Y L)
 |[],x2,x3,x4,_=>.inl ⟨⟨x2,x3,x4,rfl⟩,λ_ h=>(nomatch h)⟩
 |L::l,x2,x3,x4,h=>by
  have hL:=h L mem_cons_self;obtain⟨F,eF,lF,iF⟩:=aYq M hL.2.1 hL.1.1;have s3:cB 3 (aV mV (aD (aB 0) (aD (aB 2) aU))) (aJe S rk c g (some (.v (.int L))) x3 x4)=.ok (.nx (aJe S rk c g (some (.v (.int L))) (some (.v (.lst (nats F)))) x4)):=bC (aQ rfl eF);have tst':e2 dNe (aB 3) (jX aU) (aJe S rk c g (some (.v (.int L))) (some (.v (.lst (nats F)))) x4)=.ok (.bl (!decide (F=[]))):=aK rfl (fX rfl) (aN4 F);cases F with
  |nil=>
   have t:iC (aJe S rk c g (some (.v (.int L))) x3 x4)=.ok (.nx (aJe S rk c g (some (.v (.int L))) (some (.v (.lst (nats [])))) x4)):=aG s3 (gY tst' rfl);have none':∀Y,¬ Inl S c rk (evN rk L) L Y:=λY hY=>by cases (iF Y).mpr hY
   rcases aH3 M (g:=g) l (some (.v (.int L))) (some (.v (.lst (nats [])))) x4 λL hL=>h L (mem_cons_of_mem _ hL) with ⟨⟨z2,z3,z4,e2'⟩,hall2⟩|⟨f,u,v,L',Y,e2',hL',hl⟩
   .refine .inl ⟨⟨z2,z3,z4,fO (d:=.int (L:Nat)) rfl t e2'⟩,λL' hL'=>?_⟩
    rcases List.mem_cons.mp hL' with q|q
    .rw[q];exact none'
    .exact hall2 L' q
   .exact .inr ⟨f,u,v,L',Y,fO (d:=.int (L:Nat)) rfl t e2',mem_cons_of_mem _ hL',hl⟩
  |cons Y F=>
   have hY:=(iF Y).mp mem_cons_self;obtain⟨i1,i2,i3,_,_⟩:=aC8 M hY hL.1.1 hL.2.1;have sY:oK Y L:=λg hg=>(uG.mp (i2 g hg)).1
   obtain⟨f,R,en,f1,f2,f3,f4⟩:=aTz M (X:=Y) (row:=[L]) (λL' hL'=>by
    rcases List.mem_cons.mp hL' with q|q
    .rw[q];exact⟨i1,i3,λ_ z=>z⟩
    .rw[List.mem_singleton.mp q];exact⟨hL.1,hL.2.1,sY⟩) (λg hg=>hL.2.2 g (sY g hg)) (by simp)
   have hu:=f4 Y mem_cons_self;have hv:=f4 L (mem_cons_of_mem _ mem_cons_self);refine .inr ⟨f,R Y,R L,L,Y,?_,mem_cons_self,hY,⟨f1,f2,λ_ h=>(nomatch h),zero_le _,hu,hv,f3,sY _ f3⟩⟩
   have t:iC (aJe S rk c g (some (.v (.int L))) x3 x4)=.ok (.rt (.tup [.str f,.str (R Y),.str [],.str (R L)])):=aG s3 (rM tst' (aG (bC (aQ (bA rfl (bA (fX (ds:=nats [Y,L]) (bA (aK rfl rfl (fY (aC9 (.int Y) (nats F)))) (bA rfl rfl))) rfl)) en)) (bU (aRo (bA (aK (z:=.ok (.str f)) rfl rfl rfl) (bA (aK (x:=.lst [.str (R Y),.str (R L)]) (z:=.ok (.str (R Y))) (aK rfl rfl rfl) rfl rfl) (bA rfl (bA (aK (x:=.lst [.str (R Y),.str (R L)]) (z:=.ok (.str (R L))) (aK rfl rfl rfl) rfl rfl) rfl)))) (show 4<=1000 by decide)))))
   show forR (tgN 2) iC (.int (L:Nat)::nats l) _=_;rw[nZ];show (iC (aJe S rk c g (some (.v (.int L))) x3 x4)).bind _=_;rw[t];rfl
def Wit(S:List (List Nat))(c:Nat)(rk:List Nat)(g:Bool):Prop:=∃L Y,Cnt S c L/\LpN S c Y/\oK Y L/\evN rk L=g/\evN rk Y=!g
theorem aW4(M:Mch S rk c)(g:Bool):(dN [mD S rk c,.bl g]=.ok .non/\¬ Wit S c rk g)\/(∃f u v L Y,dN [mD S rk c,.bl g]=.ok (.tup [.str f,.str u,.str [],.str v])/\Wit S c rk g/\Pap S c f u [] v Y L/\Cnt S c L/\LpN S c Y/\oK Y L/\evN rk L=g/\evN rk Y=(!g)):=by
 have it:itE (aV dM (aD (aB 0) (aD (aV jK (aD (aB 0) (aD (eC (.int 0)) aU))) (aD (aB 1) aU)))) (aJe S rk c g none none none)=.ok (nats (nR S c rk (see S c) g)):=vC (aQ (bA rfl (bA (aQ rfl (bJ7 M)) (bA rfl rfl))) (aMy M rY));have two:∀L Y,L∈nR S c rk (see S c) g->Inl S c rk (evN rk L) L Y->Cnt S c L/\LpN S c Y/\oK Y L/\evN rk L=g/\evN rk Y=!g:=λL Y hL hY=>by
  obtain⟨l1,l2⟩:=jE M hL;obtain⟨i1,i2,_,_,i5⟩:=aC8 M hY l1.1.1 l1.2.1;refine⟨l1,i1,λg hg=>(uG.mp (i2 g hg)).1,l2,?_⟩
  rw[l2]at i5;cases h:evN rk Y<;>cases g<;>first|rfl|(rw[h]at i5;exact(i5 rfl).elim)
 have one:∀L Y,L∈nR S c rk (see S c) g->Inl S c rk (evN rk L) L Y->Wit S c rk g:=λL Y hL hY=>⟨L,Y,two L Y hL hY⟩
 have up:(∃L∈nR S c rk (see S c) g,∃Y,Inl S c rk (evN rk L) L Y)↔Wit S c rk g:=by
  constructor
  .rintro⟨L,hL,Y,hY⟩;exact one L Y hL hY
  .rintro⟨L,Y,l1,y1,sY,l2,y2⟩;obtain⟨L',hL',sL⟩:=aG7 (rk:=rk) M l1;rw[l2]at hL';obtain⟨m1,m2⟩:=jE M hL';refine⟨L',hL',?_⟩;rcases aLm M (szN L') L' (Nat.le_refl _) m1.1.1 m1.2.1 rfl y1 (λg hg=>sL g (sY g hg)) with ⟨Z,hZ,_⟩|⟨e,_⟩
   .exact⟨Z,hZ⟩
   .rw[m2,y2]at e;cases g<;>cases e
 rcases aH3 M (g:=g) (nR S c rk (see S c) g) none none none (λL hL=>(jE M hL).1) with ⟨⟨y2,y3,y4,e⟩,hall⟩|⟨f,u,v,L,Y,e,hL,hY,hp⟩
 .exact .inl ⟨bF rfl (aG (fJ it e) (bU rfl)),λz=>by
   obtain⟨L,hL,Y,h⟩:=up.mpr z;exact hall L hL Y h⟩
 .exact .inr ⟨f,u,v,L,Y,bF rfl (oX (fJ it e)),one L Y hL hY,hp,two L Y hL hY⟩
end
theorem bCe{x y:List D}(h:x.length+y.length<=1000):oG (.lst x) (.lst y)=.ok (.lst (x++y)):=aF (eN (Nat.le_trans h (by decide)))
section
variable{S:List (List Nat)}{rk:List Nat}{c n r k:Nat}
theorem aPe(M:Mch S rk c)(t:Option Sl):∀(x:List Nat)(q:Nat)(acc:List Nat)(l:Option Sl),q<S.length->Ltr c x->acc.length+x.length<=1000->∃l',forR (tgN 4) aEc (x.map λch=>D.str [ch]) [some (.v (.lst (stD S))),some (.v (.int q)),t,some (.o .l (nats acc)),l]=.ok (.nx [some (.v (.lst (stD S))),some (.v (.int (dZ S q x))),t,some (.o .l (nats (acc++runs S q x))),l'])
 |[],q,acc,l,_,_,_=>⟨l,by rw[show runs S q []=[] from rfl,append_nil];rfl⟩
 |ch::x,q,acc,l,hq,hx,hl=>by
  rw[length_cons]at hl;obtain⟨h1,h2⟩:=hx ch (.head _);obtain⟨row,f1,f2,f3⟩:=aTc M hq h1 h2;obtain⟨l',e⟩:=aPe M t x (stp S q (ch-97)) (acc++[stp S q (ch-97)]) (some (.v (.str [ch]))) f3 (λy hy=>hx y (.tail _ hy)) (by rw[length_append,length_singleton];omega)
  have mt:eMt aIc (eC (.str [97,98,99])) (aD (aB 4) aU) [some (.v (.lst (stD S))),some (.v (.int q)),t,some (.o .l (nats acc)),some (.v (.str [ch]))]=.ok (.int ((ch-97:Nat):Int)):=by
   show (ofO (kY [97,98,99] [ch] 0)).bind _=_;rw[aOn M.c3 h1 h2];rfl
  rw[List.append_assoc]at e;refine⟨l',fO rfl (aG (st':=[some (.v (.lst (stD S))),some (.v (.int (stp S q (ch-97)))),t,some (.o .l (nats acc)),some (.v (.str [ch]))]) (bC (aK (aK rfl rfl (fY f1)) mt (fY f2))) ((wB (xs:=nats acc) rfl rfl (by rw[bD];omega)).trans ?_)) e⟩
  rw[<-jZ];rfl
theorem aRp(M:Mch S rk c)(hr:r<S.length) (hu:Ltr c u) (hl:u.length<=500):pY [.lst (stD S),.int r,.str u]=.ok (.lst (nats (runs S r u))):=by
 obtain⟨l',e⟩:=aPe M (some (.v (.str u))) u r [] none hr hu (by rw[length_nil];omega)
 refine bF rfl (aG (oY (fX rfl)) (aG (fJ ?_ e) rfl));show aY (u.length<=big) _=_;exact aF (eN (by omega))
theorem bCf(M:Mch S rk c) (hu:Ltr c u) (hl:u.length<=500):oO [.str u,.int c]=.ok (.bl true):=by
 have c1:=M.c1;have c3:=M.c3;have ce:gU (tgN 2) pX pW [some (.v (.str u)),some (.v (.int c)),none] (u.map λch=>D.str [ch])=.ok ((u.filter λ_=>true).map λch=>D.str [ch]):=tY u λch hch=>by
  obtain⟨a,b⟩:=hu ch hch;have hsl:eSl (eC (.str [97,98,99])) aL1 (aL2 (aB 1)) [some (.v (.str u)),some (.v (.int c)),some (.v (.str [ch]))]=.ok (.str (cut [97,98,99] none (some (c:Int)))):=by
   rw[bFs,aSu,aO];simp only[aXs,aXt];exact aF (eN (by show 3<=_;omega))
  refine⟨_,rfl,aK rfl hsl ?_,λ_=>rfl⟩
  show R.ok (D.bl (kY (cut [97,98,99] none (some (c:Int))) [ch] 0).isSome)=_;rw[bG9 (by omega) (by omega) a (by omega)]
 rw[List.filter_eq_self.mpr (λ_ _=>rfl)]at ce
 have it:itE (aB 0) [some (.v (.str u)),some (.v (.int c)),none]=.ok (u.map λch=>D.str [ch]):=by
  show aY (u.length<=big) _=_;exact aF (eN (by omega))
 have l0:e1 lU (aB 0) [some (.v (.str u)),some (.v (.int c)),none]=.ok (.int (u.length:Nat)):=show aY (u.length<=big) _=_ from aF (eN (by omega))
 have l1:e1 lU (cY [2] (tgN 2) (itE (aB 0)) pX pW) [some (.v (.str u)),some (.v (.int c)),none]=.ok (.int (u.length:Nat)):=by
  rw[aOh,gH it (by rw[length_map];omega) ce,aO]
  show R.ok (D.int ((u.map λch=>D.str [ch]).length:Nat))=_
  rw[length_map]
 exact bF rfl (bU ((nQ (p:=true) (q:=true) (aF rfl) λ_=>aK l1 l0 ((qG _ _).trans (by rw[decide_eq_true rfl]))).trans rfl))
theorem aZ1:∀(x:List Nat)(q:Nat),x≠[]->(runs S q x).getLast?=some (dZ S q x)
 |[],_,h=>absurd rfl h
 |ch::x,q,_=>aC1 x (stp S q (ch-97))
theorem aJf{x0 x1 x2 x3:Option Sl}:∀(l:List Nat)(b:Nat)(x5:Option Sl),(∀r∈l,r<=1000000)->∃y5,forR (tgN 5) aAs (nats l) [x0,x1,x2,x3,some (.v (.int b)),x5]=.ok (.nx [x0,x1,x2,x3,some (.v (.int (orN l b))),y5])
 |[],b,x5,_=>⟨x5,rfl⟩
 |r::l,b,x5,h=>by
  obtain⟨y5,e⟩:=aJf (x0:=x0) (x1:=x1) (x2:=x2) (x3:=x3) l (b|||2^r) (some (.v (.int r))) λr hr=>h r (mem_cons_of_mem _ hr)
  exact⟨y5,fO (d:=.int (r:Nat)) rfl (bC (aK rfl (aK rfl rfl (aRc (h r mem_cons_self))) (aEv _ _))) e⟩
theorem aN6(M:Mch S rk c)(hn:n<2^S.length) (Q:Rnd S c n r u):u.length<=64:=by
 have n8:=M.most;have hk:=yH hn;have:=Q.len;have h1:(aP n).length*(aP n).length<=8*8:=Nat.mul_le_mul (by omega) (by omega)
 omega
theorem aLr(M:Mch S rk c)(hn:n<2^S.length)(hr:r∈aP n) (Q:Rnd S c n r u):oR [.lst (stD S),.int r,.str u]=.ok (.int n):=by
 have n8:=M.most;have hl:=aN6 M hn Q;have hrl:=bH hn hr;have hu:=aC5 Q.pat;have el:=aRp M hrl hu (by omega)
 have hne:runs S r u≠[]:=λz=>Q.ne (List.length_eq_zero_iff.mp (by rw[<-aJ0 (S:=S) u r,z];rfl))
 have hb:∀g∈runs S r u,g∈aP n:=λg hg=>aL.mpr (aP1 Q.pat g hg)
 obtain⟨y5,e⟩:=aJf (x0:=some (.v (.lst (stD S)))) (x1:=some (.v (.int r))) (x2:=some (.v (.str u))) (x3:=some (.v (.lst (nats (runs S r u))))) (runs S r u) 0 none λg hg=>by have:=bH hn (hb g hg);omega
 have en:orN (runs S r u) 0=n:=eq_of_testBit_eq λg=>by
  refine(fZ (runs S r u) g).trans ?_
  cases hz:n.testBit g with
  |true=>exact decide_eq_true (Q.all g (aL.mpr hz))
  |false=>
   refine decide_eq_false λz=>?_
   have:=aL.mp (hb g z);rw[hz]at this;cases this
 rw[en]at e;have hlast:atI (nats (runs S r u)) (-1)=some (.int r):=atI_last (aG2 (by rw[aZ1 u r Q.ne,uF Q.pat]))
 refine bF rfl (aG (bC (aQ rfl el)) (cV (gY (aB1 (p:=false) (q:=false) (aK rfl (fX rfl) ((aYj (runs S r u) []).trans (by rw[decide_eq_false hne]))) λ_=>(neE (m:=r) (o:=r) (aK rfl rfl (fY hlast)) rfl).trans (by rw[decide_eq_true rfl];rfl)) rfl) (aG rfl (aG (fJ rfl e) (bU rfl)))))
def srt(k:Nat)(a b:Bool):Bool:=
 match k with
 |0=>!a&&b
 |4=>!a&&b
 |2=>!(a==b)
 |_=>a && !b
theorem aZ2(hk:k<5)(a b:Bool):tE [.int k,.bl a,.bl b]=.ok (.bl (srt k a b)):=by
 have t:∀j:Nat,e2 dEq (aB 0) (eC (.int j)) [some (.v (.int k)),some (.v (.bl a)),some (.v (.bl b))]=.ok (.bl (decide ((k:Int)=(j:Int)))):=λj=>aK rfl rfl (qG _ _)
 have n1:oH (mR (aB 1)) (aB 2) [some (.v (.int k)),some (.v (.bl a)),some (.v (.bl b))]=.ok (.bl (!a&&b)):=nQ (kO rfl) λ_=>rfl
 have n2:oH (aB 1) (mR (aB 2)) [some (.v (.int k)),some (.v (.bl a)),some (.v (.bl b))]=.ok (.bl (a && !b)):=nQ rfl λ_=>kO rfl
 have n3:e2 dNe (aB 1) (aB 2) [some (.v (.int k)),some (.v (.bl a)),some (.v (.bl b))]=.ok (.bl (!(a==b))):=aK rfl rfl (aF ⟨zero_le 64,rfl,rfl⟩);have:k=0\/k=1\/k=2\/k=3\/k=4:=by omega
 rcases this with rfl|rfl|rfl|rfl|rfl
 .exact bF rfl (oX (rM (aB1 (t 0) λ_=>t 4) (bU n1)))
 .exact bF rfl (cV (gY (aB1 (t 0) λ_=>t 4) rfl) (cV (gY (t 2) rfl) (bU n2)))
 .exact bF rfl (cV (gY (aB1 (t 0) λ_=>t 4) rfl) (oX (rM (t 2) (bU n3))))
 .exact bF rfl (cV (gY (aB1 (t 0) λ_=>t 4) rfl) (cV (gY (t 2) rfl) (bU n2)))
 .exact bF rfl (oX (rM (aB1 (t 0) λ_=>t 4) (bU n1)))
def Shw(S:List (List Nat))(c:Nat)(rk:List Nat)(k:Nat)(d:D):Prop:=∃f u w v X Z,d=.tup [.str f,.str u,.str w,.str v]/\Pap S c f u w v X Z/\(LpN S c X/\X<2^S.length)/\(LpN S c Z/\Z<2^S.length)/\srt k (evN rk X) (evN rk Z)=true/\(1<k->w=[]/\X&&&Z=X)
theorem aZ3(x:List Nat):dNe (.str x) (.str x)=.ok (.bl false):=by
 rw[aMm,aF ⟨by unfold dep;omega,by unfold plain;rfl,by unfold plain;rfl⟩]
 have:eqD (.str x) (.str x)=true:=by unfold eqD;simp
 rw[this];rfl
abbrev aRq(S:List (List Nat))(rk:List Nat)(k:Nat)(d:D)(x4 x5 x6 x7 x8 x9 x10 x11 x12:Option Sl):PSt:=[some (.v (.lst (stD S))),some (.v (.lst (nats rk))),some (.v (.int k)),some (.v d),x4,x5,x6,x7,x8,x9,x10,x11,x12]
theorem aZ4(M:Mch S rk c)(hk:k<5) (h:Shw S c rk k d):tH [.lst (stD S),.lst (nats rk),.int k,d]=.ok (.bl true):=by
 obtain⟨f,u,w,v,X,Z,rfl,P,⟨hX,xl⟩,⟨hZ,zl⟩,hs,hw⟩:=h;have n1:=M.one;have n8:=M.most;have nf:=P.nf;have nw:=P.nw;have lu:=aN6 M xl P.ru;have lv:=aN6 M zl P.rv;have ha:=bH xl P.a;have hb:=bH zl P.b;have hrow:=(M.row S[0] (List.getElem_mem (show 0<S.length by omega))).1
 have hall:∀x∈[f,u,w,v],Ltr c x/\x.length<=500:=λx hx=>by
  rcases List.mem_cons.mp hx with rfl|hx
  .exact⟨P.lf,by omega⟩
  rcases List.mem_cons.mp hx with rfl|hx
  .exact⟨aC5 P.ru.pat,by omega⟩
  rcases List.mem_cons.mp hx with rfl|hx
  .exact⟨P.lw,by omega⟩
  rw[List.mem_singleton.mp hx];exact⟨aC5 P.rv.pat,by omega⟩
 obtain⟨st1,⟨x4,rfl⟩,e1'⟩:=aMs (tg:=tgN 4) (L:=aAt) (λst=>∃x4,st=aRq S rk k (.tup [.str f,.str u,.str w,.str v]) x4 none none none none none none none none) ([f,u,w,v].map D.str) (λd hd st hst=>by
  obtain⟨x,hx,rfl⟩:=List.mem_map.mp hd;obtain⟨x4,rfl⟩:=hst;obtain⟨a,b⟩:=hall x hx;have hlen:e1 lU (e2 dIx (aB 0) (eC (.int 0))) (aRq S rk k (.tup [.str f,.str u,.str w,.str v]) (some (.v (.str x))) none none none none none none none none)=.ok (.int (c:Nat)):=by
   rw[aOh,aK (rfl:aB 0 (aRq S rk k (.tup [.str f,.str u,.str w,.str v]) (some (.v (.str x))) none none none none none none none none)=.ok (.lst (stD S))) rfl (fY (aIq (q:=0) (by omega))),aO]
   show R.ok (D.int ((nats S[0]).length:Nat))=_;rw[bD,hrow]
  exact⟨_,_,rfl,gY (kO (p:=true) (aQ (bA rfl (bA hlen rfl)) (bCf M a b))) rfl,_,rfl⟩) (aRq S rk k (.tup [.str f,.str u,.str w,.str v]) none none none none none none none none none) ⟨none,rfl⟩
 have last:∀{st:PSt}{q:Nat}{x:List Nat}{e1 e2':Ex},e1 st=.ok (.int (q:Nat))->e2' st=.ok (.lst (nats (runs S q x)))->x.length<=500->e2 dIx (e2 oG (jX (aD e1 aU)) e2') (_root_.Pu.e1 aOe (eC (.int 1))) st=.ok (.int (dZ S q x:Nat)):=λ{st q x e1 e2'} h1 h2 hl=>aK (aK (fX (bA h1 rfl)) h2 (bCe (by rw[bD,aJ0];show 1+_<=_;omega))) rfl (fY (atI_last (aG2 (aC1 x q))))
 have g1:=aLr M xl P.a P.ru;have g2:=aLr M zl P.b P.rv;have eX:e2 dEq (aB 7) (eC (.int 0)) (aRq S rk k (.tup [.str f,.str u,.str w,.str v]) x4 (some (.v (.int (dZ S 0 f)))) (some (.v (.int (dZ S (dZ S 0 f) w)))) (some (.v (.int X))) (some (.v (.int Z))) (some (.v (.str f))) (some (.v (.str u))) (some (.v (.str w))) (some (.v (.str v))))=.ok (.bl false):=aK rfl rfl ((qG _ _).trans (by have:=hX.1;rw[decide_eq_false (by omega)]))
 have eZ:e2 dEq (aB 8) (eC (.int 0)) (aRq S rk k (.tup [.str f,.str u,.str w,.str v]) x4 (some (.v (.int (dZ S 0 f)))) (some (.v (.int (dZ S (dZ S 0 f) w)))) (some (.v (.int X))) (some (.v (.int Z))) (some (.v (.str f))) (some (.v (.str u))) (some (.v (.str w))) (some (.v (.str v))))=.ok (.bl false):=aK rfl rfl ((qG _ _).trans (by have:=hZ.1;rw[decide_eq_false (by omega)]))
 refine bF rfl (cV (gY (aB1 (p:=false) (q:=false) (kO (p:=true) (aF rfl)) λ_=>aK rfl rfl (aIn 4 4)) rfl) (aG (fJ rfl e1') (aG (st':=aRq S rk k (.tup [.str f,.str u,.str w,.str v]) x4 none none none none (some (.v (.str f))) (some (.v (.str u))) (some (.v (.str w))) (some (.v (.str v)))) rfl ?_)))
 refine aG (bC (last (q:=0) (x:=f) rfl (aQ rfl (aRp M (r:=0) (by omega) P.lf (by omega))) (by omega))) ?_
 refine aG (bC (last (q:=dZ S 0 f) (x:=w) rfl (aQ rfl (aRp M ha P.lw (by omega))) (by omega))) ?_
 refine aG (bC (aQ rfl g1)) (aG (bC (aQ rfl g2)) ?_);refine cV (gY (aB1 (p:=false) (q:=false) eX λ_=>aB1 (p:=false) (q:=false) eZ λ_=>(nQ (p:=decide ((1:Int)<(k:Int))) (q:=false) (aK rfl rfl rfl) λhz=>?_).trans (by rw[Bool.and_false])) rfl) (bU ((aQ (bA rfl (bA (aQ rfl (aEz M xl hX.1)) (bA (aQ rfl (aEz M zl hZ.1)) rfl))) (aZ2 hk _ _)).trans (by rw[hs])))
 obtain⟨hw1,hw2⟩:=hw (by have:=of_decide_eq_true hz;omega)
 subst hw1;exact aB1 (p:=false) (q:=false) (aK rfl rfl (aZ3 [])) λ_=>(neE (m:=X&&&Z) (o:=X) (aK rfl rfl (tM _ _)) rfl).trans (by rw[hw2,decide_eq_true rfl];rfl)
open Classical in
noncomputable def qN(S:List (List Nat))(c:Nat)(rk:List Nat):Nat->Bool
 |0=>!decide (Beh S c rk true)
 |1=>!decide (Beh S c rk false)
 |2=>!decide (Wit S c rk false) && !decide (Wit S c rk true)
 |3=>!decide (Wit S c rk false)
 |_=>!decide (Wit S c rk true)
def Bar(S:List (List Nat))(c:Nat)(rk:List Nat)(k:Nat)(q:Bool)(d:D):Prop:=(d=.non/\q=true)\/(Shw S c rk k d/\q=false)
theorem aZ5(M:Mch S rk c){Y:Nat}(hL:Cnt S c L)(hs:oK Y L):Y<2^S.length:=by
 rw[<-gC Y];exact pA λr hr=>bH hL.2.1 (hs r hr)
theorem bCg{Y:Nat}(h:oK Y L):Y&&&L=Y:=yI.mpr h
open Classical in
theorem bCh(M:Mch S rk c)(hk:k<5):∃d,([dH,eQ,eE,iI,fQ].getD k dH) [lK k,mD S rk c]=.ok d/\Bar S c rk k (qN S c rk k) d:=by
 have beh:∀(g:Bool)(k:Nat),(k=0\/k=1)->(∀a b:Bool,a=!g->b=g->srt k a b=true)->∃d,jQ [mD S rk c,.bl g]=.ok d/\Bar S c rk k (!decide (Beh S c rk g)) d:=λg k hk hs=>by
  rcases aW3 M g with ⟨e,h⟩|⟨f,u,w,v,L,G,e,h,P,hL,hG,eL,eG⟩
  .exact⟨_,e,.inl ⟨rfl,by rw[decide_eq_false h];rfl⟩⟩
  .exact⟨_,e,.inr ⟨⟨f,u,w,v,L,G,rfl,P,⟨hL.1,hL.2.1⟩,⟨hG.1,hG.2.1⟩,hs _ _ eL eG,λz=>by omega⟩,by rw[decide_eq_true h];rfl⟩⟩
 have wit:∀(g:Bool)(k:Nat),(∀a b:Bool,a=!g->b=g->srt k a b=true)->(dN [mD S rk c,.bl g]=.ok .non/\¬ Wit S c rk g)\/∃d,dN [mD S rk c,.bl g]=.ok d/\isN d=false/\Shw S c rk k d/\Wit S c rk g:=λg k hs=>by
  rcases aW4 M g with ⟨e,h⟩|⟨f,u,v,L,Y,e,h,P,hL,hY,sY,eL,eY⟩
  .exact .inl ⟨e,h⟩
  .exact .inr ⟨_,e,rfl,⟨f,u,[],v,Y,L,rfl,P,⟨hY,aZ5 M hL sY⟩,⟨hL.1,hL.2.1⟩,hs _ _ eY eL,λ_=>⟨rfl,bCg sY⟩⟩,h⟩
 have wit1:∀(g:Bool)(k:Nat),(∀a b:Bool,a=!g->b=g->srt k a b=true)->∃d,dN [mD S rk c,.bl g]=.ok d/\Bar S c rk k (!decide (Wit S c rk g)) d:=λg k hs=>by
  rcases wit g k hs with ⟨e,h⟩|⟨d,e,_,h1,h2⟩
  .exact⟨_,e,.inl ⟨rfl,by rw[decide_eq_false h];rfl⟩⟩
  .exact⟨_,e,.inr ⟨h1,by rw[decide_eq_true h2];rfl⟩⟩
 have:k=0\/k=1\/k=2\/k=3\/k=4:=by omega
 rcases this with rfl|rfl|rfl|rfl|rfl
 .obtain⟨d,e,hn⟩:=beh true 0 (.inl rfl) (λa b h1 h2=>by rw[h1,h2];rfl)
  exact⟨d,(show dH [lK 0,mD S rk c]=.ok d from bF rfl (bU (aQ rfl e))),hn⟩
 .obtain⟨d,e,hn⟩:=beh false 1 (.inr rfl) (λa b h1 h2=>by rw[h1,h2];rfl)
  exact⟨d,(show eQ [lK 1,mD S rk c]=.ok d from bF rfl (bU (aQ rfl e))),hn⟩
 .have s2:∀g a b:Bool,a=!g->b=g->srt 2 a b=true:=λg a b h1 h2=>by rw[h1,h2];cases g<;>rfl
  rcases wit false 2 (s2 false) with ⟨e,h⟩|⟨d,e,hz,h1,h2⟩
  .obtain⟨d',e',h'⟩:=wit1 true 2 (s2 true);refine⟨d',(show eE [lK 2,mD S rk c]=.ok d' from bF rfl (aG (bC (aQ rfl e)) (bU ?_))),?_⟩
   .show (e2 aAi (aB 2) (eC .non) [some (.v (lK 2)),some (.v (mD S rk c)),some (.v .non)]).bind _=_;rw[aK (op:=aAi) (x:=.non) (y:=.non) (z:=.ok (.bl false)) rfl rfl rfl,aO];show aV dN (aD (aB 1) (aD (eC (.bl true)) aU)) [some (.v (lK 2)),some (.v (mD S rk c)),some (.v .non)]=_;exact aQ rfl e'
   .show Bar S c rk 2 (!decide (Wit S c rk false) && !decide (Wit S c rk true)) d';rw[decide_eq_false h];exact h'
  .refine⟨d,(show eE [lK 2,mD S rk c]=.ok d from bF rfl (aG (bC (aQ rfl e)) (bU ?_))),.inr ⟨h1,?_⟩⟩
   .show (e2 aAi (aB 2) (eC .non) [some (.v (lK 2)),some (.v (mD S rk c)),some (.v d)]).bind _=_;rw[aK (op:=aAi) (x:=d) (y:=.non) (z:=.ok (.bl (!isN d))) rfl rfl (by cases d<;>rfl),aO,hz]
    rfl
   .show (!decide (Wit S c rk false) && !decide (Wit S c rk true))=false;rw[decide_eq_true h2];rfl
 .obtain⟨d,e,hn⟩:=wit1 false 3 (λa b h1 h2=>by rw[h1,h2];rfl)
  exact⟨d,(show iI [lK 3,mD S rk c]=.ok d from bF rfl (bU (aQ rfl e))),hn⟩
 .obtain⟨d,e,hn⟩:=wit1 true 4 (λa b h1 h2=>by rw[h1,h2];rfl)
  exact⟨d,(show fQ [lK 4,mD S rk c]=.ok d from bF rfl (bU (aQ rfl e))),hn⟩
end
section
theorem aN7(M:Mch S rk c) (h':∀g,g<S.length->al' g=true) {s g:Nat} (hs:s<S.length) (h:Rch S c al s g):Rch S c al' s g:=by
 induction h with
 |here=>exact .here
 |on h hl _ ih=>
  obtain⟨_,_,_,hlt⟩:=aIp M (aB4 M hs h) hl;exact .on ih hl (h' _ hlt)
theorem aZ6(M:Mch S rk c):∀g,g<S.length->inN 255 g=true:=λg hg=>by
 have n8:=M.most;have:g=0\/g=1\/g=2\/g=3\/g=4\/g=5\/g=6\/g=7:=by omega
 rcases this with rfl|rfl|rfl|rfl|rfl|rfl|rfl|rfl<;>rfl
theorem aZ7(M:Mch S rk c):aYx S c=see S c:=eq_of_testBit_eq λg=>by
 have n1:=M.one;have h1:=(aTw M (m:=1) (Nat.one_lt_two_pow (by omega))).2 g
 have h2:=aHu M g;have:Clo S c 255 1 g↔Rch S c (λg=>decide (g∈List.range S.length)) 0 g:=by
  constructor
  .rintro⟨s,s1,_,hr⟩;have e:s=0:=by
    refine Classical.byContradiction λz=>?_
    have:(1:Nat).testBit s=false:=by
     obtain⟨k,rfl⟩:∃k,s=k+1:=⟨s-1,by omega⟩
     rw[Nat.testBit_succ];simp
    rw[this]at s1;cases s1
   rw[e]at hr;exact aN7 M (λg hg=>decide_eq_true (List.mem_range.mpr hg)) (by omega) hr
  .exact λh=>⟨0,rfl,rfl,aN7 M (aZ6 M) (by omega) h⟩
 cases hz:(see S c).testBit g with
 |true=>exact h1.mpr (this.mpr (h2.mp hz))
 |false=>
  cases ha:(aYx S c).testBit g with
  |false=>rfl
  |true=>
   have:=h2.mpr (this.mp (h1.mp ha));rw[hz]at this;cases this
theorem aU1(M:Mch S rk c):m∈lps S c↔Cnt S c m:=by
 unfold lps;rw[aTv,aZ7 M];constructor
 .rintro⟨h1,h2⟩;refine⟨h1,?_,h2⟩;rw[<-gC m];exact pA λr hr=>bH rY (h2 r hr)
 .exact λh=>⟨h.1,h.2.2⟩
theorem aU2(M:Mch S rk c):m∈gds S c rk↔Cnt S c m/\evN rk m=true:=by unfold gds;rw[List.mem_filter,aU1 M]
theorem aU3(M:Mch S rk c):m∈bds S c rk↔Cnt S c m/\evN rk m=false:=by unfold bds;rw[List.mem_filter,aU1 M,not_eq_true']
theorem wC(M:Mch S rk c){k:Nat->Nat->Bool}:trN S c rk k=true↔∀G B,Cnt S c G->Cnt S c B->evN rk G=true->evN rk B=false->k G B=true:=by
 unfold trN;rw[List.all_eq_true];constructor
 .intro h G B hG hB g1 b1;exact List.all_eq_true.mp (h G ((aU2 M).mpr ⟨hG,g1⟩)) B ((aU3 M).mpr ⟨hB,b1⟩)
 .intro h G hG;rw[List.all_eq_true];intro B hB;obtain⟨g1,g2⟩:=(aU2 M).mp hG;obtain⟨b1,b2⟩:=(aU3 M).mp hB;exact h G B g1 b1 g2 b2
theorem aRr(M:Mch S rk c) {a b:Nat} (ha:a∈aP (see S c)) (h:Rch S c al a b):Rch S c (inN (see S c)) a b:=by
 have hlt:=bH rY ha;have key:∀b,Rch S c al a b->Rch S c (inN (see S c)) a b/\(see S c).testBit b=true:=λb h=>by
  induction h with
  |here=>exact⟨.here,aL.mp ha⟩
  |on h hl ha' ih=>
   rename_i r l;have hr:=aB4 M hlt h;obtain⟨_,_,_,h4⟩:=aIp M hr hl;have hs:(see S c).testBit (stp S r l)=true:=(aHu M _).mpr (.on ((aHu M r).mp ih.2) hl (decide_eq_true (List.mem_range.mpr h4)));exact⟨.on ih.1 hl hs,hs⟩
 exact(key b h).1
theorem vG(M:Mch S rk c){B:Nat}(hG:Cnt S c G)(hB:Cnt S c B):toN (ahN S c) G B=true↔aDk S c G B:=by
 have hb:=(aTw M hG.2.1).2;unfold toN;rw[decide_eq_true_eq];constructor
 .intro h;have h0:ahN S c G&&&B≠0:=by omega
  obtain⟨g,hg⟩:=exists_mem_of_ne_nil _ (yF h0);have:=aL.mp hg;rw[testBit_and,and_eq_true]at this;obtain⟨s,s1,_,s3⟩:=(hb g).mp this.1;exact⟨s,aL.mpr s1,g,aL.mpr this.2,aRr M (hG.2.2 s (aL.mpr s1)) s3⟩
 .rintro⟨a,ha,b,hb',h⟩;have hlt:=bH hG.2.1 ha;have h1:(ahN S c G).testBit b=true:=(hb b).mpr ⟨a,aL.mp ha,aZ6 M a hlt,aN7 M (aZ6 M) hlt h⟩;have h2:ahN S c G&&&B≠0:=λz=>by
   have:(ahN S c G&&&B).testBit b=true:=by rw[testBit_and,h1,aL.mp hb'];rfl
   rw[z]at this;simp at this
  omega
open Classical in
theorem bE9(M:Mch S rk c):trN S c rk (ck0 (ahN S c))=qN S c rk 0:=by
 show _=!decide (Beh S c rk true)
 by_cases h:Beh S c rk true
 .rw[decide_eq_true h];obtain⟨L,G,hL,hG,l1,g1,hl⟩:=h;refine Bool.eq_false_iff.mpr λz=>?_
  have:=(wC M).mp z G L hG hL g1 l1;unfold ck0 at this;rw[(vG M hL hG).mpr hl]at this;cases this
 .rw[decide_eq_false h];refine(wC M).mpr λG B hG hB g1 b1=>?_
  unfold ck0;rw[not_eq_true'];exact Bool.eq_false_iff.mpr λz=>h ⟨B,G,hB,hG,b1,g1,(vG M hB hG).mp z⟩
open Classical in
theorem bEa(M:Mch S rk c):trN S c rk (ck1 (ahN S c))=qN S c rk 1:=by
 show _=!decide (Beh S c rk false)
 by_cases h:Beh S c rk false
 .rw[decide_eq_true h];obtain⟨L,G,hL,hG,l1,g1,hl⟩:=h;refine Bool.eq_false_iff.mpr λz=>?_
  have:=(wC M).mp z L G hL hG l1 g1;unfold ck1 at this;rw[(vG M hL hG).mpr hl]at this;cases this
 .rw[decide_eq_false h];refine(wC M).mpr λG B hG hB g1 b1=>?_
  unfold ck1;rw[not_eq_true'];exact Bool.eq_false_iff.mpr λz=>h ⟨G,B,hG,hB,g1,b1,(vG M hG hB).mp z⟩
theorem aU4(M:Mch S rk c){Y:Nat}(hL:Cnt S c L)(hY:LpN S c Y)(hs:oK Y L):Cnt S c Y:=by
 refine⟨hY,?_,λg hg=>hL.2.2 g (hs g hg)⟩
 rw[<-gC Y];exact pA λr hr=>bH hL.2.1 (hs r hr)
open Classical in
theorem bEb(M:Mch S rk c):trN S c rk ck3=qN S c rk 3:=by
 show _=!decide (Wit S c rk false)
 by_cases h:Wit S c rk false
 .rw[decide_eq_true h];obtain⟨L,Y,hL,hY,hs,l1,y1⟩:=h;refine Bool.eq_false_iff.mpr λz=>?_
  have:=(wC M).mp z Y L (aU4 M hL hY hs) hL y1 l1;unfold ck3 at this;rw[decide_eq_true (yI.mpr hs)]at this;cases this
 .rw[decide_eq_false h];refine(wC M).mpr λG B hG hB g1 b1=>?_
  unfold ck3;rw[not_eq_true'];exact decide_eq_false λz=>h ⟨B,G,hB,hG.1,yI.mp z,b1,g1⟩
open Classical in
theorem bEc(M:Mch S rk c):trN S c rk ck4=qN S c rk 4:=by
 show _=!decide (Wit S c rk true)
 by_cases h:Wit S c rk true
 .rw[decide_eq_true h];obtain⟨L,Y,hL,hY,hs,l1,y1⟩:=h;refine Bool.eq_false_iff.mpr λz=>?_
  have:=(wC M).mp z L Y hL (aU4 M hL hY hs) l1 y1;unfold ck4 at this;rw[Nat.and_comm,decide_eq_true (yI.mpr hs)]at this;cases this
 .rw[decide_eq_false h];refine(wC M).mpr λG B hG hB g1 b1=>?_
  unfold ck4;rw[not_eq_true'];exact decide_eq_false λz=>h ⟨G,B,hG,hB.1,yI.mp (by rw[Nat.and_comm];exact z),g1,b1⟩
theorem bCi(M:Mch S rk c){B:Nat}(hG:Cnt S c G)(hB:Cnt S c B)(h1:aDk S c G B)(h2:aDk S c B G):∃X,Cnt S c X/\oK G X/\oK B X:=by
 obtain⟨X,hX,sX⟩:=aTt M rY hG.1 hG.2.2;obtain⟨f1,f2,f3⟩:=jT M rY hX;obtain⟨r0,hr0,e0,_⟩:=lZ.mp hX;obtain⟨g,hg⟩:=exists_mem_of_ne_nil _ (yF hG.1.1);have lr0:=bH rY hr0;refine⟨X,⟨f1,f3,f2⟩,sX,λb hb=>?_⟩
 have m1:Mut S c (see S c) r0 g:=(jR M lr0).mp (by rw[e0];exact aL.mp (sX g hg))
 have m2:Mut S c (see S c) g b:=⟨(aN5 M hG.1 hG.2.2 hB.1 hB.2.2 hg hb).mp h1,(aN5 M hB.1 hB.2.2 hG.1 hG.2.2 hb hg).mp h2⟩;have:=(jR M lr0).mpr (m1.trans m2);rw[e0]at this;exact aL.mpr this
open Classical in
theorem bEd(M:Mch S rk c):trN S c rk (ck2 (ahN S c))=qN S c rk 2:=by
 show _=(!decide (Wit S c rk false) && !decide (Wit S c rk true));have self:∀{L Y:Nat},Cnt S c L->LpN S c Y->oK Y L->aDk S c Y L/\aDk S c L Y:=λ{L Y} hL hY hs=>by
  obtain⟨g,hg⟩:=exists_mem_of_ne_nil _ (yF hY.1);exact⟨⟨g,hg,g,hs g hg,.here⟩,⟨g,hs g hg,g,hg,.here⟩⟩
 by_cases h:Wit S c rk false\/Wit S c rk true
 .have:(!decide (Wit S c rk false) && !decide (Wit S c rk true))=false:=by
   rcases h with h|h
   .rw[decide_eq_true h];rfl
   .rw[decide_eq_true h,Bool.and_comm];rfl
  rw[this];refine Bool.eq_false_iff.mpr λz=>?_
  have bad:∀G B,Cnt S c G->Cnt S c B->evN rk G=true->evN rk B=false->aDk S c G B->aDk S c B G->False:=λG B hG hB g1 b1 l1 l2=>by
   have:=(wC M).mp z G B hG hB g1 b1;unfold ck2 at this;rw[(vG M hG hB).mpr l1,(vG M hB hG).mpr l2]at this;cases this
  rcases h with ⟨L,Y,hL,hY,hs,l1,y1⟩|⟨L,Y,hL,hY,hs,l1,y1⟩
  .obtain⟨a,b⟩:=self hL hY hs;exact bad Y L (aU4 M hL hY hs) hL y1 l1 a b
  .obtain⟨a,b⟩:=self hL hY hs;exact bad L Y hL (aU4 M hL hY hs) l1 y1 b a
 .rw[decide_eq_false λz=>h (.inl z),decide_eq_false λz=>h (.inr z)]
  refine(wC M).mpr λG B hG hB g1 b1=>?_
  unfold ck2;rw[not_eq_true'];refine Bool.eq_false_iff.mpr λz=>?_
  rw[and_eq_true,vG M hG hB,vG M hB hG]at z;obtain⟨X,hX,sG,sB⟩:=bCi M hG hB z.1 z.2;cases hx:evN rk X
  .exact h (.inl ⟨X,G,hX,hG.1,sG,hx,g1⟩)
  .exact h (.inr ⟨X,B,hX,hB.1,sB,hx,b1⟩)
theorem bGg(M:Mch S rk c):Mch S (rk.map (· + 1)) c:=⟨M.one,M.most,M.c1,M.c3,M.row,by rw[length_map];exact M.rks⟩
end
section
variable{S:List (List Nat)}{rk:List Nat}{c n r k:Nat}
theorem aZ8(hk:k<5):dIx (.lst ((List.range 5).map lK)) (.int k)=.ok (lK k):=by
 have:k=0\/k=1\/k=2\/k=3\/k=4:=by omega
 rcases this with rfl|rfl|rfl|rfl|rfl<;>rfl
theorem aZ9{t0 t1 t2 t3 t4:Bool}{q:Nat->Bool}(h0:t0=q 0)(h1:t1=q 1)(h2:t2=q 2)(h3:t3=q 3)(h4:t4=q 4)(hk:k<5):dIx (.lst (bs5 t0 t1 t2 t3 t4)) (.int k)=.ok (.bl (q k)):=by
 have:k=0\/k=1\/k=2\/k=3\/k=4:=by omega
 rcases this with rfl|rfl|rfl|rfl|rfl
 .rw[<-h0];rfl
 .rw[<-h1];rfl
 .rw[<-h2];rfl
 .rw[<-h3];rfl
 .rw[<-h4];rfl
abbrev aW5(S:List (List Nat))(rk:List Nat)(c:Nat)(ts:List D)(x5 x6:Option Sl):PSt:=[some (.v (.lst ((List.range 5).map lK))),some (.v (mD S rk c)),some (.v (.lst (stD S))),some (.v (.lst (nats rk))),some (.v (.lst ts)),x5,x6]
theorem aU5(M:Mch S rk c){t0 t1 t2 t3 t4:Bool}(h0:t0=qN S c rk 0)(h1:t1=qN S c rk 1)(h2:t2=qN S c rk 2)(h3:t3=qN S c rk 3)(h4:t4=qN S c rk 4):iJ [.lst ((List.range 5).map lK),mD S rk c,.lst (stD S),.lst (nats rk),.lst (bs5 t0 t1 t2 t3 t4)]=.ok (.bl true):=by
 obtain⟨st',⟨x5,x6,rfl⟩,e⟩:=aMs (tg:=tgN 5) (L:=sS) (λst=>∃x5 x6,st=aW5 S rk c (bs5 t0 t1 t2 t3 t4) x5 x6) (nats (List.range 5)) (λd hd st hst=>by
  obtain⟨k,hk,rfl⟩:=aEs hd;have hk:=List.mem_range.mp hk;obtain⟨x5,x6,rfl⟩:=hst;obtain⟨d,ed,hb⟩:=bCh M hk;have s6:cB 6 (pQ (dY "EarlyNo" "bar" (dH) [] (e2 dIx (aB 0) (aB 5)) (aD (aB 1) aU)) (pQ (dY "EarlyYes" "bar" (eQ) [] (e2 dIx (aB 0) (aB 5)) (aD (aB 1) aU)) (pQ (dY "Settled" "bar" (eE) [] (e2 dIx (aB 0) (aB 5)) (aD (aB 1) aU)) (pQ (dY "Again" "bar" (iI) [] (e2 dIx (aB 0) (aB 5)) (aD (aB 1) aU)) (dY "Lasting" "bar" (fQ) [] (e2 dIx (aB 0) (aB 5)) (aD (aB 1) aU)))))) (aW5 S rk c (bs5 t0 t1 t2 t3 t4) (some (.v (.int k))) x6)=.ok (.nx (aW5 S rk c (bs5 t0 t1 t2 t3 t4) (some (.v (.int k))) (some (.v d)))):=bC (me5 hk (aK rfl rfl (aZ8 hk)) (bA rfl rfl) ed);have tr:e2 dIx (aB 4) (aB 5) (aW5 S rk c (bs5 t0 t1 t2 t3 t4) (some (.v (.int k))) (some (.v d)))=.ok (.bl (qN S c rk k)):=aK rfl rfl (aZ9 (q:=qN S c rk) h0 h1 h2 h3 h4 hk);refine⟨_,aW5 S rk c (bs5 t0 t1 t2 t3 t4) (some (.v (.int k))) (some (.v d)),rfl,aG s6 ?_,_,_,rfl⟩;rcases hb with ⟨rfl,hq⟩|⟨hs,hq⟩
  .rw[hq]at tr;exact rM tr (gY (aK rfl rfl rfl) rfl)
  .rw[hq]at tr;exact gY tr (gY (kO (p:=true) (aQ rfl (aZ4 M hk hs))) rfl)) (aW5 S rk c (bs5 t0 t1 t2 t3 t4) none none) ⟨_,_,rfl⟩
 refine bF rfl (aG (fJ (aH2 (n:=5) rfl (by omega)) e) (bU ((nQ (p:=true) (q:=true) (aK (x:=.lst (stD S)) ?_ rfl (bG0 S).2) λ_=>aK (x:=.lst (nats rk)) ?_ rfl (bBn rk).2).trans rfl)))
 .exact(show e1 (jJ "Machine" "steps") (aB 1) _=.ok (.lst (stD S)) from qH)
 .exact(show e1 (jJ "Machine" "ranks") (aB 1) _=.ok (.lst (nats rk)) from uE)
def aW6(d:D):Prop:=d=.non\/∃f u w v:List Nat,d=.tup [.str f,.str u,.str w,.str v]
theorem bCj{q:Bool} (h:Bar S c rk k q d):aW6 d:=by
 rcases h with ⟨e,_⟩|⟨⟨f,u,w,v,_,_,e,_⟩,_⟩
 .exact .inl e
 .exact .inr ⟨f,u,w,v,e⟩
theorem aW7(h:aW6 d):plain d=true/\dep d<=1/\eqD d d=true:=by
 rcases h with rfl|⟨f,u,w,v,rfl⟩
 .exact⟨by unfold plain;rfl,by unfold dep;omega,by unfold eqD;rfl⟩
 .refine⟨by simp,?_,?_⟩
  .rw[show dep (.tup [.str f,.str u,.str w,.str v])=mQ [.str f,.str u,.str w,.str v]+1 by(conv=>lhs;unfold dep)]
   simp[aBy,dep]
  ·(conv=>lhs;unfold eqD)
   simp[jP]
theorem aJg:∀xs:List D,(∀d∈xs,aW6 d)->fW xs=true/\mQ xs<=1/\jP xs xs=true
 |[],_=>⟨by unfold fW;rfl,by unfold mQ;omega,by unfold jP;rfl⟩
 |d::xs,h=>by
  obtain⟨h1,h2,h3⟩:=aJg xs λd hd=>h d (mem_cons_of_mem _ hd)
  obtain⟨k1,k2,k3⟩:=aW7 (h d mem_cons_self);refine⟨by rw[lA,k1,h1];rfl,by rw[aBy];omega,?_⟩
  unfold jP;rw[k3,h3];rfl
theorem bCk{xs:List D}(h:∀d∈xs,aW6 d):dEq (.lst xs) (.lst xs)=.ok (.bl true):=by
 obtain⟨k1,k2,k3⟩:=aJg xs h;have kd:dep (.lst xs)<=2:=by unfold dep;omega
 have ke:eqD (.lst xs) (.lst xs)=true:=by(conv=>lhs;unfold eqD);exact k3
 have kp:plain (.lst xs)=true:=by(conv=>lhs;unfold plain);exact k1
 rw[aR6,aF ⟨by omega,kp,kp⟩,ke]
end
open Classical in
theorem law_true(ns:List Int)(hn:ns.length<=63):aL7 [.lst (ns.map D.int)]=.ok (.bl true):=by
 obtain⟨S,rk,c,em,M⟩:=aYp ns;have n8:=M.most;have M':=bGg M;have et:=aLo M;have et':=aLo M';obtain⟨F,ec,ea⟩:=aW2 M;have b1:=aU5 M (bE9 M) (bEa M) (bEd M) (bEb M) (bEc M);have b2:=aU5 M' (bE9 M') (bEa M') (bEd M') (bEb M') (bEc M');let G:Nat->D:=λk=>if h:k<5 then Classical.choose (bCh M h) else .non
 have hG:∀k,k<5->([dH,eQ,eE,iI,fQ].getD k dH) [lK k,mD S rk c]=.ok (G k)/\aW6 (G k):=λk hk=>by
  have hs:=Classical.choose_spec (bCh M hk);have e:G k=Classical.choose (bCh M hk):=dif_pos hk;rw[e];exact⟨hs.1,bCj hs.2⟩
 have cr:∀st:PSt,gU (tgN 12) dD aT5 [some (.v (.lst (ns.map D.int))),none,none,none,none,none,none,none,none,none,some (.v (.lst (stD S))),some (.v (.lst (nats rk))),none,none,none,none] (nats rk)=.ok (((rk.filter λ_=>true).map λ(x:Nat)=>D.int (((x+1:Nat)):Int))):=λ_=>tY rk λx _=>⟨_,rfl,rfl,λ_=>aK rfl rfl (by show R.ok (D.int ((x:Int)+1))=_;push_cast;rfl)⟩
 have cr:=cr [];rw[List.filter_eq_self.mpr (λ_ _=>rfl),show rk.map (λ(x:Nat)=>D.int (((x+1:Nat)):Int))=nats (rk.map (· + 1)) by unfold nats;rw[List.map_map];rfl]at cr
 have ck:∀{st:PSt},gU (tgN 13) dD aMq st (nats (List.range 5))=.ok (((List.range 5).filter λ_=>true).map lK)->gU (tgN 13) dD aMq st (nats (List.range 5))=.ok ((List.range 5).map lK):=λh=>by rw[h,List.filter_eq_self.mpr (λ_ _=>rfl)]
 have bars:∀{E:Ex}{st:PSt},(∀k,k<5->∃s1,tgN 14 (lK k) st=.ok s1/\E s1=.ok (G k))->gU (tgN 14) dD E st ((List.range 5).map lK)=.ok ((List.range 5).map G):=λ{E st} h=>by
  have:=tY (tg:=tgN 14) (C:=dD) (E:=E) (st:=st) (F:=lK) (G:=G) (q:=λ_=>true) (List.range 5) λk hk=>by
   obtain⟨s1,a,b⟩:=h k (List.mem_range.mp hk);exact⟨s1,a,rfl,λ_=>b⟩
  rw[List.filter_eq_self.mpr (λ_ _=>rfl)]at this
  exact this
 have hp:∀d∈(List.range 5).map G,aW6 d:=λd hd=>by
  obtain⟨k,hk,rfl⟩:=List.mem_map.mp hd;exact(hG k (List.mem_range.mp hk)).2
 have cp:∀(st:PSt)(E:Ex),st[10]?=some (some (.v (.lst (stD S))))->(∀d∈stD S,E ((st.set 15 none).set 15 (some (.v d)))=.ok d)->cY [15] (tgN 15) (itE (aB 10)) dD E st=.ok (.lst (stD S)):=λst E h1 h2=>aL9 h1 (by rw[oZ];omega) h2
 refine bF rfl (aG (st':=[some (.v (.lst (ns.map D.int))),none,none,none,none,none,none,none,none,none,some (.v (.lst (stD S))),some (.v (.lst (nats rk))),none,none,none,none]) ?_ ?_)
 .show R.bind (lB [.lst (ns.map D.int),.int 0,.int 6]) _=_;rw[em];rfl
 refine aG (bC (gH rfl (by rw[bD,M.rks];omega) cr)) ?_
 refine aG (bC (gH (aH2 (n:=5) rfl (by omega)) (by simp) (ck (tY (List.range 5) λk hk=>⟨_,rfl,rfl,λ_=>aQ rfl (aYz (List.mem_range.mp hk))⟩)))) ?_
 refine aG (bC (aQ (bA (cp _ aT6 rfl λd hd=>by
  obtain⟨r,hr,rfl⟩:=aEt hd;rfl) (bA (d:=.lst (nats rk)) rfl rfl)) (aTb M))) ?_
 refine aG (bC (aQ (bA (cp _ aT7 rfl λd hd=>by
  obtain⟨r,hr,rfl⟩:=aEt hd;rfl) (bA (d:=.lst (nats (rk.map (· + 1)))) rfl rfl)) (aTb M'))) ?_
 refine aG (bC (aQ rfl (aVz M))) ?_
 refine aG (bC (aQ (bA rfl (bA (aQ rfl ec) rfl)) ea)) ?_
 refine aG (bC (aQ rfl et)) ?_
 refine aG (bC (aQ rfl et')) ?_
 refine cV (gY (kO (p:=true) (aQ rfl b1)) rfl) ?_
 refine aG (bC (gH rfl (by simp) (bars (E:=aT8) λk hk=>⟨_,rfl,me5 hk rfl (bA rfl rfl) (hG k hk).1⟩))) ?_
 refine cV (gY (kO (p:=true) (aQ rfl b2)) rfl) ?_
 exact bU (aK (gH rfl (by simp) (bars (E:=aT9) λk hk=>⟨_,rfl,me5 hk rfl (bA rfl rfl) (hG k hk).1⟩)) rfl (bCk hp))
end Pu
namespace Pu
open PySem PySem.Spec PyProof.Rows L2
abbrev LSt:=L2.St
def pB:Key->D
 |.inl i=>.int i
 |.inr x=>.str x.cps.toList
structure ExcCl(K:Frag)(C:Addr):Prop where
 ga:findIn K (.ref C) "__getattribute__"=some (some (.builtin "BaseException.__getattribute__"))
 gn:findIn K (.ref C) "__getattr__"=some none
 mb:mroIn K C (.type "BaseException")=some true
 cl:(PySem.W.clsIn K C).isSome=true
 fd:findIn K (.ref C) "__class__"=some (some (.builtin "object.__class__"))
 sp:PySem.W.specialIn K (.builtin "object.__class__") "__get__"=some (some (.builtin "getset_descriptor.__get__"))
 tk:PySem.W.takesIn K (.builtin "object.__class__")=some true
 mr:mroIn K C (.type "object")=some true
structure ExcAt(K:Frag)(c:String)(C:Addr)(bm:List Value):Prop where
 ns:nsIn K mainGlobals (Str.ofString c)=some (some (.ref C))
 ob:∃(B newId initId:String)(bmB:List Value),ExcBaseFacts B newId initId bmB/\∀h,K.In h->∃N nm q bs hdct sn sub ab col dd k0 k1 k2 k3 k5 mN,
  h.get? C=some (excClassObj nm q C N bs bm hdct sn sub ab col dd k0 k1 k2 k3 k5 newId)/\h.Ns N mN/\mN "__init__"=none/\OwnTail h bmB bm
 ic:ExcCl K C
def bEe(a C:Addr)(h:Heap):Prop:=∃o,h.get? a=some o/\o.cls=.ref C/\notCls o=true
structure ExcIs(K:Frag)(c:String)(C:Addr):Prop where
 ns:nsIn K mainGlobals (Str.ofString c)=some (some (.ref C))
 ic:ExcCl K C
theorem ExcAt.is{K:Frag}{c:String} {bm:List Value} (h:ExcAt K c C bm):ExcIs K c C:=⟨h.ns,h.ic⟩
def xOb(x C:Addr)(d:Option Addr)(h:Heap):Prop:=∃o,h.get? x=some o/\o.cls=.ref C/\notCls o=true/\o.dict=d
def xFs(dx:Addr)(fs:List (Str×V))(h:Heap):Prop:=∃mA,h.Ns1 dx mA/\(∀f,xR (fs.lookup f) (mA f))/\PySem.Within mA (fs.map (·.1))
mutual
def Rep(K:Frag)(H:Hp):D->V->Prop
 |.non,v=>v=V.non
 |.bl b,v=>v=V.bl b
 |.int i,v=>v=V.int i
 |.str s,v=>v=V.str ⟨s.toArray⟩
 |.tup ds,v=>∃a vs,v=V.ref a/\H a=some (.tup vs)/\bM K H ds vs
 |.lst ds,v=>∃a vs,v=V.ref a/\SqL K H a vs/\bM K H ds vs
 |.dct t ks ds,v=>∃a vs,v=V.ref a/\((t=false/\∃kvs:List (Key×V),H a=some (.dK kvs)/\kvs.map (λp=>pB p.1)=ks/\vs=kvs.map (·.2))\/(t=true/\∃kvs:List (List Key×V),H a=some (.dT kvs)/\kvs.map (λp=>D.tup (p.1.map pB))=ks/\vs=kvs.map (·.2)))/\bM K H ds vs
 |.ins c ns ds,v=>∃a C dx fs vs,v=V.ref a/\H a=some (.ins C dx fs)/\nsIn K mainGlobals (Str.ofString c)=some (some (.ref C))/\fs.map (·.1)=ns.map Str.ofString/\vs=fs.map (·.2)/\bM K H ds vs
 |.exn c ns ds,v=>∃a φ C,v=V.ref a/\H a=some (.ext φ)/\(∀h,φ h->bEe a C h)/\ExcIs K c C/\∃dx fs vs,((ns=[]/\vs=[])\/(φ=xOb a C (some dx)/\dx≠a/\H dx=some (.ext (xFs dx fs))/\fs.map (·.1)=ns.map Str.ofString/\vs=fs.map (·.2)))/\bM K H ds vs
 |.fn f,v=>∃a,v=V.ref a/\nsIn K mainGlobals (Str.ofString f)=some (some (.ref a))
def bM(K:Frag)(H:Hp):List D->List V->Prop
 |[],vs=>vs=[]
 |d::ds,vs=>∃v r,vs=v::r/\Rep K H d v/\bM K H ds r
end
theorem aB6{K:Frag} {xs:List V} (e:bL H H') (h:SqT K H a xs):SqT K H' a xs:=by
 rcases h with (h|⟨o,h⟩)|h
 .exact .inl (.inl (e _ _ h))
 .exact .inl (.inr ⟨o,e _ _ h⟩)
 .exact .inr h
mutual
theorem Rep.mono{K:Frag}{H H':Hp}(s:bL H H'):∀{d:D}{v:V},Rep K H d v->Rep K H' d v
 |.non,_,h=>by unfold Rep at h ⊢; exact h
 |.bl _,_,h=>by unfold Rep at h ⊢; exact h
 |.int _,_,h=>by unfold Rep at h ⊢; exact h
 |.str _,_,h=>by unfold Rep at h ⊢; exact h
 |.tup _,_,h=>by
  unfold Rep at h ⊢;obtain⟨a,vs,e,q,r⟩:=h;exact⟨a,vs,e,s _ _ q,bM.mono s r⟩
 |.lst _,_,h=>by
  unfold Rep at h ⊢;obtain⟨a,vs,e,q,r⟩:=h;exact⟨a,vs,e,s.seq q,bM.mono s r⟩
 |.dct _ _ _,_,h=>by
  unfold Rep at h ⊢;obtain⟨a,vs,e,q,r⟩:=h;refine⟨a,vs,e,?_,bM.mono s r⟩;rcases q with ⟨q0,kvs,q1,q2⟩|⟨q0,kvs,q1,q2⟩
  .exact .inl ⟨q0,kvs,s _ _ q1,q2⟩
  .exact .inr ⟨q0,kvs,s _ _ q1,q2⟩
 |.ins _ _ _,_,h=>by
  unfold Rep at h ⊢;obtain⟨a,C,dx,fs,vs,e,q1,q2,q3,q4,r⟩:=h;exact⟨a,C,dx,fs,vs,e,s _ _ q1,q2,q3,q4,bM.mono s r⟩
 |.fn _,_,h=>by unfold Rep at h ⊢; exact h
 |.exn _ _ _,_,h=>by
  unfold Rep at h ⊢;obtain⟨a,φ,C,e,q,hφ,hi,dx,fs,vs,h1,r⟩:=h;refine⟨a,φ,C,e,s _ _ q,hφ,hi,dx,fs,vs,?_,bM.mono s r⟩;rcases h1 with h1|⟨h1,h2,h3,h4⟩
  .exact .inl h1
  .exact .inr ⟨h1,h2,s _ _ h3,h4⟩
theorem bM.mono{K:Frag}{H H':Hp}(s:bL H H'):∀{ds:List D}{vs:List V},bM K H ds vs->bM K H' ds vs
 |[],_,h=>by unfold bM at h ⊢; exact h
 |d::ds,_,h=>by
  unfold bM at h ⊢;obtain⟨v,r,e,q,t⟩:=h;exact⟨v,r,e,Rep.mono s q,bM.mono s t⟩
end
section
variable{K:Frag}
theorem tQ:Rep K H .non v↔v=V.non:=by unfold Rep;exact Iff.rfl
theorem dC:Rep K H (.bl b) v↔v=V.bl b:=by unfold Rep;exact Iff.rfl
theorem bT{i:Int}:Rep K H (.int i) v↔v=V.int i:=by unfold Rep;exact Iff.rfl
theorem eU{s:List Nat}:Rep K H (.str s) v↔v=V.str ⟨s.toArray⟩:=by unfold Rep;exact Iff.rfl
theorem aB7:Rep K H (.tup ds) v↔∃a vs,v=V.ref a/\H a=some (.tup vs)/\bM K H ds vs:=by conv=>lhs;unfold Rep
theorem iW(h:Rep K H (.tup ds) v):∃a vs,v=V.ref a/\SqT K H a vs/\bM K H ds vs:=
 let ⟨a,vs,e,q,r⟩:=aB7.mp h;⟨a,vs,e,SqT.of q,r⟩
theorem iM:Rep K H (.lst ds) v↔∃a vs,v=V.ref a/\SqL K H a vs/\bM K H ds vs:=by conv=>lhs;unfold Rep
theorem yJ{t:Bool}{ks:List D}:Rep K H (.dct t ks ds) v↔∃a vs,v=V.ref a/\((t=false/\∃kvs:List (Key×V),H a=some (.dK kvs)/\kvs.map (λp=>pB p.1)=ks/\vs=kvs.map (·.2))\/(t=true/\∃kvs:List (List Key×V),H a=some (.dT kvs)/\kvs.map (λp=>D.tup (p.1.map pB))=ks/\vs=kvs.map (·.2)))/\bM K H ds vs:=by conv=>lhs;unfold Rep
theorem aHv{c:String}{ns:List String}:Rep K H (.ins c ns ds) v↔∃a C dx fs vs,v=V.ref a/\H a=some (.ins C dx fs)/\nsIn K mainGlobals (Str.ofString c)=some (some (.ref C))/\fs.map (·.1)=ns.map Str.ofString/\vs=fs.map (·.2)/\bM K H ds vs:=by conv=>lhs;unfold Rep
theorem bCl{c:String}{ns:List String}:Rep K H (.exn c ns ds) v↔∃a φ C,v=V.ref a/\H a=some (.ext φ)/\(∀h,φ h->bEe a C h)/\ExcIs K c C/\∃dx fs vs,((ns=[]/\vs=[])\/(φ=xOb a C (some dx)/\dx≠a/\H dx=some (.ext (xFs dx fs))/\fs.map (·.1)=ns.map Str.ofString/\vs=fs.map (·.2)))/\bM K H ds vs:=by conv=>lhs;unfold Rep
theorem bGh{f:String}:Rep K H (.fn f) v↔∃a,v=V.ref a/\nsIn K mainGlobals (Str.ofString f)=some (some (.ref a)):=by conv=>lhs;unfold Rep
theorem dI:bM K H [] vs↔vs=[]:=by unfold bM;exact Iff.rfl
theorem bZ{d:D}:bM K H (d::ds) vs↔∃v r,vs=v::r/\Rep K H d v/\bM K H ds r:=by conv=>lhs;unfold bM
theorem bM.nil:bM K H [] []:=dI.mpr rfl
theorem bM.cons{d:D} {v:V} (h:Rep K H d v) (t:bM K H ds vs):bM K H (d::ds) (v::vs):=bZ.mpr ⟨v,vs,rfl,h,t⟩
theorem bM.length:∀{ds:List D}{vs:List V},bM K H ds vs->vs.length=ds.length
 |[],_,h=>by rw[dI.mp h];rfl
 |_::ds,_,h=>by
  obtain⟨v,r,rfl,_,t⟩:=bZ.mp h;rw[length_cons,length_cons,bM.length t]
theorem bM.get:∀{ds:List D}{vs:List V}{i:Nat}{d:D},bM K H ds vs->ds[i]?=some d->∃v,vs[i]?=some v/\Rep K H d v
 |[],_,_,_,_,e=>by simp at e
 |_::ds,_,0,d,h,e=>by
  obtain⟨v,r,rfl,q,t⟩:=bZ.mp h;simp at e;subst e;exact⟨v,rfl,q⟩
 |_::ds,_,i+1,d,h,e=>by
  obtain⟨v,r,rfl,q,t⟩:=bZ.mp h;obtain⟨u,e1,e2⟩:=bM.get (i:=i) t (by simpa using e)
  exact⟨u,by simpa using e1,e2⟩
theorem bM.append:∀{ds es:List D}{vs us:List V},bM K H ds vs->bM K H es us->bM K H (ds++es) (vs++us)
 |[],_,_,_,h,t=>by rw[dI.mp h];exact t
 |_::_,_,_,_,h,t=>by
  obtain⟨v,r,rfl,q,w⟩:=bZ.mp h;exact .cons q (bM.append w t)
theorem bM.set{d:D}{v:V}(hd:Rep K H d v):∀{ds:List D}{vs:List V}(i:Nat),bM K H ds vs->bM K H (ds.set i d) (vs.set i v)
 |[],_,_,h=>by rw[dI.mp h];exact .nil
 |_::_,_,0,h=>by
  obtain⟨v,r,rfl,q,w⟩:=bZ.mp h;exact .cons hd w
 |_::_,_,i+1,h=>by
  obtain⟨v,r,rfl,q,w⟩:=bZ.mp h;exact .cons q (bM.set hd i w)
theorem bM.take:∀{ds:List D}{vs:List V}(n:Nat),bM K H ds vs->bM K H (ds.take n) (vs.take n)
 |_,_,0,_=>.nil
 |[],_,_+1,h=>by rw[dI.mp h];exact .nil
 |_::_,_,n+1,h=>by
  obtain⟨v,r,rfl,q,w⟩:=bZ.mp h;exact .cons q (bM.take n w)
theorem bM.drop:∀{ds:List D}{vs:List V}(n:Nat),bM K H ds vs->bM K H (ds.drop n) (vs.drop n)
 |_,_,0,h=>h
 |[],_,_+1,h=>by rw[dI.mp h];exact .nil
 |_::_,_,n+1,h=>by
  obtain⟨v,r,rfl,q,w⟩:=bZ.mp h;exact bM.drop n w
theorem bM.rep{ds:List D}{vs:List V}(h:bM K H ds vs):∀n:Nat,bM K H (Pu.rep n ds) (List.replicate n vs).flatten
 |0=>.nil
 |n+1=>by
  unfold Pu.rep;rw[List.replicate_succ,List.flatten_cons,List.replicate_succ,List.flatten_cons];exact h.append (bM.rep h n)
end
def hide(A:List Addr)(H:Hp):Hp:=λb=>if b∈A then none else H b
theorem jU{b:Addr}(h:b∈A):hide A H b=none:=if_pos h
theorem cL{b:Addr}(h:b∉A):hide A H b=H b:=if_neg h
theorem bN(A:List Addr)(H:Hp):bL (hide A H) H:=λb o h=>by
 unfold hide at h;split at h
 .cases h
 .exact h
theorem bL.hide{A:List Addr}{H H':Hp}(s:bL H H'):bL (hide A H) (hide A H'):=λb o h=>by
 unfold Pu.hide at h ⊢;split at h
 .cases h
 .rename_i q;rw[if_neg q];exact s b o h
theorem mC{A':List Addr} (h:∀a∈A',a∈A):bL (hide A H) (hide A' H):=λb o q=>by
 by_cases hb:b∈A
 .rw[jU hb]at q;cases q
 .rw[cL hb]at q;rw[cL λz=>hb (h b z)]
  exact q
theorem xF(H:Hp):hide [] H=H:=by
 funext b;exact cL (by simp)
theorem aB8{o:HO}(h:a∈A):hide A (upd H a o)=hide A H:=by
 funext b
 by_cases hb:b∈A
 .rw[jU hb,jU hb]
 .rw[cL hb,cL hb];exact bQ λz=>hb (z ▸ h)
theorem cH{p:Addr}{o:HO}(h:H p=none):bL H (upd H p o):=λb u q=>by
 rw[bQ (bI q h)];exact q
def Own(A:List Addr)(H:Hp):Prop:=∀a∈A,(H a).isSome=true
theorem Own.mono(h:Own A H)(s:bL H H'):Own A H':=λa ha=>by
 obtain⟨o,e⟩:=Option.isSome_iff_exists.mp (h a ha);rw[s a o e];rfl
theorem Own.free(h:Own A H){p:Addr}(e:H p=none):p∉A:=λz=>by
 have q:=h p z;rw[e]at q;cases q
theorem jM{K:Frag} {p:Addr} (w:Own A H) (e:H p=none) (h:bM K (hide A H) ds vs):Rep K (hide A (upd H p (.lst vs))) (.lst ds) (.ref p):=
 iM.mpr ⟨p,vs,rfl,SqL.of (by rw[cL (w.free e)];exact cD),h.mono (bL.hide (cH e))⟩
theorem aH4{K:Frag} {p:Addr} (w:Own A H) (e:H p=none) (h:bM K (hide A H) ds vs):Rep K (hide A (upd H p (.tup vs))) (.tup ds) (.ref p):=
 aB7.mpr ⟨p,vs,rfl,(by rw[cL (w.free e)];exact cD),h.mono (bL.hide (cH e))⟩
def KOk(K:Frag):OK->Addr->HO->List V->Prop
 |.l,_,o,vs=>o=.lst vs
 |.d t ks,_,o,vs=>(t=false/\∃kvs:List (Key×V),o=.dK kvs/\kvs.map (λp=>pB p.1)=ks/\vs=kvs.map (·.2))\/(t=true/\∃kvs:List (List Key×V),o=.dT kvs/\kvs.map (λp=>D.tup (p.1.map pB))=ks/\vs=kvs.map (·.2))
 |.i n c ns,a,o,vs=>a=n/\∃C dx fs,o=.ins C dx fs/\nsIn K mainGlobals (Str.ofString c)=some (some (.ref C))/\fs.map (·.1)=ns.map Str.ofString/\vs=fs.map (·.2)
theorem KOk.rep{K:Frag} {k:OK} {o:HO} (ko:KOk K k a o vs) (h:H a=some o) (r:bM K H ds vs):Rep K H (ofK k ds) (.ref a):=by
 cases k with
 |l=>have e:o=.lst vs:=ko;subst e;exact iM.mpr ⟨a,vs,rfl,SqL.of h,r⟩
 |d t ks=>
  refine yJ.mpr ⟨a,vs,rfl,?_,r⟩;rcases ko with ⟨q0,kvs,rfl,q⟩|⟨q0,kvs,rfl,q⟩
  .exact .inl ⟨q0,kvs,h,q⟩
  .exact .inr ⟨q0,kvs,h,q⟩
 |i n c ns=>
  obtain⟨_,C,dx,fs,rfl,q1,q2,q3⟩:=ko;exact aHv.mpr ⟨a,C,dx,fs,vs,rfl,h,q1,q2,q3,r⟩
structure RS(K:Frag)(B A:List Addr)(H:Hp)(st:PSt)(σ:LSt):Prop where
 len:st.length=σ.length
 own:Own (A++B) H
 dis:∀a∈A,a∉B
 val:∀(i:Nat) d,st[i]?=some (some (.v d))->∃v,σ[i]?=some (some v)/\Rep K (hide (A++B) H) d v
 lst:∀(i:Nat) k xs,st[i]?=some (some (.o k xs))->∃a o vs,σ[i]?=some (some (.ref a))/\a∈A/\H a=some o/\KOk K k a o vs/\bM K (hide (A++B) H) xs vs/\
  ∀(j:Nat) k' ys,st[j]?=some (some (.o k' ys))->σ[j]?=some (some (.ref a))->j=i
theorem RS.mono{K:Frag}{B A:List Addr}{H H':Hp}{st:PSt}{σ:LSt}(r:RS K B A H st σ)(s:bL H H'):RS K B A H' st σ where
 len:=r.len
 own:=r.own.mono s
 dis:=r.dis
 val:=λi d e=>let ⟨v,e1,q⟩:=r.val i d e;⟨v,e1,q.mono (bL.hide s)⟩
 lst:=λi k xs e=>let ⟨a,o,vs,e1,m,h,ko,q,u⟩:=r.lst i k xs e;⟨a,o,vs,e1,m,s _ _ h,ko,q.mono (bL.hide s),u⟩
def Le(A:List Addr)(H:Hp)(A':List Addr)(H':Hp):Prop:=bL (hide A H) (hide A' H')
theorem Le.refl{A:List Addr}{H:Hp}:Le A H A H:=bL.refl _
theorem Le.of(s:bL H H'):Le A H A H':=bL.hide s
theorem Le.trans{A A1 A2:List Addr}{H H1 H2:Hp}(a:Le A H A1 H1)(b:Le A1 H1 A2 H2):Le A H A2 H2:=bL.trans a b
def tI(K:Frag)(B:List Addr)(f:Ex):TE:=λσ H Q=>∃A st d,RS K B A H st σ/\f st=.ok d/\∀v H',bL H H'->Rep K (hide (A++B) H') d v->Q v H'
def mK(K:Frag)(A:List Addr)(H:Hp)(d:D)(v:V):Prop:=
 Rep K (hide A H) d v\/∃a k o ds vs,d=ofK k ds/\v=V.ref a/\H a=some o/\KOk K k a o vs/\bM K (hide A H) ds vs
theorem mK.mono{K:Frag}{A:List Addr}{H H':Hp}{d:D}{v:V}(s:bL H H')(h:mK K A H d v):mK K A H' d v:=by
 rcases h with h|⟨a,k,o,ds,vs,e1,e2,e3,ko,q⟩
 .exact .inl (h.mono (bL.hide s))
 .exact .inr ⟨a,k,o,ds,vs,e1,e2,s _ _ e3,ko,q.mono (bL.hide s)⟩
def tP(K:Frag)(B:List Addr)(f:Ex):TE:=λσ H Q=>∃A st d,RS K B A H st σ/\f st=.ok d/\∀v H',bL H H'->mK K (A++B) H' d v->Q v H'
def tA(K:Frag)(B:List Addr)(f:Exs):TA:=λσ H Q=>∃A st ds,RS K B A H st σ/\f st=.ok ds/\∀vs H',bL H H'->bM K (hide (A++B) H') ds vs->Q vs H'
def tT(K:Frag)(B:List Addr)(f:Ex):TT:=λσ H Q=>∃A st b,RS K B A H st σ/\f st=.ok (.bl b)/\∀H',bL H H'->Q b H'
def tO(K:Frag)(B:List Addr)(f:ExO):TO:=λσ H Q=>∃A st o,RS K B A H st σ/\f st=.ok o/\∀H',bL H H'->Q o H'
def bCm(K:Frag)(B A:List Addr)(H:Hp)(r:Fl)(Dn:Ends):Prop:=match r with
 |.nx st'=>∀A' σ' H',Le A H A' H'->RS K B A' H' st' σ'->Dn.nx σ' H'
 |.bk st'=>∀A' σ' H',Le A H A' H'->RS K B A' H' st' σ'->Dn.bk σ' H'
 |.ct st'=>∀A' σ' H',Le A H A' H'->RS K B A' H' st' σ'->Dn.ct σ' H'
 |.rt d=>∀A' v H',Le A H A' H'->Rep K (hide (A'++B) H') d v->Dn.rt v H'
theorem bCm.mono{K:Frag}{A1:List Addr} {r:Fl} {Dn:Ends} (l:Le A H A1 H1) (p:bCm K B A H r Dn):bCm K B A1 H1 r Dn:=by
 cases r with
 |nx st=>exact λA' σ' H' l'=>p A' σ' H' (l.trans l')
 |bk st=>exact λA' σ' H' l'=>p A' σ' H' (l.trans l')
 |ct st=>exact λA' σ' H' l'=>p A' σ' H' (l.trans l')
 |rt d=>exact λA' v H' l'=>p A' v H' (l.trans l')
def tS(K:Frag)(B:List Addr)(b:Bd):TS:=λDn σ H=>∃A st r,RS K B A H st σ/\b st=.ok r/\bCm K B A H r Dn
def aW8(K:Frag)(B A:List Addr)(H:Hp)(J:It)(ds:List D):Prop:=∀A' H',Le A H A' H'->Own (A'++B) H'->∀(i:Nat),
 (∀d,ds[i]?=some d->J.go i H'/\∀x H3,J.yld i H' x H3->bL H' H3/\Rep K (hide (A'++B) H3) d x)/\(ds.length<=i->J.stop i H')
def tIt(K:Frag)(B:List Addr)(f:ItE):TI:=λσ H R=>∃A st ds,RS K B A H st σ/\f st=.ok ds/\∀J H',bL H H'->aW8 K B A H' J ds->R J H'
def tG(K:Frag)(B:List Addr)(g:Tg):TG:=λv σ H Q=>∃A st d s1,RS K B A H st σ/\Rep K (hide (A++B) H) d v/\g d st=.ok s1/\∀σ',RS K B A H s1 σ'->Q σ' H
section
theorem cX{t t':TE}(h:PE X e t)(m:∀σ H Q,t' σ H Q->t σ H Q):PE X e t':=λpins s σ H Q I q=>h pins s σ H Q I (m σ H Q q)
theorem aRs{t t':TT}(h:PT X e t)(m:∀σ H Q,t' σ H Q->t σ H Q):PT X e t':=λpins s σ H Q I q=>h pins s σ H Q I (m σ H Q q)
theorem aZa{t t':TT}(h:PW X e t)(m:∀σ H Q,t' σ H Q->t σ H Q):PW X e t':=λw pins s σ H Q I q=>h w pins s σ H Q I (m σ H Q q)
theorem aZb{t t':TA}(h:PA X es t)(m:∀σ H Q,t' σ H Q->t σ H Q):PA X es t':=λpos pins s σ H Q I q=>h pos pins s σ H Q I (m σ H Q q)
theorem aZc{e:Option Expr}{t t':TO}(h:PO X e t)(m:∀σ H Q,t' σ H Q->t σ H Q):PO X e t':=λpins s σ H Q I q=>h pins s σ H Q I (m σ H Q q)
theorem lL{st:Stmt}{t t':TS}(h:PS X st t)(m:∀D σ H,t' D σ H->t D σ H):PS X st t':=λpins s σ H D I q=>h pins s σ H D I (m D σ H q)
theorem aCa{st:List Stmt}{t t':TS}(h:PSs X st t)(m:∀D σ H,t' D σ H->t D σ H):PSs X st t':=λpins s σ H D I q=>h pins s σ H D I (m D σ H q)
theorem aZd{t t':TG}(h:PG X e t)(m:∀v σ H Q,t' v σ H Q->t v σ H Q):PG X e t':=λpins s σ H v u Q I r q=>h pins s σ H v u Q I r (m v σ H Q q)
theorem aRt{t t':TI}(h:L2.PI X tg e t)(m:∀σ H R,t' σ H R->t σ H R):L2.PI X tg e t':=λpins s σ H R I q=>h pins s σ H R I (m σ H R q)
end
section
variable {a b:Expr} {h:Ex}
theorem aA(i:Nat) (hN:X.N[i]?=some x:=by rfl) (hv:Vis X.env.scope x:=by first|exact Or.inl rfl|exact Or.inr (Or.inl rfl)|exact Or.inr (Or.inr rfl)) (hd:(x==("__debug__":Str))=false:=by decide)
  (hcd:(x==("__classdict__":Str))=false:=by decide):PE X (.Name x pos) (tI X.K B (aB i)):=by
 refine cX (vR hN hv hd hcd) ?_
 rintro σ H Q ⟨A,st,d,rs,hd,q⟩;unfold aB at hd;split at hd
 .rename_i d' e;cases hd;obtain⟨v,e1,r⟩:=rs.val i _ e;exact⟨v,e1,q v H (bL.refl _) r⟩
 .cases hd
end
end Pu
variable{σ τ:Pu.LSt}
namespace Pu
open PySem PySem.Spec PyProof.Rows L2
section
variable{X:Cx}{B:List Addr}{a b e:Expr}{f g:Ex}{pos:Pos}
theorem i_c(h:PE X e (tC v))(r:∀H,Rep X.K H d v):PE X e (tI X.K B (eC d)):=cX h (by
 rintro σ H Q ⟨A,st,d',rs,hd,q⟩;cases hd;exact q v H (bL.refl _) (r _))
theorem aR{i:Int}:PE X (.Constant (.int i) j pos) (tI X.K B (eC (.int i))):=i_c bEm λ_=>bT.mpr rfl
theorem uR{q:Bool}:PE X (.Constant (.bool q) j pos) (tI X.K B (eC (.bl q))):=i_c bHq λ_=>dC.mpr rfl
theorem aLs:PE X (.Constant .none j pos) (tI X.K B (eC .non)):=i_c bEn λ_=>tQ.mpr rfl
theorem aJh(s:List Nat)(hx:x=⟨s.toArray⟩:=by first|rfl|decide|decide+kernel):PE X (.Constant (.str x) j pos) (tI X.K B (eC (.str s))):=i_c bEo λ_=>eU.mpr (by rw[hx])
theorem aN8{y:Str}{t:Tok}(s:List Nat)(hm:X.mg x=some (.str y t))(hg:Gl X x:=by rfl)(hy:y=⟨s.toArray⟩:=by first|rfl|decide|decide+kernel)(hd:(x==("__debug__":Str))=false:=by decide):PE X (.Name x pos) (tI X.K B (eC (.str s))):=
 i_c (aSk (v:=.str y) hg hm ⟨t,rfl⟩ hd) λ_=>eU.mpr (by rw[hy])
theorem aZe{i:Int}{t:Tok}(hm:X.mg x=some (.int i t))(hg:Gl X x:=by rfl)(hd:(x==("__debug__":Str))=false:=by decide):PE X (.Name x pos) (tI X.K B (eC (.int i))):=
 i_c (aSk (v:=.int i) hg hm ⟨t,rfl⟩ hd) λ_=>bT.mpr rfl
theorem toP(h:PE X e (tI X.K B f)):PE X e (tP X.K B f):=cX h (by
 rintro σ H Q ⟨A,st,d,rs,hd,q⟩;exact⟨A,st,d,rs,hd,λv H' s r=>q v H' s (.inl r)⟩)
theorem mL(i:Nat) (hN:X.N[i]?=some x:=by rfl) (hv:Vis X.env.scope x:=by first|exact Or.inl rfl|exact Or.inr (Or.inl rfl)|exact Or.inr (Or.inr rfl)) (hd:(x==("__debug__":Str))=false:=by decide)
  (hcd:(x==("__classdict__":Str))=false:=by decide):PE X (.Name x pos) (tP X.K B (kZ i)):=by
 refine cX (vR hN hv hd hcd) ?_
 rintro σ H Q ⟨A,st,d,rs,hd,q⟩;unfold kZ at hd;split at hd
 .rename_i d' e;cases hd;obtain⟨v,e1,r⟩:=rs.val i _ e;exact⟨v,e1,q v H (bL.refl _) (.inl r)⟩
 .rename_i k xs e;cases hd;obtain⟨a,o,vs,e1,m,h,ko,r,_⟩:=rs.lst i _ _ e;exact⟨_,e1,q _ H (bL.refl _) (.inr ⟨a,_,o,xs,vs,rfl,rfl,h,ko,r⟩)⟩
 .cases hd
section
variable{K:Frag}
theorem mK.non(h:mK K A H .non v):v=V.non:=by
 rcases h with h|⟨_,k,_,_,_,e,_⟩
 .exact tQ.mp h
 .cases k<;>cases e
theorem mK.bl{q:Bool}(h:mK K A H (.bl q) v):v=V.bl q:=by
 rcases h with h|⟨_,k,_,_,_,e,_⟩
 .exact dC.mp h
 .cases k<;>cases e
theorem mK.int{i:Int}(h:mK K A H (.int i) v):v=V.int i:=by
 rcases h with h|⟨_,k,_,_,_,e,_⟩
 .exact bT.mp h
 .cases k<;>cases e
theorem mK.str{s:List Nat}(h:mK K A H (.str s) v):v=V.str ⟨s.toArray⟩:=by
 rcases h with h|⟨_,k,_,_,_,e,_⟩
 .exact eU.mp h
 .cases k<;>cases e
theorem mK.tup{ds:List D}(h:mK K A H (.tup ds) v):∃a vs,v=V.ref a/\SqT K H a vs/\bM K (hide A H) ds vs:=by
 rcases h with h|⟨_,k,_,_,_,e,_⟩
 .obtain⟨a,vs,e,q,r⟩:=iW h;exact⟨a,vs,e,aB6 (bN _ _) q,r⟩
 .cases k<;>cases e
theorem mK.lst{ds:List D}(h:mK K A H (.lst ds) v):∃a vs,v=V.ref a/\SqL K H a vs/\bM K (hide A H) ds vs:=by
 rcases h with h|⟨a,k,o,ds',vs,e,e2,h,ko,r⟩
 .obtain⟨a,vs,e,q,r⟩:=iM.mp h;exact⟨a,vs,e,(bN _ _).seq q,r⟩
 .cases k<;>cases e;have e3:o=.lst vs:=ko;subst e3;exact⟨a,vs,e2,SqL.of h,r⟩
end
def aCk(K:Frag)(r:R2)(o:Op2):Prop:=∀(A:List Addr)(H:Hp)(x y d:D)(v u:V)(Q:VK),Own A H->mK K A H x v->mK K A H y u->o x y=.ok d->
 (∀w H',bL H H'->Rep K (hide A H') d w->Q w H')->r v u H Q
theorem aN9{r:R2}{o:Op2}(sem:aCk X.K r o) {Q:VK} (h:tI X.K B (e2 o f g) σ H Q):tOp r (tP X.K B f) (tP X.K B g) σ H Q:=by
 obtain⟨A,st,d,rs,hd,q⟩:=h;obtain⟨x,hx,h2⟩:=R.ok_of hd;obtain⟨y,hy,h3⟩:=R.ok_of h2;refine⟨A,st,x,rs,hx,λv H1 s1 r1=>⟨A,st,y,rs.mono s1,hy,λu H2 s2 r2=>?_⟩⟩
 exact sem (A++B) H2 x y d v u Q (rs.own.mono (s1.trans s2)) (r1.mono s2) r2 h3 λw H' s' r'=>q w H' (s1.trans (s2.trans s')) r'
theorem aKk{op:Operator}{r:R2}{o:Op2}(ho:OpR X (binaryOp op) r)(sem:aCk X.K r o)(ha:PE X a (tP X.K B f))(hb:PE X b (tP X.K B g)):PE X (.BinOp a op b pos) (tI X.K B (e2 o f g)):=
 cX (bDv ho ha hb) λ_ _ _ h=>aN9 sem h
theorem gJ{r:R2}{o:Op2}(ho:OpR X (compareOp op) r)(sem:aCk X.K r o)(ha:PE X a (tP X.K B f))(hb:PE X b (tP X.K B g))(hm:behindInMarks op b=false):PE X (.Compare a [op] [b] pos) (tI X.K B (e2 o f g)):=
 cX (bAx ho ha hb hm) λ_ _ _ h=>aN9 sem h
theorem bJ8{f:Ex} {Q:Bool->Hp->Prop} (h:tT X.K B f σ H Q):tI X.K B f σ H λx H'=>∃k,x=.bl k/\Q k H':=by
 obtain⟨A,st,k,rs,hk,q⟩:=h;exact⟨A,st,.bl k,rs,hk,λv H' s r=>⟨k,dC.mp r,q H' s⟩⟩
theorem cA{r:R2}{o:Op2}(ho:OpR X (compareOp op) r)(sem:aCk X.K r o)(ha:PE X a (tP X.K B f))(hb:PE X b (tP X.K B g))(hm:behindInMarks op b=false):PT X (.Compare a [op] [b] pos) (tT X.K B (e2 o f g)):=
 aRs (bAy ho ha hb hm) λ_ _ _ h=>aN9 sem (bJ8 h)
theorem gK{f:Ex}(h:PE X e (tI X.K B f))(he:∀whole,isTrue e X.env whole=(do let v <- whole;standAt e.pos;holding [v] (truthy v)):=by intro _;rfl):PT X e (tT X.K B f):=
 aRs (bEp h he) λ_ _ _ q=>bJ8 q
theorem yK{K:Frag}{g:Int->Int->D} {o:Op2} (hr:∀H i j,Rep K H (g i j) (gv i j)) (ho:∀x y d,o x y=.ok d->∃i j,x=.int i/\y=.int j/\d=g i j):aCk K (rI0 gv) o:=by
 intro A H x y d v u Q w rx ry e q;obtain⟨i,j,rfl,rfl,rfl⟩:=ho x y d e;exact⟨i,j,rx.int,ry.int,q _ H (bL.refl _) (hr _ _ _)⟩
theorem aJi{K:Frag}{C:Int->Int->Prop}{g:Int->Int->D} {o:Op2} (hr:∀H i j,Rep K H (g i j) (gv i j)) (ho:∀x y d,o x y=.ok d->∃i j,x=.int i/\y=.int j/\C i j/\d=g i j):aCk K (rI C gv) o:=by
 intro A H x y d v u Q w rx ry e q;obtain⟨i,j,rfl,rfl,c,rfl⟩:=ho x y d e;exact⟨i,j,rx.int,ry.int,c,q _ H (bL.refl _) (hr _ _ _)⟩
theorem bEf(ha:PE X a (tP X.K B f))(hb:PE X b (tP X.K B g)):PE X (.BinOp a .Sub b pos) (tI X.K B (e2 bBe f g)):=
 aKk bF2 (yK (g:=λi j=>.int (i-j)) (λ_ _ _=>bT.mpr rfl) λx y d e=>by
  unfold bBe at e;split at e
  .cases e;exact⟨_,_,rfl,rfl,rfl⟩
  .cases e) ha hb
theorem aJj(ha:PE X a (tP X.K B f))(hb:PE X b (tP X.K B g)):PE X (.BinOp a .FloorDiv b pos) (tI X.K B (e2 aAe f g)):=
 aKk bAv (aJi (g:=λi j=>.int (i/j)) (λ_ _ _=>bT.mpr rfl) λx y d e=>by
  unfold aAe at e;split at e
  .obtain⟨c,e⟩:=aW e;cases e;exact⟨_,_,rfl,rfl,c,rfl⟩
  .cases e) ha hb
theorem rN(ha:PE X a (tP X.K B f))(hb:PE X b (tP X.K B g)):PE X (.BinOp a .Mod b pos) (tI X.K B (e2 pO f g)):=
 aKk bF4 (aJi (g:=λi j=>.int (i%j)) (λ_ _ _=>bT.mpr rfl) λx y d e=>by
  unfold pO at e;split at e
  .obtain⟨c,e⟩:=aW e;cases e;exact⟨_,_,rfl,rfl,c,rfl⟩
  .cases e) ha hb
theorem bEg(ha:PE X a (tP X.K B f))(hb:PE X b (tP X.K B g)):PE X (.BinOp a .Pow b pos) (tI X.K B (e2 aVh f g)):=
 aKk bF5 (aJi (g:=λi j=>.int (i^j.toNat)) (λ_ _ _=>bT.mpr rfl) λx y d e=>by
  unfold aVh at e;split at e
  .obtain⟨c,e⟩:=aW e;cases e;exact⟨_,_,rfl,rfl,c,rfl⟩
  .cases e) ha hb
def bJ9(K:Frag):R2:=λx y H Q=>∃l b xs zs,x=.ref l/\y=.ref b/\SqL K H l xs/\SqL K H b zs/\xs.length+zs.length<=sizeLine/\∀p,H p=none->Q (.ref p) (upd H p (.lst (xs++zs)))
theorem bCn:OpR X (binaryOp .Add) (bJ9 X.K):=by
 intro pins s σ H x y v u Q I rx ry h;obtain⟨l,b,xs,zs,rfl,rfl,hH,hB,hz,q⟩:=h;cases rx;cases ry;obtain⟨its,r,⟨⟨cls,dd,data,sl⟩,n,ho,hc,_,hd⟩,z⟩:=I.list hH;obtain⟨its2,r2,⟨⟨cls2,dd2,data2,sl2⟩,n2,ho2,hc2,_,hd2⟩,z2⟩:=I.list hB;simp only at hc hd hc2 hd2;subst hc hd hc2 hd2;have l1:=r.length;have l2:=r2.length;refine concat_meets ⟨_,ho,rfl⟩ ⟨_,ho2,rfl⟩ noFill_list_add seq_list_add PySem.F.slot_list_add PySem.F.entry_list_add (PySem.F.args_list_add_2 _ _) (list_addW l b its.toArray its2.toArray n n2 dd dd2 sl sl2 (by simp only[List.size_toArray];omega)) ⟨ho,ho2,?_⟩
 have ea:its.toArray++its2.toArray=(its++its2).toArray:=by simp
 rw[ea];exact⟨.ref _,_,I.lnew (t':=s.toks) (r.append r2) (by rw[length_append];omega),rfl,q _ I.fresh⟩
theorem bCo(x y:List Nat):(⟨x.toArray⟩:Str)++(⟨y.toArray⟩:Str)=⟨(x++y).toArray⟩:=by
 show Str.append _ _=_;unfold Str.append;simp
theorem str_len(x:List Nat):(⟨x.toArray⟩:Str).length=x.length:=by simp[Str.length]
theorem lim(h:n<=big):n<=sizeLine:=Nat.le_trans (by rw[rR]at h;exact h:n<=10000000) (by decide)
theorem mY(ha:PE X a (tP X.K B f))(hb:PE X b (tP X.K B g)):PE X (.BinOp a .Add b pos) (tI X.K B (e2 oG f g)):=by
 refine aKk (bF1.or (aQt.or bCn)) ?_ ha hb;intro A H x y d v u Q w rx ry e q;cases x<;>cases y<;>first|(cases e;done)|skip
 .cases e;exact .inl ⟨_,_,rx.int,ry.int,q _ H (bL.refl _) (bT.mpr rfl)⟩
 .obtain⟨c,e⟩:=aW e;cases e;exact .inr (.inl ⟨_,_,rx.str,ry.str,by rw[str_len,str_len];exact lim c,q _ H (bL.refl _) (eU.mpr (by rw[bCo]))⟩)
 .obtain⟨c,e⟩:=aW e;cases e;obtain⟨l,xs,e1,h1,r1⟩:=rx.lst;obtain⟨m,ys,e2,h2,r2⟩:=ry.lst;have l1:=r1.length;have l2:=r2.length;refine .inr (.inr ⟨l,m,xs,ys,e1,e2,h1,h2,by rw[l1,l2];exact lim c,λp hp=>q _ _ (cH hp) ?_⟩)
  exact jM w hp (r1.append r2)
theorem aZf{K:Frag}:aCk K (rI0 λi j=>.bl (decide (i<=j))) dLe:=yK (g:=λi j=>.bl (decide (i<=j))) (λ_ _ _=>dC.mpr rfl) λx y d e=>by
 unfold dLe at e;split at e
 .cases e;exact⟨_,_,rfl,rfl,rfl⟩
 .cases e
theorem aJk{K:Frag}:aCk K (rI0 λi j=>.bl (decide (j<i))) dGt:=yK (g:=λi j=>.bl (decide (j<i))) (λ_ _ _=>dC.mpr rfl) λx y d e=>by
 unfold dGt at e;split at e
 .cases e;exact⟨_,_,rfl,rfl,rfl⟩
 .cases e
theorem aRu{K:Frag}:aCk K (rI0 λi j=>.bl (decide (j<=i))) dGe:=yK (g:=λi j=>.bl (decide (j<=i))) (λ_ _ _=>dC.mpr rfl) λx y d e=>by
 unfold dGe at e;split at e
 .cases e;exact⟨_,_,rfl,rfl,rfl⟩
 .cases e
theorem mK.ref{K:Frag}{A:List Addr}{H:Hp}{d:D}{v:V}(h:mK K A H d v)(h1:d≠.non)(h2:∀b,d≠.bl b)(h3:∀i,d≠.int i)(h4:∀s,d≠.str s):∃a,v=V.ref a:=by
 rcases h with h|⟨a,_,_,_,_,_,e,_⟩
 .cases d with
  |non=>exact(h1 rfl).elim
  |bl b=>exact(h2 b rfl).elim
  |int i=>exact(h3 i rfl).elim
  |str s=>exact(h4 s rfl).elim
  |tup _=>obtain⟨a,_,e,_⟩:=iW h;exact⟨a,e⟩
  |lst _=>obtain⟨a,_,e,_⟩:=iM.mp h;exact⟨a,e⟩
  |dct _ _ _=>obtain⟨a,_,e,_⟩:=yJ.mp h;exact⟨a,e⟩
  |ins _ _ _=>obtain⟨a,_,_,_,_,e,_⟩:=aHv.mp h;exact⟨a,e⟩
  |exn _ _ _=>obtain⟨a,_,_,e,_⟩:=bCl.mp h;exact⟨a,e⟩
  |fn _=>obtain⟨a,e,_⟩:=bGh.mp h;exact⟨a,e⟩
 .exact⟨a,e⟩
theorem bCp{K:Frag} (h:mK K A H d v):decide (v=V.non)=isN d:=by
 cases d with
 |non=>rw[h.non];rfl
 |bl _=>rw[h.bl];rfl
 |int _=>rw[h.int];rfl
 |str _=>rw[h.str];rfl
 |tup _=>obtain⟨a,vs,e,_⟩:=h.tup;rw[e];rfl
 |lst _=>obtain⟨a,vs,e,_⟩:=h.lst;rw[e];rfl
 |dct _ _ _=>obtain⟨a,e⟩:=h.ref (by intro z;cases z) (by intro _ z;cases z) (by intro _ z;cases z) (by intro _ z;cases z);rw[e];rfl
 |ins _ _ _=>obtain⟨a,e⟩:=h.ref (by intro z;cases z) (by intro _ z;cases z) (by intro _ z;cases z) (by intro _ z;cases z);rw[e];rfl
 |exn _ _ _=>obtain⟨a,e⟩:=h.ref (by intro z;cases z) (by intro _ z;cases z) (by intro _ z;cases z) (by intro _ z;cases z);rw[e];rfl
 |fn _=>obtain⟨a,e⟩:=h.ref (by intro z;cases z) (by intro _ z;cases z) (by intro _ z;cases z) (by intro _ z;cases z);rw[e];rfl
theorem aPf(n:Nat)(i:Int):L2.ixN n i=Pu.ixN n i:=rfl
theorem bM.atI{K:Frag}{H:Hp}{ds:List D}{vs:List V}{i:Int}{d:D}(r:bM K H ds vs)(e:Pu.atI ds i=some d):∃v,L2.atI vs i=some v/\Rep K H d v:=by
 unfold Pu.atI at e;unfold L2.atI;rw[r.length,aPf];cases h:Pu.ixN ds.length i with
 |none=>rw[h]at e;cases e
 |some j=>
  rw[h]at e;exact r.get e
theorem yL{o:Option α}{a:α}(h:ofO o=.ok a):o=some a:=by
 cases o with
 |none=>cases h
 |some b=>cases h;rfl
theorem bGi{K:Frag}{x:D}(hd:bIk x=false)(A:List Addr)(H:Hp)(x' y d:D)(v u:V)(Q:VK)(w:Own A H)(rx:mK K A H x v)(ry:mK K A H y u)(e:dIx x y=.ok d)(q:∀w H',bL H H'->Rep K (hide A H') d w->Q w H'):rIx K v u H Q:=by
 cases x<;>first|(cases hd;done)|skip
 all_goals cases y
 all_goals first|(cases e;done)|skip
 .rename_i s i;obtain⟨hz,e⟩:=aW e;have e:=yL e;cases h:Pu.atI s i with
  |none=>rw[h]at e;cases e
  |some c=>
   rw[h]at e;cases e;refine .inr (.inr ⟨_,i,c,rx.str,ry.int,by rw[str_len];exact lim hz,?_,q _ H (bL.refl _) (eU.mpr rfl)⟩)
   show L2.atI s.toArray.toList i=some c;rw[List.toList_toArray];exact h
 .rename_i ds i;have h:=yL (show ofO (Pu.atI ds i)=.ok d from e)
  obtain⟨l,xs,e1,h1,r1⟩:=rx.tup;obtain⟨z,h2,r2⟩:=r1.atI h;exact .inr (.inl ⟨l,xs,i,z,e1,ry.int,h1,h2,q _ H (bL.refl _) r2⟩)
 .rename_i ds i;have h:=yL (show ofO (Pu.atI ds i)=.ok d from e)
  obtain⟨l,xs,e1,h1,r1⟩:=rx.lst;obtain⟨z,h2,r2⟩:=r1.atI h;exact .inl ⟨l,xs,i,z,e1,ry.int,h1,h2,q _ H (bL.refl _) r2⟩
theorem mO(h:PE X a (tI X.K B f)):PE X (.BoolOp .And [a] pos) (tI X.K B f):=aX4 h
theorem bJa(h:PE X a (tI X.K B f)):PE X (.BoolOp .Or [a] pos) (tI X.K B f):=aX4 h
theorem pL{rest:List Expr}(ha:PE X a (tI X.K B f))(hb:PE X (.BoolOp .And (b::rest) pos) (tI X.K B g)):PE X (.BoolOp .And (a::b::rest) pos) (tI X.K B (oH f g)):=by
 refine cX (bEt ha hb) ?_
 rintro σ H Q ⟨A,st,d,rs,hd,q⟩;obtain⟨x,hx,h2⟩:=R.ok_of hd;obtain⟨k,rfl,h3⟩:=vV h2;refine⟨A,st,_,rs,hx,λv H1 s1 r1=>⟨k,dC.mp r1,?_⟩⟩
 cases k with
 |true=>exact⟨A,st,d,rs.mono s1,h3,λw H' s' r'=>q w H' (s1.trans s') r'⟩
 |false=>cases h3;exact q _ H1 s1 (dC.mpr rfl)
theorem bKt{rest:List Expr}(ha:PE X a (tI X.K B f))(hb:PE X (.BoolOp .Or (b::rest) pos) (tI X.K B g)):PE X (.BoolOp .Or (a::b::rest) pos) (tI X.K B (eOr f g)):=by
 refine cX (bHu ha hb) ?_
 rintro σ H Q ⟨A,st,d,rs,hd,q⟩;obtain⟨x,hx,h2⟩:=R.ok_of hd;obtain⟨k,rfl,h3⟩:=vV h2;refine⟨A,st,_,rs,hx,λv H1 s1 r1=>⟨k,dC.mp r1,?_⟩⟩
 cases k with
 |true=>cases h3;exact q _ H1 s1 (dC.mpr rfl)
 |false=>exact⟨A,st,d,rs.mono s1,h3,λw H' s' r'=>q w H' (s1.trans s') r'⟩
theorem aJl(ha:PE X a (tI X.K B f)):PE X (.UnaryOp .Not a pos) (tI X.K B (mR f)):=by
 refine cX (bEu ha) ?_
 rintro σ H Q ⟨A,st,d,rs,hd,q⟩;obtain⟨x,hx,h2⟩:=R.ok_of hd;obtain⟨k,rfl,h3⟩:=vV h2;cases h3;exact⟨A,st,_,rs,hx,λv H1 s1 r1=>⟨k,dC.mp r1,q _ H1 s1 (dC.mpr rfl)⟩⟩
theorem aJm(h:PT X a (tT X.K B f)):PW X (.BoolOp .And [a] pos) (tT X.K B f):=bAp h
theorem aLt(h:PT X a (tT X.K B f)):PW X (.BoolOp .Or [a] pos) (tT X.K B f):=bEq h
theorem aPg{rest:List Expr}(ha:PT X a (tT X.K B f))(hb:PW X (.BoolOp .And (b::rest) pos) (tT X.K B g)):PW X (.BoolOp .And (a::b::rest) pos) (tT X.K B (oH f g)):=by
 refine aZa (bEr ha hb) ?_
 rintro σ H Q ⟨A,st,d,rs,hd,q⟩;obtain⟨x,hx,h2⟩:=R.ok_of hd;obtain⟨k,rfl,h3⟩:=vV h2;refine⟨A,st,k,rs,hx,λH1 s1=>?_⟩
 cases k with
 |true=>exact⟨A,st,d,rs.mono s1,h3,λH' s'=>q H' (s1.trans s')⟩
 |false=>cases h3;exact q H1 s1
theorem aRv{rest:List Expr}(ha:PT X a (tT X.K B f))(hb:PW X (.BoolOp .Or (b::rest) pos) (tT X.K B g)):PW X (.BoolOp .Or (a::b::rest) pos) (tT X.K B (eOr f g)):=by
 refine aZa (bHr ha hb) ?_
 rintro σ H Q ⟨A,st,d,rs,hd,q⟩;obtain⟨x,hx,h2⟩:=R.ok_of hd;obtain⟨k,rfl,h3⟩:=vV h2;refine⟨A,st,k,rs,hx,λH1 s1=>?_⟩
 cases k with
 |true=>cases h3;exact q H1 s1
 |false=>exact⟨A,st,d,rs.mono s1,h3,λH' s'=>q H' (s1.trans s')⟩
theorem sV(ha:PT X a (tT X.K B f)):PT X (.UnaryOp .Not a pos) (tT X.K B (mR f)):=by
 refine aRs (bEs ha) ?_
 rintro σ H Q ⟨A,st,d,rs,hd,q⟩;obtain⟨x,hx,h2⟩:=R.ok_of hd;obtain⟨k,rfl,h3⟩:=vV h2;cases h3;exact⟨A,st,k,rs,hx,λH1 s1=>q H1 s1⟩
theorem bJb{c:Expr}{t:Ex}(hc:PT X c (tT X.K B t))(ha:PE X a (tI X.K B f))(hb:PE X b (tI X.K B g)):PE X (.IfExp c a b pos) (tI X.K B (eIf t f g)):=by
 refine cX (aX5 hc ha hb) ?_
 rintro σ H Q ⟨A,st,d,rs,hd,q⟩;obtain⟨x,hx,h2⟩:=R.ok_of hd;obtain⟨k,rfl,h3⟩:=vV h2;refine⟨A,st,k,rs,hx,λH1 s1=>?_⟩
 cases k with
 |true=>exact⟨A,st,d,rs.mono s1,h3,λw H' s' r'=>q w H' (s1.trans s') r'⟩
 |false=>exact⟨A,st,d,rs.mono s1,h3,λw H' s' r'=>q w H' (s1.trans s') r'⟩
theorem aN:PA X [] (tA X.K B aU):=aZb jO (by
 rintro σ H Q ⟨A,st,d,rs,hd,q⟩;cases hd;exact q [] H (bL.refl _) .nil)
theorem aC(ha:PE X e (tI X.K B f))(hr:PA X es (tA X.K B r))(hs:starEach (e::es) X.env=(false,eval e X.env)::starEach es X.env:=by rfl):PA X (e::es) (tA X.K B (aD f r)):=by
 refine aZb (dJ ha hr hs) ?_
 rintro σ H Q ⟨A,st,ds,rs,hd,q⟩;obtain⟨x,hx,h2⟩:=R.ok_of hd;obtain⟨xs,hxs,h3⟩:=R.ok_of h2;cases h3;refine⟨A,st,x,rs,hx,λv H1 s1 r1=>⟨A,st,xs,rs.mono s1,hxs,λvs H2 s2 r2=>?_⟩⟩
 exact q _ H2 (s1.trans s2) (.cons (r1.mono (bL.hide s2)) r2)
theorem aU6(h:PA X es (tA X.K B r)):PE X (.Tuple es x1 pos) (tI X.K B (aVj r)):=by
 refine cX (bFc h) ?_
 rintro σ H Q ⟨A,st,d,rs,hd,q⟩;obtain⟨xs,hx,h2⟩:=R.ok_of hd;obtain⟨c,h3⟩:=aW h2;cases h3;refine⟨A,st,xs,rs,hx,λvs H1 s1 r1=>⟨by rw[r1.length];exact lim c,λp hp=>q _ _ (s1.trans (cH hp)) ?_⟩⟩
 exact aH4 (rs.own.mono s1) hp r1
theorem vH(h:PA X es (tA X.K B r)):PE X (.List es pos) (tI X.K B (jX r)):=by
 refine cX (aQz h) ?_
 rintro σ H Q ⟨A,st,d,rs,hd,q⟩;obtain⟨xs,hx,h2⟩:=R.ok_of hd;obtain⟨c,h3⟩:=aW h2;cases h3;refine⟨A,st,xs,rs,hx,λvs H1 s1 r1=>⟨by rw[r1.length];exact lim c,λp hp=>q _ _ (s1.trans (cH hp)) ?_⟩⟩
 exact jM (rs.own.mono s1) hp r1
def spI(K:Frag)(np:Nat)(p:List D->R D):Sp:=λvs H Q _=>∃A ds d,Own A H/\bM K (hide A H) ds vs/\ds.length=np/\p ds=.ok d/\∀v H',bL H H'->Rep K (hide A H') d v->Q v H'
theorem bGj{k:Nat} (F:FnOk X.prog X.w X.K X.mg X.base CX0 k fa fd ps (spI X.K np p)) (hr:Room k X.A) (hm:X.mg x=some (.ref fa))
  (hk:keepIn X.K (.ref fa)=true) (hb:Binds X.K fd ps []) (hl:∀ds d,p ds=.ok d->ds.length=np) (ha:PA X (e::es) (tA X.K B r)) (hg:Gl X x:=by rfl) (hdb:(x==("__debug__":Str))=false:=by decide)
  (he:starEach (e::es) X.env=(false,eval e X.env)::starEach es X.env:=by rfl) (hpl:(backTo pos (starEach es X.env)).any (·.1)=false:=by rfl) :
  PE X (.Call (.Name x p0) (e::es) [] pos) (tI X.K B (aV p r)):=by
 refine cX (aMc F hr hg hm hk hb .nil aOa ha hdb he hpl) ?_
 rintro σ H Q ⟨A,st,d,rs,hd,q⟩;obtain⟨xs,hx,h2⟩:=R.ok_of hd;refine⟨A,st,xs,rs,hx,λvs H1 s1 r1=>?_⟩
 show spI X.K np p (vs++[]) H1 Q E0;rw[append_nil];exact⟨A++B,xs,d,rs.own.mono s1,r1,hl _ _ h2,h2,λw H' s' r'=>q w H' (s1.trans s') r'⟩
end
theorem aNa(a b:Key):eqK (pB a) (pB b)=decide (a=b):=by
 cases a with
 |inl i=>
  cases b with
  |inl j=>unfold pB eqK;rw[aWz]
  |inr y=>unfold pB eqK;rw[aX1]
 |inr x=>
  cases b with
  |inl j=>unfold pB eqK;rw[aX2]
  |inr y=>
   unfold pB eqK;rw[aX0,Bool.eq_iff_iff,beq_iff_eq,decide_eq_true_eq];constructor
   .intro h;cases x;cases y;congr 1;exact ext' h
   .rintro rfl;rfl
theorem aPh:∀(a b:List Key),aR4 (a.map pB) (b.map pB)=decide (a=b)
 |[],[]=>by unfold aR4;simp
 |[],_::_=>by unfold aR4;simp
 |_::_,[]=>by unfold aR4;simp
 |x::a,y::b=>by
  have ih:=aPh a b;rw[map_cons,map_cons];unfold aR4;rw[aNa,ih,Bool.eq_iff_iff,and_eq_true,decide_eq_true_eq,decide_eq_true_eq,decide_eq_true_eq,List.cons.injEq]
theorem aPi(a b:List Key):eqK (.tup (a.map pB)) (.tup (b.map pB))=decide (a=b):=by
 rw[<-aPh]
 conv=>lhs;unfold eqK
section
variable{κ:Type}[DecidableEq κ]{E:κ->D}(hE:∀a b,eqK (E a) (E b)=decide (a=b)){K:Frag}{H:Hp}
include hE
theorem aNb(k:κ):∀(kvs:List (κ×V)) (ds:List D),bM K H ds (kvs.map (·.2))->(∀d,aAf (kvs.map λp=>E p.1) ds (E k)=some d->∃v,aDz kvs k=some v/\Rep K H d v)/\(aDz kvs k).isSome=xV (kvs.map λp=>E p.1) (E k)
 |[],ds,r=>⟨λd h=>by cases ds<;>simp[aAf]at h,rfl⟩
 |(a,v)::kvs,ds,r=>by
  cases ds with
  |nil=>have:=dI.mp r;simp at this
  |cons d ds=>
   obtain⟨v',r',e,h1,h2⟩:=bZ.mp r;rw[map_cons]at e;injection e with e1 e2
   subst e1 e2;obtain⟨i1,i2⟩:=aNb k kvs ds h2
   by_cases ha:a=k
   .have hk:eqK (E a) (E k)=true:=by rw[hE,decide_eq_true_eq];exact ha
    refine⟨λd' h=>?_,?_⟩
    .unfold aAf at h;rw[map_cons,zip_cons_cons,List.find?_cons_of_pos (by simpa using hk)]at h
     cases h;exact⟨v,aAb ha,h1⟩
    .rw[aAb ha];unfold xV;rw[map_cons,any_cons,hk];rfl
   .have hk:eqK (E a) (E k)=false:=by rw[hE,decide_eq_false_iff_not];exact ha
    refine⟨λd' h=>?_,?_⟩
    .rw[aAc ha];refine i1 d' ?_
     unfold aAf at h ⊢;rw[map_cons,zip_cons_cons,List.find?_cons_of_neg (by simpa using hk)]at h
     exact h
    .rw[aAc ha,i2];unfold xV;rw[map_cons,any_cons,hk];rfl
theorem aZg(k:κ)(kvs:List (κ×V)):(kvs.any λkv=>decide (kv.1=k))=xV (kvs.map λp=>E p.1) (E k):=by
 unfold xV;rw[List.any_map];congr 1;funext p;simp[hE]
theorem aU7(k:κ)(v:V)(d:D)(hd:Rep K H d v)(kvs:List (κ×V))(ds:List D)(r:bM K H ds (kvs.map (·.2))) :
  (putK kvs k v).map (λp=>E p.1)=zK (kvs.map λp=>E p.1) (E k)/\bM K H (aCn (kvs.map λp=>E p.1) ds (E k) d) ((putK kvs k v).map (·.2)):=by
 unfold putK zK aCn;rw[aZg hE]
 by_cases hh:xV (kvs.map λp=>E p.1) (E k)=true
 .rw[if_pos hh,if_pos hh,if_pos hh];constructor
  .rw[List.map_map];refine List.map_congr_left λp _=>?_
   simp only[Function.comp_apply];split<;>rfl
  .clear hh
   induction kvs generalizing ds with
   |nil=>have:=r.length;cases ds with|nil=>exact .nil|cons _ _=>simp at this
   |cons p kvs ih=>
    obtain⟨a,w⟩:=p;cases ds with
    |nil=>have:=dI.mp r;simp at this
    |cons d0 ds=>
     obtain⟨v',r',e,h1,h2⟩:=bZ.mp r;rw[map_cons]at e;injection e with e1 e2
     subst e1 e2;rw[map_cons,map_cons,map_cons,zip_cons_cons,map_cons];refine .cons ?_ (ih ds h2)
     by_cases ha:a=k
     .have hk:eqK (E a) (E k)=true:=by rw[hE,decide_eq_true_eq];exact ha
      rw[if_pos hk,if_pos ha];exact hd
     .have hk:eqK (E a) (E k)=false:=by rw[hE,decide_eq_false_iff_not];exact ha
      rw[if_neg (by rw[hk];exact Bool.false_ne_true),if_neg ha]
      exact h1
 .rw[if_neg hh,if_neg hh,if_neg hh];refine⟨by rw[List.map_append];rfl,?_⟩
  rw[List.map_append];exact r.append (.cons hd .nil)
end
theorem aDl{K:Frag} (r:Rep K H d v) (h:keyOk false d=true):∃k:Key,d=pB k/\v=kV k:=by
 cases d<;>first|(cases h;done)|skip
 .exact⟨.inl _,rfl,bT.mp r⟩
 .exact⟨.inr _,rfl,eU.mp r⟩
theorem aF0{K:Frag}{H:Hp}:∀{ds:List D}{vs:List V},bM K H ds vs->ds.all aXm=true->∃ks:List Key,ds=ks.map pB/\vs=ks.map kV
 |[],vs,r,_=>⟨[],rfl,dI.mp r⟩
 |d::ds,vs,r,h=>by
  obtain⟨v,r',rfl,h1,h2⟩:=bZ.mp r;rw[all_cons,and_eq_true]at h;obtain⟨ks,e1,e2⟩:=aF0 h2 h.2;obtain⟨k,e3,e4⟩:=aDl h1 (by cases d<;>first|(cases h.1;done)|rfl)
  exact⟨k::ks,by rw[e1,e3];rfl,by rw[e2,e4];rfl⟩
theorem aH5{K:Frag} (r:Rep K H d v) (h:keyOk true d=true):∃(ks:List Key)(b:Addr),d=.tup (ks.map pB)/\v=.ref b/\H b=some (.tup (ks.map kV)):=by
 cases d<;>first|(cases h;done)|skip
 rename_i xs;obtain⟨b,vs,e,hb,rs⟩:=aB7.mp r;have h':xs.all aXm=true:=by
  unfold keyOk at h;simpa using h
 obtain⟨ks,e1,e2⟩:=aF0 rs h';exact⟨ks,b,by rw[e1],e,by rw[<-e2];exact hb⟩
theorem aHw{K:Frag} {t:Bool} {ks:List D} {k:D} {u:V} (rx:mK K A H (.dct t ks ds) v) (ry:Rep K H k u) (hk:keyOk t k=true) :
  ∃a o,v=.ref a/\aCj H a u o/\o.isSome=xV ks k/\∀d,aAf ks ds k=some d->∃w,o=some w/\Rep K (hide A H) d w:=by
 have key:∃a vs,v=V.ref a/\((t=false/\∃kvs:List (Key×V),H a=some (.dK kvs)/\kvs.map (λp=>pB p.1)=ks/\vs=kvs.map (·.2))\/(t=true/\∃kvs:List (List Key×V),H a=some (.dT kvs)/\kvs.map (λp=>D.tup (p.1.map pB))=ks/\vs=kvs.map (·.2)))/\bM K (hide A H) ds vs:=by
  rcases rx with h|⟨a,kk,o,ds',vs,e,e2,h,ko,r⟩
  .obtain⟨a,vs,e,q,r⟩:=yJ.mp h;refine⟨a,vs,e,?_,r⟩;rcases q with ⟨q0,kvs,q1,q2⟩|⟨q0,kvs,q1,q2⟩
   .exact .inl ⟨q0,kvs,bN _ _ _ _ q1,q2⟩
   .exact .inr ⟨q0,kvs,bN _ _ _ _ q1,q2⟩
  .cases kk<;>cases e;refine⟨a,vs,e2,?_,r⟩;rcases ko with ⟨q0,kvs,q1,q2⟩|⟨q0,kvs,q1,q2⟩
   .subst q1;exact .inl ⟨q0,kvs,h,q2⟩
   .subst q1;exact .inr ⟨q0,kvs,h,q2⟩
 obtain⟨a,vs,e,q,r⟩:=key;rcases q with ⟨rfl,kvs,q1,rfl,rfl⟩|⟨rfl,kvs,q1,rfl,rfl⟩
 .obtain⟨k',e1,e2⟩:=aDl ry hk;subst e1 e2;obtain⟨i1,i2⟩:=aNb aNa k' kvs ds r;exact⟨a,_,e,aCj.k q1,i2,λd hd=>let ⟨w,h1,h2⟩:=i1 d hd;⟨w,h1,h2⟩⟩
 .obtain⟨k',b,e1,e2,e3⟩:=aH5 ry hk;subst e1 e2;obtain⟨i1,i2⟩:=aNb aPi k' kvs ds r;exact⟨a,_,e,aCj.t q1 e3,i2,λd hd=>let ⟨w,h1,h2⟩:=i1 d hd;⟨w,h1,h2⟩⟩
section
variable{X:Cx}{B:List Addr}{a b e:Expr}{f g:Ex}{pos:Pos}
def bJc:R2:=λx y H Q=>∃p v,x=.ref p/\aCj H p y (some v)/\Q v H
theorem bCq(hu:X.A.units+64<cLine):IxR X bJc:=by
 intro value slice pins s σ H x y v u Q I rx ry h hs;obtain⟨p,z,rfl,g,q⟩:=h;cases rx;have hT:=aOc I g;unfold subscriptTail;refine wpAny_bind ?_
 rw[getitemInPython_of_ne hT.not_modules];refine wpAny_bind (wpAny_specialOf hT PySem.F.slot_dict_getitem.lookup ?_);have h2:wpAny (model X.prog X.w) X.A (getItem (.ref p) u) (EP X pins σ Q) X.xe s:=aVf (by omega) I g ry λw' s3 I3 rw'=>⟨z,H,I3,rw',q⟩
 have fin:wpAny (model X.prog X.w) X.A (subscripted slice false (.ref p) u) (λr s3=>wpAny (model X.prog X.w) X.A (letTemporaryGo value (.ref p) r >>= λ_=>pure r) (EP X pins σ Q) X.xe s3) X.xe s:=by
  rw[hs];exact wpAny_operating (wpAny_mono h2 (λr s3 h3=>wpAny_bind (wpAny_letTemporaryGo (wpAny_pure h3))) λ_ _ x=>x)
 first
  |exact wpAny_pure (wpAny_bind fin)
  |exact wpAny_bind (wpAny_pure (wpAny_bind fin))
  |exact wpAny_bind fin
theorem bCr{K:Frag}:aCk K (λx y H Q=>rIx K x y H Q\/bJc x y H Q) dIx:=by
 intro A H x y d v u Q w rx ry e q
 by_cases hx:bIk x=true
 .cases x<;>first|(cases hx;done)|skip
  rename_i t ks vs;have e':aY (keyOk t y=true) (ofO (aAf ks vs y))=.ok d:=by cases y<;>exact e
  obtain⟨hk,e2⟩:=aW e';have ryr:Rep K H y u:=by
   rcases ry with h|⟨a,kk,o,ds,vs',e1,_⟩
   .exact h.mono (bN _ _)
   .subst e1;cases kk<;>cases t<;>cases hk
  obtain⟨a,o,e3,g,_,g2⟩:=aHw rx ryr hk;obtain⟨z,e4,rz⟩:=g2 d (yL e2);subst e4;exact .inr ⟨a,z,e3,g,q _ H (bL.refl _) rz⟩
 .exact .inl (bGi (by simpa using hx) A H x y d v u Q w rx ry e q)
theorem cU(hu:X.A.units+64<cLine)(ha:PE X a (tP X.K B f))(hb:PE X b (tP X.K B g))(hs:aSo b:=by intro _ _;rfl):PE X (.Subscript a b pos) (tI X.K B (e2 dIx f g)):=
 cX (bIb (bFf.or (bCq hu)) ha hb hs) λ_ _ _ h=>aN9 bCr h
theorem aW9:oM X (.builtin "len") (λxs H Q=>∃a kvs,xs=[V.ref a]/\H a=some (.dK kvs)/\Q (.int kvs.length) H):=by
 intro pins s σ H xs us Q I r h;obtain⟨a,kvs,rfl,hk,q⟩:=h;obtain⟨u,rfl,ru⟩:=r.one;obtain rfl:u=Value.ref a:=ru;exact bIh I (.inl hk) λt s' I'=>⟨.int kvs.length,H,I',⟨t,rfl⟩,q⟩
theorem bCs{K:Frag} {ks:List D} (rx:mK K A H (.dct false ks ds) v):∃a kvs,v=.ref a/\H a=some (.dK kvs)/\kvs.length=ks.length:=by
 rcases rx with h|⟨a,kk,o,ds',vs,e,e2,h,ko,r⟩
 .obtain⟨a,vs,e,q,r⟩:=yJ.mp h;rcases q with ⟨_,kvs,q1,rfl,_⟩|⟨q0,_⟩
  .exact⟨a,kvs,e,bN _ _ _ _ q1,by simp⟩
  .cases q0
 .cases kk<;>cases e;rcases ko with ⟨_,kvs,rfl,rfl,_⟩|⟨q0,_⟩
  .exact⟨a,kvs,e2,h,by simp⟩
  .cases q0
end
section
variable{K:Frag} {st:PSt}
theorem aCb{k:OK} (h:(st.set i (some (.v d)))[j]?=some (some (.o k xs))):j≠i/\st[j]?=some (some (.o k xs)):=by
 rw[List.getElem?_set]at h
 by_cases e:i=j
 .subst e;rw[if_pos rfl]at h;split at h<;>simp at h
 .rw[if_neg e]at h;exact⟨λz=>e z.symm,h⟩
theorem Le.app{A':List Addr} (l:Le A H A' H'):bL (hide (A++B) H) (hide (A'++B) H'):=λb u q=>by
 have q1:=bN _ _ _ _ q;have hb:b∉A++B:=λz=>by rw[jU z]at q;cases q
 have q2:hide A H b=some u:=by rw[cL λz=>hb (List.mem_append_left _ z)];exact q1
 have q3:=l b u q2;have hb':b∉A':=λz=>by rw[jU z]at q3;cases q3
 rw[cL λz=>(List.mem_append.mp z).elim hb' λz=>hb (List.mem_append_right _ z)]
 exact bN _ _ _ _ q3
theorem RS.set(r:RS K B A H st σ){d:D}{v:V}(i:Nat)(h:Rep K (hide (A++B) H) d v):RS K B A H (st.set i (some (.v d))) (σ.set i (some v)) where
 len:=by rw[length_set,length_set,r.len]
 own:=r.own
 dis:=r.dis
 val:=λj d' e=>by
  rw[List.getElem?_set]at e
  by_cases hij:i=j
  .subst hij;rw[if_pos rfl]at e;split at e
   .rename_i hl;simp at e;subst e;exact⟨v,by rw[List.getElem?_set,if_pos rfl,if_pos (by rw[<-r.len];exact hl)],h⟩
   .cases e
  .rw[if_neg hij]at e;obtain⟨u,e1,q⟩:=r.val j d' e;exact⟨u,by rw[List.getElem?_set,if_neg hij];exact e1,q⟩
 lst:=λj kk xs e=>by
  obtain⟨hj,e'⟩:=aCb e;obtain⟨a,o,vs,e1,m,h1,ko,q,u⟩:=r.lst j kk xs e';refine⟨a,o,vs,by rw[List.getElem?_set,if_neg λz=>hj z.symm];exact e1,m,h1,ko,q,λk k' ys ek ek2=>?_⟩
  obtain⟨hk,ek'⟩:=aCb ek;rw[List.getElem?_set,if_neg λz=>hk z.symm]at ek2
  exact u k k' ys ek' ek2
theorem bCt{p:Addr}{o:HO}(w:Own (A++B) H):Own ((p::A)++B) (upd H p o):=λa ha=>by
 by_cases e:a=p
 .subst e;rw[cD];rfl
 .rw[bQ e];exact w a ((List.mem_cons.mp ha).resolve_left e)
theorem aF1{p:Addr}{o:HO}(hp:H p=none):bL (hide (A++B) H) (hide ((p::A)++B) (upd H p o)):=λb u q=>by
 have q1:=bN _ _ _ _ q;have hb:b∉A++B:=λz=>by rw[jU z]at q;cases q
 have ne:b≠p:=bI q1 hp;rw[cL (show b∉(p::A)++B from λz=>(List.mem_cons.mp z).elim ne hb),bQ ne]
 exact q1
theorem aNc{p:Addr}{o:HO}(hp:H p=none):Le A H (p::A) (upd H p o):=λb u q=>by
 have q1:=bN _ _ _ _ q;have hb:b∉A:=λz=>by rw[jU z]at q;cases q
 have ne:b≠p:=bI q1 hp;rw[cL λz=>(List.mem_cons.mp z).elim ne hb,bQ ne]
 exact q1
theorem RS.setO(r:RS K B A H st σ){p:Addr}{kk:OK}{o:HO} (i:Nat) (hp:H p=none) (ko:KOk K kk p o vs) (h:bM K (hide (A++B) H) ds vs) :
  RS K B (p::A) (upd H p o) (st.set i (some (.o kk ds))) (σ.set i (some (.ref p))) where
 len:=by rw[length_set,length_set,r.len]
 own:=bCt r.own
 dis:=λa ha hb=>by
  rcases List.mem_cons.mp ha with rfl|ha
  .exact r.own.free hp (List.mem_append_right _ hb)
  .exact r.dis a ha hb
 val:=λj d' e=>by
  rw[List.getElem?_set]at e
  by_cases hij:i=j
  .subst hij;rw[if_pos rfl]at e;split at e<;>simp at e
  .rw[if_neg hij]at e;obtain⟨u,e1,q⟩:=r.val j d' e;exact⟨u,by rw[List.getElem?_set,if_neg hij];exact e1,q.mono (aF1 hp)⟩
 lst:=λj k0 xs e=>by
  rw[List.getElem?_set]at e
  by_cases hij:i=j
  .subst hij;rw[if_pos rfl]at e;split at e
   .rename_i hl;simp at e;obtain⟨e0,e⟩:=e;subst e0 e;refine⟨p,o,vs,by rw[List.getElem?_set,if_pos rfl,if_pos (by rw[<-r.len];exact hl)],mem_cons_self,cD,ko,h.mono (aF1 hp),λk k' ys ek ek2=>?_⟩
    by_cases hk:i=k
    .exact hk.symm
    .rw[List.getElem?_set,if_neg hk]at ek ek2;obtain⟨a,o',vs',e1,m,h1,_⟩:=r.lst k k' ys ek;rw[e1]at ek2;cases ek2;rw[hp]at h1;cases h1
   .cases e
  .rw[if_neg hij]at e;obtain⟨a,o',vs',e1,m,h1,ko',q,u⟩:=r.lst j k0 xs e;have ne:a≠p:=bI h1 hp;refine⟨a,o',vs',by rw[List.getElem?_set,if_neg hij];exact e1,mem_cons_of_mem _ m,by rw[bQ ne];exact h1,ko',q.mono (aF1 hp),λk k' ys ek ek2=>?_⟩
   by_cases hk:i=k
   .subst hk;rw[List.getElem?_set,if_pos rfl]at ek2;split at ek2
    .simp at ek2;exact absurd ek2.symm ne
    .cases ek2
   .rw[List.getElem?_set,if_neg hk]at ek ek2;exact u k k' ys ek ek2
theorem RS.write(r:RS K B A H st σ) {k0 k1:OK} {o':HO} {vs':List V} (hi:st[i]?=some (some (.o k0 xs))) (hs:σ[i]?=some (some (.ref a))) (ko:KOk K k1 a o' vs') (h:bM K (hide (A++B) H) ds vs') :
  RS K B A (upd H a o') (st.set i (some (.o k1 ds))) σ/\Le A H A (upd H a o'):=by
 obtain⟨a',o,vs,e1,m,h1,_,q,u⟩:=r.lst i k0 xs hi;rw[hs]at e1;cases e1;have hh:hide (A++B) (upd H a o')=hide (A++B) H:=aB8 (List.mem_append_left _ m);refine⟨⟨by rw[length_set,r.len],λb hb=>?_,r.dis,λj d e=>?_,λj kj ys e=>?_⟩,?_⟩
 .by_cases e:b=a
  .subst e;rw[cD];rfl
  .rw[bQ e];exact r.own b hb
 .rw[hh];rw[List.getElem?_set]at e
  by_cases hij:i=j
  .subst hij;rw[if_pos rfl]at e;split at e<;>simp at e
  .rw[if_neg hij]at e;exact r.val j d e
 .rw[hh];have ne:∀{k:Nat}{kz:OK}{zs:List D},(st.set i (some (.o k1 ds)))[k]?=some (some (.o kz zs))->∃kw ws,st[k]?=some (some (.o kw ws)):=λ{k kz zs} ek=>by
   rw[List.getElem?_set]at ek
   by_cases hk:i=k
   .subst hk;exact⟨_,_,hi⟩
   .rw[if_neg hk]at ek;exact⟨_,_,ek⟩
  rw[List.getElem?_set]at e
  by_cases hij:i=j
  .subst hij;rw[if_pos rfl]at e;split at e
   .simp at e;obtain⟨e0,e⟩:=e;subst e0 e;exact⟨a,o',vs',hs,m,cD,ko,h,λk kz zs ek ek2=>let ⟨kw,ws,ew⟩:=ne ek;u k kw ws ew ek2⟩
   .cases e
  .rw[if_neg hij]at e;obtain⟨c,oc,ws,c1,cm,ch,kc,cq,cu⟩:=r.lst j kj ys e;have hca:c≠a:=λz=>by subst z;exact hij (u j kj ys e c1).symm
   exact⟨c,oc,ws,c1,cm,by rw[bQ hca];exact ch,kc,cq,λk kz zs ek ek2=>let ⟨kw,ws,ew⟩:=ne ek;cu k kw ws ew ek2⟩
 .unfold Le;rw[aB8 m];exact bL.refl _
theorem RS.fz1(r:RS K B A H st σ)(i:Nat):∃A',RS K B A' H (Pu.fz1 st i) σ/\Le A H A' H:=by
 unfold Pu.fz1;split
 .rename_i kk xs e;obtain⟨a,o,vs,e1,m,h1,ko,q,u⟩:=r.lst i kk xs e;have hsub:∀b∈A.filter (λc=>decide (c≠a)),b∈A:=λb hb=>(List.mem_filter.mp hb).1
  have hsub2:∀b∈A.filter (λc=>decide (c≠a))++B,b∈A++B:=λb hb=>(List.mem_append.mp hb).elim (λz=>List.mem_append_left _ (hsub b z)) (List.mem_append_right _)
  have sm:bL (hide (A++B) H) (hide (A.filter (λc=>decide (c≠a))++B) H):=mC hsub2
  have hout:a∉A.filter (λc=>decide (c≠a))++B:=λz=>(List.mem_append.mp z).elim (λz=>of_decide_eq_true (List.mem_filter.mp z).2 rfl) (r.dis a m)
  refine⟨A.filter λc=>decide (c≠a),⟨by rw[length_set,r.len],λb hb=>r.own b (hsub2 b hb),λb hb=>r.dis b (hsub b hb),λj d ej=>?_,λj kj ys ej=>?_⟩,mC hsub⟩
  .rw[List.getElem?_set]at ej
   by_cases hij:i=j
   .subst hij;rw[if_pos rfl]at ej;split at ej
    .simp at ej;subst ej;exact⟨_,e1,ko.rep (by rw[cL hout];exact h1) (q.mono sm)⟩
    .cases ej
   .rw[if_neg hij]at ej;obtain⟨v,e2,q2⟩:=r.val j d ej;exact⟨v,e2,q2.mono sm⟩
  .obtain⟨hj,ej'⟩:=aCb ej;obtain⟨c,oc,ws,c1,cm,ch,kc,cq,cu⟩:=r.lst j kj ys ej';have hca:c≠a:=λz=>by subst z;exact hj (u j kj ys ej' c1)
   exact⟨c,oc,ws,c1,List.mem_filter.mpr ⟨cm,decide_eq_true hca⟩,ch,kc,cq.mono sm,λk kz zs ek ek2=>cu k kz zs (aCb ek).2 ek2⟩
 .exact⟨A,r,Le.refl⟩
theorem RS.fz(is:List Nat):∀{A:List Addr}{st:PSt},RS K B A H st σ->∃A',RS K B A' H (is.foldl Pu.fz1 st) σ/\Le A H A' H:=by
 induction is with
 |nil=>exact λr=>⟨_,r,Le.refl⟩
 |cons i is ih=>
  intro A st r;obtain⟨A1,r1,l1⟩:=r.fz1 i;obtain⟨A2,r2,l2⟩:=ih r1;exact⟨A2,r2,l1.trans l2⟩
end
section
variable{X:Cx}{B:List Addr}{a b e:Expr}{f g:Ex}{pos:Pos}{bd bd':Bd}{sm:Stmt}{rest:List Stmt}
theorem dW:PSs X [] (tS X.K B cP):=aCa bAq (by
 rintro Dn σ H ⟨A,st,r,rs,hr,p⟩;cases hr;exact p A σ H Le.refl rs)
theorem aH(h1:PS X sm (tS X.K B bd))(h2:PSs X rest (tS X.K B bd')):PSs X (sm::rest) (tS X.K B (bB bd bd')):=by
 refine aCa (aI6 h1 h2) ?_
 rintro Dn σ H ⟨A,st,r,rs,hr,p⟩;obtain⟨x,hx,h3⟩:=R.ok_of hr;refine⟨A,st,x,rs,hx,?_⟩;cases x with
 |nx s1=>exact λA' σ' H' l rs'=>⟨A',s1,r,rs',h3,p.mono l⟩
 |rt d=>cases h3;exact p
 |bk s1=>cases h3;exact p
 |ct s1=>cases h3;exact p
theorem aX(h1:PS X sm (tS X.K B bd)):PSs X [sm] (tS X.K B bd):=aM7 h1
theorem aJn(is:List Nat)(h:PS X sm (tS X.K B bd)):PS X sm (tS X.K B (sFz is bd)):=lL h (by
 rintro Dn σ H ⟨A,st,r,rs,hr,p⟩;obtain⟨A',rs',l⟩:=RS.fz is rs;exact⟨A',_,r,rs',hr,p.mono l⟩)
theorem bO(h:PE X e (tI X.K B f)):PS X (.Return (some e) pos) (tS X.K B (cF f)):=lL (aQn h) (by
 rintro Dn σ H ⟨A,st,r,rs,hr,p⟩;obtain⟨d,hd,h3⟩:=R.ok_of hr;cases h3;exact⟨A,st,d,rs,hd,λv H' s q=>p A v H' (Le.of s) q⟩)
theorem bEh(h:PE X e (tI X.K B f))(hs:swapsWith e none pos.line X.env=pure false:=by rfl):PS X (.Expr e pos) (tS X.K B (bFq f)):=lL (aM8 h hs) (by
 rintro Dn σ H ⟨A,st,r,rs,hr,p⟩;obtain⟨d,hd,h3⟩:=R.ok_of hr;cases h3;exact⟨A,st,d,rs,hd,λv H' s q=>p A σ H' (Le.of s) (rs.mono s)⟩)
theorem bY(i:Nat) (he:PE X e (tI X.K B f)) (hN:X.N.Nodup) (hi:X.N[i]?=some x:=by rfl) (hx:Loc X.env.scope x:=by first|exact Or.inl rfl|exact Or.inr rfl) (hs:swapsWith e (some (.Name x pos')) pos.line X.env=pure false:=by rfl)
  (hf:X.fn x=true\/X.env.scope.names.lookup x=some .local:=by first|exact .inl rfl|exact .inr rfl|assumption):PS X (.Assign [.Name x pos'] e pos) (tS X.K B (cB i f)):=lL (aI7 hN hi hx he hs hf) (by
 rintro Dn σ H ⟨A,st,r,rs,hr,p⟩;obtain⟨d,hd,h3⟩:=R.ok_of hr;cases h3;exact⟨A,st,d,rs,hd,λv H' s q=>p A _ H' (Le.of s) ((rs.mono s).set i q)⟩)
def tF(K:Frag)(B:List Addr)(f:Ex):TE:=λσ H Q=>∃A st ds,RS K B A H st σ/\f st=.ok (.lst ds)/\∀p vs H',bL H H'->H' p=none->bM K (hide (A++B) H') ds vs->Q (.ref p) (upd H' p (.lst vs))
theorem xG(h:PA X es (tA X.K B r)):PE X (.List es pos) (tF X.K B (jX r)):=by
 refine cX (aQz h) ?_
 rintro σ H Q ⟨A,st,d,rs,hd,q⟩;obtain⟨xs,hx,h2⟩:=R.ok_of hd;obtain⟨c,h3⟩:=aW h2;cases h3;exact⟨A,st,_,rs,hx,λvs H1 s1 r1=>⟨by rw[r1.length];exact lim c,λp hp=>q p vs H1 s1 hp r1⟩⟩
theorem qJ(i:Nat) (he:PE X e (tF X.K B f)) (hN:X.N.Nodup) (hi:X.N[i]?=some x:=by rfl) (hx:Loc X.env.scope x:=by first|exact Or.inl rfl|exact Or.inr rfl) (hs:swapsWith e (some (.Name x pos')) pos.line X.env=pure false:=by rfl)
  (hf:X.fn x=true\/X.env.scope.names.lookup x=some .local:=by first|exact .inl rfl|exact .inr rfl|assumption):PS X (.Assign [.Name x pos'] e pos) (tS X.K B (sJ i f)):=lL (aI7 hN hi hx he hs hf) (by
 rintro Dn σ H ⟨A,st,r,rs,hr,p⟩;obtain⟨d,hd,h3⟩:=R.ok_of hr;cases d<;>first|(cases h3;done)|skip
 cases h3;exact⟨A,st,_,rs,hd,λa vs H' s hn q=>p (a::A) _ _ ((Le.of s).trans (aNc hn)) ((rs.mono s).setO (kk:=.l) i hn rfl q)⟩)
theorem iY{c:Expr}{t:Ex}{x y:List Stmt}(hc:PT X c (tT X.K B t))(ha:PSs X x (tS X.K B bd))(hb:PSs X y (tS X.K B bd')):PS X (.If c x y pos) (tS X.K B (sIf t bd bd')):=lL (bHx hc ha hb) (by
 rintro Dn σ H ⟨A,st,r,rs,hr,p⟩;obtain⟨d,hd,h3⟩:=R.ok_of hr;obtain⟨k,rfl,h4⟩:=vV h3;refine⟨A,st,k,rs,hd,λH1 s1=>?_⟩
 cases k with
 |true=>exact⟨A,st,r,rs.mono s1,h4,p.mono (Le.of s1)⟩
 |false=>exact⟨A,st,r,rs.mono s1,h4,p.mono (Le.of s1)⟩)
theorem bR(i:Nat) (hN:X.N.Nodup) (hi:X.N[i]?=some x:=by rfl) (hx:Loc X.env.scope x:=by first|exact Or.inl rfl|exact Or.inr rfl)
  (hf:X.fn x=true\/X.env.scope.names.lookup x=some .local:=by first|exact .inl rfl|exact .inr rfl|assumption):PG X (.Name x pos) (tG X.K B (tgN i)):=aZd (bAr hN hi hx hf) (by
 rintro v σ H Q ⟨A,st,d,s1,rs,hr,hg,q⟩;cases hg;exact q _ (rs.set i hr))
def tGs(K:Frag)(B:List Addr)(is:List Nat):TGs:=λvs σ H Q=>∃A st ds s1,RS K B A H st σ/\bM K (hide (A++B) H) ds vs/\aIf is ds st=.ok s1/\∀σ',RS K B A H s1 σ'->Q σ' H
theorem aU8{t t':TGs}(h:PGs X es t)(m:∀v σ H Q,t' v σ H Q->t v σ H Q):PGs X es t':=λpins s σ H v u Q I r q=>h pins s σ H v u Q I r (m v σ H Q q)
theorem aRw:PGs X [] (tGs X.K B []):=aU8 bAs (by
 rintro v σ H Q ⟨A,st,ds,s1,rs,hr,hg,q⟩;cases ds with
 |nil=>cases hg;exact⟨dI.mp hr,q σ rs⟩
 |cons _ _=>exact nomatch hg)
theorem vI(i:Nat){is:List Nat} (h2:PGs X es (tGs X.K B is)) (hN:X.N.Nodup) (hi:X.N[i]?=some x:=by rfl) (hx:Loc X.env.scope x:=by first|exact Or.inl rfl|exact Or.inr rfl)
  (hf:X.fn x=true\/X.env.scope.names.lookup x=some .local:=by first|exact .inl rfl|exact .inr rfl|assumption)
  (hs:(assignEach (.Name x pos::es) X.env).map (·.2)=assign (.Name x pos) X.env::(assignEach es X.env).map (·.2):=by rfl):PGs X (.Name x pos::es) (tGs X.K B (i::is)):=aU8 (aX6 (bR i (pos:=pos) hN hi hx hf) h2 hs) (by
 rintro v σ H Q ⟨A,st,ds,s1,rs,hr,hg,q⟩;cases ds with
 |nil=>exact nomatch hg
 |cons d ds=>
  obtain⟨u,r,e,r1,r2⟩:=bZ.mp hr;exact⟨u,r,e,A,st,d,st.set i (some (.v d)),rs,r1,rfl,λσ' rs'=>⟨A,_,ds,s1,rs',r2,hg,q⟩⟩)
theorem aJo{l it:Addr} (hl:h.IsList l items) (s:Heap.SameBut it h h') (hne:l≠it):h'.IsList l items:=by
 obtain⟨o,e,r⟩:=hl;exact⟨o,(s.2 l hne).trans e,r⟩
theorem aLu{M:Program}{w:World}{A:Around}{E:Value->Shared->Prop}{it t:Addr}{items:Array Value}(hne:t≠it):∀(n i:Nat)(s:Shared)(Q:List Value->Shared->Prop),s.heap.IsListIter it t i->s.heap.IsList t items->i+n<=items.size->
  (∀h',h'.IsListIter it t (i+n)->Heap.SameBut it s.heap h'->Q ((items.toList.drop i).take n) {s with heap:=h'})->wpAny (model M w) A (draw (.ref it) n) Q E s
 |0,i,s,Q,hit,_,_,hQ=>by
  show wpAny _ _ (pure []) Q E s;exact wpAny_pure (by simpa using hQ s.heap hit (Heap.SameBut.refl ..))
 |n+1,i,s,Q,hit,ht,hle,hQ=>by
  have hlt:i<items.size:=by omega
  show wpAny _ _ (pyNext (.ref it) >>= _) Q E s;refine wpAny_bind (wpAny_pyNext_list_item hit ht (x:=items[i]) (by simp[hlt]) λh1 hit1 hs1=>?_)
  refine wpAny_bind (wpAny_holding (aLu hne n (i+1) _ _ hit1 (aJo ht hs1 hne) (by omega) λh2 hit2 hs2=>wpAny_pure ?_))
  have hd:items.toList.drop i=items[i] :: items.toList.drop (i+1):=by simp[List.drop_eq_getElem_cons,hlt]
  have:=hQ h2 (by rw[show i+(n+1)=i+1+n by omega];exact hit2) (hs1.trans hs2)
  rw[hd,List.take_succ_cons]at this;exact this
theorem aF2{M:Program} {A:Around} {s:Shared} {pos:Pos} {t:Addr} {Q:Unit->Shared->Prop} (hh:A.handled=none) (ht:s.heap.IsList t items)
  (hn:(assignEach elts env).length=items.size) (hstar:(assignEach elts env).findIdx? (·.1)=none)
  (h:∀h',Heap.ExtBut s.heap.objs.size s.heap h'->wpAny (model M w) A (assignInOrder ((assignEach elts env).map (·.2)) items.toList) Q E {s with heap:=h'}) :
  wpAny (model M w) A (assign (.Tuple elts x1 pos) env (.ref t)) Q E s:=by
 have hlt:t≠s.heap.objs.size:=by obtain⟨o,ho,_⟩:=ht;exact Nat.ne_of_lt (Heap.lt_size ho)
 rw[assign_Tuple];refine wpAny_bind (wpAny_standAt ?_);unfold unpack;rw[hn,hstar];refine wpAny_bind (wpAny_holding ?_);unfold unpackItems;refine wpAny_bind ?_
 unfold notIterableAtAll;refine wpAny_bind (wpAny_specialOf ht.typeIs PySem.F.slot_list_iter.lookup ?_);refine wpAny_pure ?_
 simp only[Bool.false_eq_true,if_false];refine wpAny_bind (wpAny_holding (wpAny_pyIter_list ht ?_));have ht0:(s.heap.push {cls:=.type "list_iterator",data:=.fields #[.ref t,rawInt 0]}).IsList t items:=by
  obtain⟨o,ho,r⟩:=ht;exact⟨o,Heap.get?_push_of_some _ ho,r⟩
 refine wpAny_bind (wpAny_holding (aLu hlt items.size 0 _ _ ⟨_,Heap.get?_push_size _ rfl,rfl,rfl⟩ ht0 (by omega) λh1 hit1 hs1=>?_))
 have hall:List.take items.size (List.drop 0 items.toList)=items.toList:=by
  rw[drop_zero];exact List.take_of_length_le (by simp)
 rw[hall];rw[if_neg (by simp)]
 refine wpAny_bind (wpAny_holding (wpAny_pyNext_list_end hh hit1 (aJo ht0 hs1 hlt) (by simp) λh2 he2=>?_))
 simp only[Option.isSome_none,Bool.false_eq_true,if_false];refine wpAny_pure (h h2 λb o hb e=>he2 b o hb (hs1.extBut b o hb (Heap.get?_push_of_some _ e)))
def bKu(K:Frag)(n:Nat)(t:TGs):TG:=λv σ H Q=>∃a xs,v=.ref a/\(SqT K H a xs\/SqL K H a xs)/\xs.length=n/\t xs σ H Q
theorem bGk{k:Nat}{t:TGs} (hc:X.calm=true) (h:PGs X es t)
  (hn:(assignEach es X.env).length=n:=by rfl) (hst:(assignEach es X.env).findIdx? (·.1)=none:=by rfl):PG X (.Tuple es k pos) (bKu X.K n t):=by
 intro pins s σ H v u Q I r hw;obtain⟨a,xs,e1,hq,hl,hw⟩:=hw;rcases hq with hq|hq
 .exact bEx hc h hn hst pins s σ H v u Q I r ⟨a,xs,e1,hq,hl,hw⟩
 .subst e1;cases r;obtain⟨its,rv,ht,hz⟩:=I.list hq;refine aF2 (I.ok.hd hc) ht.isList (by simp[hn,<-hl,rv.length]) hst λh' hx=>?_
  have I1:Inv X pins σ H {s with heap:=h'}:=I.kept (t':=s.toks) λb o e=>hx b o (Nat.ne_of_lt (Heap.lt_size e)) e
  exact h pins _ σ H xs _ Q I1 (by simpa using rv) hw
theorem aJp{s1:PSt}:∀(is:List Nat)(ds:List D)(st:PSt),aIf is ds st=.ok s1->ds.length=is.length:=by
 intro is
 induction is with
 |nil=>intro ds st h;cases ds with|nil=>rfl|cons _ _=>exact nomatch h
 |cons i is ih=>intro ds st h;cases ds with|nil=>exact nomatch h|cons _ ds=>exact congrArg (· + 1) (ih ds _ h)
theorem aZh{is:List Nat} {k:Nat} (hc:X.calm=true) (h:PGs X es (tGs X.K B is)) (hn:(assignEach es X.env).length=is.length:=by rfl) (hst:(assignEach es X.env).findIdx? (·.1)=none:=by rfl):PG X (.Tuple es k pos) (tG X.K B (tgT is)):=aZd (bGk hc h hn hst) (by
 rintro v σ H Q ⟨A,st,d,s1,rs,hr,hg,q⟩;cases d<;>first|(cases hg;done)|skip
 .rename_i ds;obtain⟨a,vs,e,h1,h2⟩:=iW hr;exact⟨a,vs,e,.inl (aB6 (bN _ _) h1),by rw[h2.length];exact aJp is ds st hg,A,st,ds,s1,rs,h2,hg,q⟩
 .rename_i ds;obtain⟨a,vs,e,h1,h2⟩:=iM.mp hr;exact⟨a,vs,e,.inr ((bN _ _).seq h1),by rw[h2.length];exact aJp is ds st hg,A,st,ds,s1,rs,h2,hg,q⟩)
theorem bEi{t:Tg}(he:PE X e (tI X.K B f))(hg:PG X tg (tG X.K B t))(hs:swapsWithSole [tg] e pos.line X.env=pure false:=by rfl)(hw:swappedStores [tg] e X.env=pure none:=by rfl)
  (h1:(assignEach [tg] X.env).map (·.2)=[assign tg X.env]:=by rfl):PS X (.Assign [tg] e pos) (tS X.K B (bFp t f)):=lL (aQo he hg hs hw h1) (by
 rintro Dn σ H ⟨A,st,r,rs,hr,p⟩;obtain⟨d,hd,h3⟩:=R.ok_of hr;obtain⟨s1,hs1,h4⟩:=R.ok_of h3;cases h4;exact⟨A,st,d,rs,hd,λv H' s q=>⟨A,st,d,s1,rs.mono s,q,hs1,λσ' rs'=>p A σ' H' (Le.of s) rs'⟩⟩)
theorem jN{iter:Expr} {t:Tg} (hi:L2.PI X tg iter (tIt X.K B it)) (hg:PG X tg (tG X.K B t)) (hb:PSs X body (tS X.K B bd)) (hp:PassesOwn (model X.prog X.w) X.A X.env X.xe) (hc:X.calm=true)
  (hs:∀x,foldedSetIterable iter X.env x=pure x:=by intro _;rfl):PS X (.For tg iter body [] pos) (tS X.K B (oN t it bd)):=lL (bEz hp hc hi hg hb hs) (by
 rintro Dn σ H ⟨A,st,r,rs,hr,p⟩;obtain⟨ds,hd,h3⟩:=R.ok_of hr;refine⟨A,st,ds,rs,hd,λJ H1 s1 ito=>?_⟩
 refine⟨λi m σ' H'=>∃A' st',m=ds.length-i/\i<=ds.length/\RS X.K B A' H' st' σ'/\forR t bd (ds.drop i) st'=.ok r/\Le A H1 A' H',⟨ds.length,A,st,by simp,zero_le _,rs.mono s1,by rw[drop_zero];exact h3,Le.refl⟩,?_⟩
 rintro i m σ' H' ⟨A',st',rfl,hle,rs',hf,l⟩;obtain⟨i1,i2⟩:=ito A' H' l rs'.own i
 by_cases hlt:i<ds.length
 .have hd':ds[i]?=some ds[i]:=List.getElem?_eq_getElem hlt;obtain⟨go,yl⟩:=i1 _ hd';rw[List.drop_eq_getElem_cons hlt]at hf;obtain⟨s2,hs2,h5⟩:=R.ok_of hf;obtain⟨fl,hfl,h6⟩:=R.ok_of h5;refine .inr ⟨go,λσ2 H2=>∃A2 st2,i+1<=ds.length/\RS X.K B A2 H2 st2 σ2/\forR t bd (ds.drop (i+1)) st2=.ok r/\Le A H1 A2 H2,?_,λx H2 y=>?_⟩
  .rintro σ2 H2 ⟨A2,st2,hle2,rs2,hf2,l2⟩;exact⟨ds.length-(i+1),by omega,A2,st2,rfl,hle2,rs2,hf2,l2⟩
  .obtain⟨sm,rx⟩:=yl x H2 y;have l5:Le A H1 A' H2:=l.trans (Le.of sm);refine⟨A',st',ds[i],s2,rs'.mono sm,rx,hs2,λσ3 rs3=>⟨A',s2,fl,rs3,hfl,?_⟩⟩
   cases fl with
   |nx s4=>exact λA4 σ4 H4 l4 rs4=>⟨A4,s4,hlt,rs4,h6,l5.trans l4⟩
   |ct s4=>exact λA4 σ4 H4 l4 rs4=>⟨A4,s4,hlt,rs4,h6,l5.trans l4⟩
   |bk s4=>cases h6;exact p.mono ((Le.of s1).trans l5)
   |rt d=>cases h6;exact p.mono ((Le.of s1).trans l5)
 .have e:i=ds.length:=by omega
  subst e;rw[List.drop_length]at hf;cases hf;exact .inl ⟨i2 (Nat.le_refl _),p A' σ' H' ((Le.of s1).trans l) rs'⟩)
theorem aNd(n:Nat){c:Expr}{t:Ex} (hc:PT X c (tT X.K B t)) (hb:PSs X body (tS X.K B bd)) (hp:PassesOwn (model X.prog X.w) X.A X.env X.xe):PS X (.While c body [] pos) (tS X.K B (aIg n t bd)):=lL (aX8 hp hc hb) (by
 rintro Dn σ H ⟨A,st,r,rs,hr,p⟩;refine⟨λm σ' H'=>∃A' st',RS X.K B A' H' st' σ'/\nJ t bd m st'=.ok r/\Le A H A' H',⟨n,A,st,rs,hr,Le.refl⟩,?_⟩
 rintro m σ' H' ⟨A',st',rs',hw,l⟩;cases m with
 |zero=>exact nomatch hw
 |succ m=>
  obtain⟨d,hd,h3⟩:=R.ok_of hw;obtain⟨k,rfl,h4⟩:=vV h3;refine⟨A',st',k,rs',hd,λH1 s1=>?_⟩
  cases k with
  |false=>
   cases h4;exact p A' σ' H1 (l.trans (Le.of s1)) (rs'.mono s1)
  |true=>
   obtain⟨fl,hfl,h6⟩:=R.ok_of h4;refine⟨λσ2 H2=>∃A2 st2,RS X.K B A2 H2 st2 σ2/\nJ t bd m st2=.ok r/\Le A H A2 H2,?_,A',st',fl,rs'.mono s1,hfl,?_⟩
   .rintro σ2 H2 ⟨A2,st2,rs2,hf2,l2⟩;exact⟨m,Nat.lt_succ_self m,A2,st2,rs2,hf2,l2⟩
   .cases fl with
    |nx s4=>exact λA4 σ4 H4 l4 rs4=>⟨A4,s4,rs4,h6,l.trans ((Le.of s1).trans l4)⟩
    |ct s4=>exact λA4 σ4 H4 l4 rs4=>⟨A4,s4,rs4,h6,l.trans ((Le.of s1).trans l4)⟩
    |bk s4=>cases h6;exact p.mono (l.trans (Le.of s1))
    |rt d=>cases h6;exact p.mono (l.trans (Le.of s1)))
theorem bGl{K:Frag} {l:Addr} (hq:SqL K (hide (A++B) H) l vs) (r:bM K (hide (A++B) H) ds vs):aW8 K B A H (Itl K l) ds:=by
 intro A' H' le own i;have hq':SqL K H' l vs:=(bN _ _).seq ((Le.app le).seq hq);refine⟨λd hd=>?_,λhl=>⟨vs,hq',by rw[r.length];exact hl⟩⟩
 obtain⟨v,hv,rv⟩:=r.get hd;refine⟨⟨vs,v,hq',hv⟩,λx H3 y=>⟨by rw[y.1];exact bL.refl _,?_⟩⟩
 have hx:=y.2 vs hq';rw[y.1];rw[hv]at hx;cases hx;exact rv.mono (Le.app le)
theorem bGm{K:Frag} {l:Addr} (hq:SqT K (hide (A++B) H) l vs) (r:bM K (hide (A++B) H) ds vs):aW8 K B A H (Itt K l) ds:=by
 intro A' H' le own i;have hq':SqT K H' l vs:=aB6 (bN _ _) (aB6 (Le.app le) hq);refine⟨λd hd=>?_,λhl=>⟨vs,hq',by rw[r.length];exact hl⟩⟩
 obtain⟨v,hv,rv⟩:=r.get hd;refine⟨⟨vs,v,hq',hv⟩,λx H3 y=>⟨by rw[y.1];exact bL.refl _,?_⟩⟩
 have hx:=y.2 vs hq';rw[y.1];rw[hv]at hx;cases hx;exact rv.mono (Le.app le)
theorem aZi{K:Frag} {lo:Int}:aW8 K B A H (Itr lo n) (kJ lo n):=by
 intro A' H' le own i;have hl:(kJ lo n).length=n:=by simp[kJ]
 refine⟨λd hd=>?_,λh=>by rw[hl]at h;exact h⟩
 have hi:i<n:=by
  have:=(List.getElem?_eq_some_iff.mp hd).1;rw[hl]at this;exact this
 have e:d=.int (lo+(i:Int)):=by
  unfold kJ at hd;rw[List.getElem?_map,List.getElem?_range hi]at hd;exact(Option.some.inj hd).symm
 subst e;exact⟨hi,λx H3 y=>⟨by rw[y.1];exact bL.refl _,bT.mpr y.2⟩⟩
def Its(z:List Nat):It:=⟨λi _=>i<z.length,λi H x H'=>H'=H/\∃c,z[i]?=some c/\x=.str ⟨#[c]⟩,λi _=>z.length<=i⟩
theorem aZj{K:Frag} {it:Addr} {n:String} {t:Tok} (hn:n="str_ascii_iterator"\/n="str_iterator"):Turn P w K tg (Its z) [it] it (λi h=>h.IsStrIter it n ⟨z.toArray⟩ t i) where
 mem:=by simp
 obj:=λi h st b hb=>by
  have e:b=it:=by simpa using hb
  subst e;obtain⟨o,e,c,d⟩:=st;exact⟨o,e,λv z=>by rw[d]at z;cases z⟩
 keep:=λi h h' st k=>let ⟨o,e,r⟩:=st;⟨o,k it (by simp) o e,r⟩
 item:=by
  intro X hP hw hK hc i pins s σ H E I hf st hg;subst hP hw hK;obtain⟨f0,f1,f2,f3,f4,f5⟩:=hf it (by simp)
  have fin:∀v h' tk,SignAt ⟨z.toArray⟩ i v->Heap.IsStrIter h' it n ⟨z.toArray⟩ t (i+1)->(∀b o,b∉[it]->s.heap.get? b=some o->h'.get? b=some o)->
    ∃u,some v=some u/\wpAny (model X.prog X.w) X.A (letOwnedTupleGo tg (.ref it) u) (λ_ s2=>∃x H',Inv X pins σ H' s2/\RelV x u/\(Its z).yld i H x H'/\Heap.IsStrIter s2.heap it n ⟨z.toArray⟩ t (i+1)/\∀b∈[it],H' b=none) E {s with heap:=h',toks:=tk}:=by
   intro v h' tk hv st' kk;obtain⟨c,u,hcu,rfl⟩:=hv;have I1:Inv X pins σ H {s with heap:=h',toks:=tk}:=I.turned (λb o hb e=>kk b o (by simpa using hb) e) f0 f1 f3 f4 f5
   obtain⟨o,e,c',d⟩:=id st';refine⟨_,rfl,aSl (s:={s with heap:=h',toks:=tk}) e c' d (by rcases hn with rfl|rfl<;>decide) ⟨.str ⟨#[c]⟩,H,I1,⟨u,rfl⟩,⟨rfl,c,?_,rfl⟩,st',λb hb=>(hf b hb).1⟩⟩
   simpa using hcu
  have hg2:i<z.length:=hg;have hg':i<(⟨z.toArray⟩:Str).cps.size:=by simpa using hg2
  rcases hn with rfl|rfl
  .exact(Walks.strAscii (prog:=X.prog) (w:=X.w) (I.ok.hd hc) it ⟨z.toArray⟩ t).item i s _ _ hg' st λv h' tk hv st' kk=>fin v h' tk hv st' kk
  .exact(Walks.strWide (prog:=X.prog) (w:=X.w) (I.ok.hd hc) it ⟨z.toArray⟩ t).item i s _ _ hg' st λv h' tk hv st' kk=>fin v h' tk hv st' kk
 done:=by
  intro X hP hw hK hc i pins s σ H E I hf st hg;subst hP hw hK;obtain⟨f0,f1,f2,f3,f4,f5⟩:=hf it (by simp)
  have hg2:z.length<=i:=hg;rcases hn with rfl|rfl
  .exact wpAny_pyNext_ascii_end (I.ok.hd hc) st (by simpa using hg2) λh' eb=>⟨rfl,I.turned (t':=s.toks) (λb o hb e=>eb b o hb e) f0 f1 f3 f4 f5⟩
  .exact wpAny_pyNext_wide_end (I.ok.hd hc) st (by simpa using hg2) λh' eb=>⟨rfl,I.turned (t':=s.toks) (λb o hb e=>eb b o hb e) f0 f1 f3 f4 f5⟩
 self:=λ_ _ _ _ _ st h=>by
  rcases hn with rfl|rfl
  .exact wpAny_pyIter_striter_ascii st h
  .exact wpAny_pyIter_striter_wide st h
theorem bGn{K:Frag}:aW8 K B A H (Its z) (z.map λc=>.str [c]):=by
 intro A' H' le own i;refine⟨λd hd=>?_,λh=>(by simpa using h:z.length<=i)⟩
 rw[List.getElem?_map]at hd;cases hz:z[i]? with
 |none=>rw[hz]at hd;cases hd
 |some c=>
  rw[hz]at hd;cases hd;refine⟨(List.getElem?_eq_some_iff.mp hz).1,λx H3 y=>⟨by rw[y.1];exact bL.refl _,?_⟩⟩
  obtain⟨c',hc',rfl⟩:=y.2;rw[hz]at hc';cases hc';exact eU.mpr rfl
def bKv(K:Frag)(tl:TE):TI:=λσ H R=>tl σ H λx H1=>(∃a,x=.ref a/\(((∃xs,SqL K H1 a xs)/\R (Itl K a) H1)\/((∃xs,SqT K H1 a xs)/\R (Itt K a) H1)))\/∃z:List Nat,x=.str ⟨z.toArray⟩/\R (Its z) H1
theorem bGo{l:Expr}{tl:TE}(hl:PE X l tl):L2.PI X tg l (bKv X.K tl):=by
 intro pins s σ H R I h;refine thn (hl pins s σ H _ I h) λv s1 ⟨x,H1,I1,r1,q1⟩=>?_
 rcases q1 with ⟨a,e,q⟩|⟨z,rfl,q⟩
 rotate_left
 .obtain⟨t,rfl⟩:=r1;refine wpAny_pyIter_strU ?_
  refine⟨s1.heap.objs.size,[s1.heap.objs.size],_,_,H1,rfl,I1.kept (t':=s1.toks) λb o e=>Heap.get?_push_of_some _ e,aZj (z:=z) (n:=strIterType ⟨z.toArray⟩) (t:=t) (by unfold strIterType;split<;>simp),⟨_,Heap.get?_push_size _ rfl,rfl,rfl⟩,λb hb=>?_,q⟩
  have e:b=s1.heap.objs.size:=by simpa using hb
  subst e;exact I1.fpOk (Nat.le_refl _) (I1.hok.fresh (Nat.le_refl _))
 subst e;cases r1;rcases q with ⟨⟨xs,hq⟩,q⟩|⟨⟨xs,hq⟩,q⟩
 .obtain⟨its,rv,p,hz⟩:=I1.list hq;refine wpAny_pyIter_list p.isList ?_
  refine⟨s1.heap.objs.size,[s1.heap.objs.size],_,_,H1,rfl,I1.kept (t':=s1.toks) λb o e=>Heap.get?_push_of_some _ e,aUz a _,⟨_,Heap.get?_push_size _ rfl,rfl,rfl⟩,λb hb=>?_,q⟩
  have e:b=s1.heap.objs.size:=by simpa using hb
  subst e;exact I1.fpOk (Nat.le_refl _) (I1.hok.fresh (Nat.le_refl _))
 .obtain⟨its,rv,p,hz⟩:=I1.tuple hq;refine wpAny_pyIter_tuple (show s1.heap.IsTuple a its.toArray from p) ?_
  refine⟨s1.heap.objs.size,[s1.heap.objs.size],_,_,H1,rfl,I1.kept (t':=s1.toks) λb o e=>Heap.get?_push_of_some _ e,aQp a _,⟨_,Heap.get?_push_size _ rfl,rfl,rfl⟩,λb hb=>?_,q⟩
  have e:b=s1.heap.objs.size:=by simpa using hb
  subst e;exact I1.fpOk (Nat.le_refl _) (I1.hok.fresh (Nat.le_refl _))
theorem iQ{l:Expr}(hl:PE X l (tI X.K B f)):L2.PI X tg l (tIt X.K B (itE f)):=aRt (bGo hl) (by
 rintro σ H Rq ⟨A,st,ds,rs,hd,q⟩;obtain⟨x,hx,h2⟩:=R.ok_of hd;refine⟨A,st,x,rs,hx,λv H1 s1 r1=>?_⟩
 cases x<;>first|(cases h2;done)|skip
 .obtain⟨_,h2⟩:=aW h2;cases h2;exact .inr ⟨_,eU.mp r1,q _ H1 s1 bGn⟩
 .cases h2;obtain⟨a,vs,e,h3,r3⟩:=iW r1;exact .inl ⟨a,e,.inr ⟨⟨vs,aB6 (bN _ _) h3⟩,q _ H1 s1 (bGm h3 r3)⟩⟩
 .cases h2;obtain⟨a,vs,e,h3,r3⟩:=iM.mp r1;exact .inl ⟨a,e,.inl ⟨⟨vs,(bN _ _).seq h3⟩,q _ H1 s1 (bGl h3 r3)⟩⟩)
theorem aF3{p:Pos}(hm:X.mg "range"=none)(ha:PE X a (tP X.K B f))(hg:Gl X "range":=by rfl)(hs:starEach [a] X.env=[(false,eval a X.env)]:=by rfl):L2.PI X tg (.Call (.Name "range" p) [a] [] pos) (tIt X.K B (xW f)):=aRt (aV0 hg hm (dJ ha jO hs) hs) (by
 rintro σ H Rq ⟨A,st,ds,rs,hd,q⟩;obtain⟨x,hx,h2⟩:=R.ok_of hd;obtain⟨j,rfl,h3⟩:=aFt h2;obtain⟨c,h4⟩:=aW h3;rw[rR]at c;cases h4;exact⟨A,st,_,rs,hx,λv H1 s1 r1=>⟨j,by rw[r1.int],by omega,by omega,q _ H1 s1 aZi⟩⟩)
theorem bJd{p:Pos}(hm:X.mg "range"=none)(ha:PE X a (tP X.K B f))(hb:PE X b (tP X.K B g))(hg:Gl X "range":=by rfl)(hs:starEach [a,b] X.env=[(false,eval a X.env),(false,eval b X.env)]:=by rfl)(hs2:starEach [b] X.env=[(false,eval b X.env)]:=by rfl)
  (hs3:starEach [a,b] X.env=(false,eval a X.env)::starEach [b] X.env:=by rfl):L2.PI X tg (.Call (.Name "range" p) [a,b] [] pos) (tIt X.K B (bFo f g)):=aRt (aV1 hg hm (dJ ha (dJ hb jO hs2) hs3) hs hs2) (by
 rintro σ H Rq ⟨A,st,ds,rs,hd,q⟩;obtain⟨x,hx,h2⟩:=R.ok_of hd;obtain⟨y,hy,h5⟩:=R.ok_of h2;obtain⟨i,rfl,h6⟩:=aFt h5;obtain⟨j,rfl,h3⟩:=aFt h6;obtain⟨c,h4⟩:=aW h3;rw[rR]at c;cases h4;exact⟨A,st,_,rs,hx,λv H1 s1 r1=>⟨A,st,_,rs.mono s1,hy,λu H2 s2 r2=>⟨i,j,by rw[r1.int,r2.int],⟨by omega,by omega,by omega,by omega⟩,q _ H2 (s1.trans s2) aZi⟩⟩⟩)
end
theorem aJq{K:Frag} (w:Own B H) (r:bM K (hide B H) ds vs):RS K B [] H (ds.map (λd=>some (Sl.v d))++List.replicate (N.length-ds.length) none) (L2.start N vs):=by
 have hl:=r.length;have nov:∀(i:Nat)(s:Sl),(ds.map (λd=>some (Sl.v d))++List.replicate (N.length-ds.length) none)[i]?=some (some s)->∃d,ds[i]?=some d/\s=.v d:=λi s e=>by
  by_cases hi:i<ds.length
  .rw[List.getElem?_append_left (by simpa using hi),List.getElem?_map,List.getElem?_eq_getElem hi]at e
   simp at e;exact⟨ds[i],List.getElem?_eq_getElem hi,e.symm⟩
  .rw[List.getElem?_append_right (by simpa using hi),List.getElem?_replicate]at e
   split at e<;>simp at e
 refine⟨by unfold L2.start;simp[hl],by rw[nil_append];exact w,λa ha=>absurd ha (by simp),λi d e=>?_,λi kk xs e=>?_⟩
 .obtain⟨d',e1,e2⟩:=nov i _ e;cases e2;obtain⟨v,hv,rv⟩:=r.get e1;refine⟨v,?_,by rw[nil_append];exact rv⟩
  unfold L2.start;have hi:i<vs.length:=(List.getElem?_eq_some_iff.mp hv).1;rw[List.getElem?_append_left (by simpa using hi),List.getElem?_map,hv]
  rfl
 .obtain⟨d',e1,e2⟩:=nov i _ e;cases e2
theorem aF4(ds:List D)(d:D)(h:cJ np n bd ds=.ok d):ds.length=np:=(aW h).1
structure DefOk(P:Program)(w:World)(K:Frag)(mg:Str->Option Value)(base:Heap)(x:Str)(k np:Nat)(p:List D->R D):Prop where
 ex:∃(fa:Addr)(fd:FuncData)(ps:List Str),FnOk P w K mg base CX0 k fa fd ps (spI K np p)/\mg x=some (.ref fa)/\keepIn K (.ref fa)=true/\Binds K fd ps []
 len:∀ds d,p ds=.ok d->ds.length=np
theorem DefOk.of{K:Frag} {k:Nat} (h:FnOk P w K mg base CX0 k fa fd ps (spI K np p)) (m:mg x=some (.ref fa))
  (kp:keepIn K (.ref fa)=true) (b:Binds K fd ps []) (l:∀ds d,p ds=.ok d->ds.length=np):DefOk P w K mg base x k np p:=⟨⟨fa,fd,ps,h,m,kp,b⟩,l⟩
section
variable{X:Cx}{B:List Addr}{a b e:Expr}{f g:Ex}{pos:Pos}
theorem aM{k:Nat} (h:DefOk X.prog X.w X.K X.mg X.base x k np p) (hr:Room j X.A) (hk:k<=j) (ha:PA X (e::es) (tA X.K B r)) (hg:Gl X x:=by rfl) (hdb:(x==("__debug__":Str))=false:=by decide)
  (he:starEach (e::es) X.env=(false,eval e X.env)::starEach es X.env:=by rfl) (hpl:(backTo pos (starEach es X.env)).any (·.1)=false:=by rfl):PE X (.Call (.Name x p0) (e::es) [] pos) (tI X.K B (aV p r)):=by
 obtain⟨fa,fd,ps,F,m,kp,bd⟩:=h.ex;exact bGj F (hr.mono hk) m kp bd h.len ha hg hdb he hpl
theorem bGp{K:Frag} {a:Addr} {E:XK} (hS:SqL K H a (ns.map V.int)) (h:p [.lst (ns.map D.int)]=.ok (.bl true)):spI K 1 p [.ref a] H (λv _=>v=.bl true) E:=by
 refine⟨[],[.lst (ns.map D.int)],.bl true,λb hb=>absurd hb (by simp),?_,rfl,h,λv H' _ r=>dC.mp r⟩
 rw[xF];refine .cons (iM.mpr ⟨a,_,rfl,hS,?_⟩) .nil;clear hS h
 induction ns with
 |nil=>exact .nil
 |cons n ns ih=>exact .cons (bT.mpr rfl) ih
theorem mH(hm:X.mg "len"=none)(ha:PE X a (tP X.K B f))(hg:Gl X "len":=by rfl)(hs:starEach [a] X.env=(false,eval a X.env)::starEach [] X.env:=by rfl):PE X (.Call (.Name "len" p0) [a] [] pos) (tI X.K B (e1 lU f)):=by
 refine cX (tZ (aMf.or (aMg.or aW9)) hg hm PySem.boot_len (dJ ha jO hs) (he:=hs)) ?_
 rintro σ H Q ⟨A,st,d,rs,hd,q⟩;obtain⟨x,hx,h2⟩:=R.ok_of hd;refine⟨A,st,x,rs,hx,λv H1 s1 r1=>?_⟩
 cases x<;>first|(cases h2;done)|skip
 .obtain⟨c,h3⟩:=aW h2;cases h3;exact .inr (.inl ⟨_,by rw[r1.str],by rw[str_len];exact lim c,by rw[str_len];exact q _ H1 s1 (bT.mpr rfl)⟩)
 .cases h2;obtain⟨l,vs,e,h3,r3⟩:=r1.tup;exact .inl ⟨l,vs,by rw[e],.inr h3,by rw[r3.length];exact q _ H1 s1 (bT.mpr rfl)⟩
 .cases h2;obtain⟨l,vs,e,h3,r3⟩:=r1.lst;exact .inl ⟨l,vs,by rw[e],.inl h3,by rw[r3.length];exact q _ H1 s1 (bT.mpr rfl)⟩
 .rename_i t ks ds;cases t<;>first|(cases h2;done)|skip
  cases h2;obtain⟨a,kvs,e,h3,h4⟩:=bCs r1;exact .inr (.inr ⟨a,kvs,by rw[e],h3,by rw[h4];exact q _ H1 s1 (bT.mpr rfl)⟩)
theorem aRx:PO X none (tO X.K B aL1):=aZc bB5 (by
 rintro σ H Q ⟨A,st,o,rs,ho,q⟩;cases ho;exact q H (bL.refl _))
theorem aRy(h:PE X e (tP X.K B f)):PO X (some e) (tO X.K B (aL2 f)):=aZc (bB6 h) (by
 rintro σ H Q ⟨A,st,o,rs,ho,q⟩;obtain⟨x,hx,h2⟩:=R.ok_of ho;obtain⟨i,rfl,h3⟩:=aFt h2;cases h3;exact⟨A,st,_,rs,hx,λv H1 s1 r1=>⟨i,r1.int,q H1 s1⟩⟩)
theorem aPj{α:Type}(x:List α):∀(k a:Nat),((List.range k).map (a + ·)).filterMap (x[·]?)=(x.drop a).take k
 |0,a=>by simp
 |k+1,a=>by
  rw[List.range_succ_eq_map,map_cons,List.filterMap_cons,List.map_map];have e:((λb=>a+b) ∘ Nat.succ)=λb=>(a+1)+b:=by funext b;simp only[Function.comp_apply];omega
  rw[e];have ih:=aPj x k (a+1);rw[ih]
  by_cases h:a<x.length
  .rw[Nat.add_zero,List.getElem?_eq_getElem h];simp only[List.drop_eq_getElem_cons h,List.take_succ_cons]
  .rw[Nat.add_zero,List.getElem?_eq_none (by omega)]
   simp only[List.drop_eq_nil_of_le (by omega:x.length<=a),List.drop_eq_nil_of_le (by omega:x.length<=a+1),List.take_nil]
theorem aU9(n d:Nat)(o:Option Int):(match o with|none=>(d:Int)|some i=>if (1:Int)>0 then max 0 (min (if i<0 then i+(n:Int) else i) (n:Int)) else max (-1) (min (if i<0 then i+(n:Int) else i) ((n:Int)-1)))=((sIx n d o:Nat):Int):=by
 cases o with
 |none=>rfl
 |some i=>
  show (if (1:Int)>0 then _ else _)=(((if i<0 then (i+(n:Int)).toNat else min i.toNat n):Nat):Int)
  rw[if_pos (by decide)]
  by_cases h:i<0
  .rw[if_pos h,if_pos h];omega
  .rw[if_neg h,if_neg h];omega
theorem aZk(lo hi:Option Int)(n:Nat):Builtin.Str.strSliceIndices lo hi 1 n=(List.range (sIx n n hi-sIx n 0 lo)).map (sIx n 0 lo + ·):=by
 unfold Builtin.Str.strSliceIndices;simp only[show (1:Int)>0 by decide,if_true]
 have e1:=aU9 n 0 lo;have e2:=aU9 n n hi;simp only[show (1:Int)>0 by decide,if_true]at e1 e2
 rw[show ((0:Nat):Int)=0 from rfl]at e1
 refine Eq.trans (congrArg (λz=>sliceRange z _ 1) (show _=((sIx n 0 lo:Nat):Int) from e1)) (Eq.trans (congrArg (λz=>sliceRange _ z 1) (show _=((sIx n n hi:Nat):Int) from e2)) ?_)
 unfold sliceRange;simp only[show (1:Int)>0 by decide,if_true]
 have hc:(if ((sIx n 0 lo:Nat):Int)<((sIx n n hi:Nat):Int) then (((sIx n n hi:Nat):Int)-((sIx n 0 lo:Nat):Int)+1-1)/1 else 0).toNat=sIx n n hi-sIx n 0 lo:=by
  by_cases h:((sIx n 0 lo:Nat):Int)<((sIx n n hi:Nat):Int)
  .rw[if_pos h,Int.ediv_one];omega
  .rw[if_neg h];omega
 rw[hc];refine List.map_congr_left λk _=>?_
 omega
theorem bCu(n d:Nat)(hd:d<=n)(o:Option Int):sIx n d o<=n:=by
 cases o with
 |none=>exact hd
 |some v=>
  show (if v<0 then (v+(n:Int)).toNat else min v.toNat n)<=n
  by_cases hv:v<0
  .rw[if_pos hv];omega
  .rw[if_neg hv];omega
theorem aWa(x:List Nat)(lo hi:Option Int):Txt.slice ⟨x.toArray⟩ lo hi=⟨(cut x lo hi).toArray⟩:=by
 unfold Txt.slice cut;rw[str_len,aZk,length_map,length_range];have h1:=bCu x.length x.length (Nat.le_refl _) hi
 by_cases h:sIx x.length x.length hi-sIx x.length 0 lo=x.length
 .have e0:sIx x.length 0 lo=0\/x.length=0:=by omega
  rw[if_pos (by simp[h]),h]
  rcases e0 with e0|e0
  .rw[e0,drop_zero,List.take_length]
  .rw[List.length_eq_zero_iff.mp e0];simp
 .rw[if_neg (by simp[h])]
  have e:(λ(i:Nat)=>(⟨x.toArray⟩:Str).cps[i]?)=λi=>x[i]?:=by funext i;simp
  rw[e,aPj]
def bKw:V->Option Int->Option Int->Hp->VK->Prop:=λx lo hi H Q=>∃z:List Nat,x=.str ⟨z.toArray⟩/\z.length<=sizeLine/\Q (.str ⟨(cut z lo hi).toArray⟩) H
theorem bGq:SlR X bKw:=by
 intro pins s σ H x v vl vu lo hi sl Q I rx hs pl pu h;obtain⟨z,rfl,hz,q⟩:=h;obtain⟨t,rfl⟩:=rx;refine⟨"str",_,PySem.F.slot_str_getitem.lookup,typeIs_str _ _ _,?_⟩;have hl:(Txt.slice ⟨z.toArray⟩ lo hi).length<=sizeLine:=Nat.le_trans (Txt.slice_le _ _ _) (by rw[str_len];exact hz)
 have fin:∀t' k,EP X pins σ Q (.str (Txt.slice ⟨z.toArray⟩ lo hi) t') {s with toks:=k}:=λt' k=>⟨.str ⟨(cut z lo hi).toArray⟩,H,I.tok k,⟨t',by rw[aWa]⟩,q⟩
 cases pl with
 |none=>
  cases pu with
  |none=>exact wpAny_getItem_str_slice (l:=none) (u:=none) (st:=none) hs rfl (post_val_or_str ⟨hl,fin⟩)
  |int j uj=>exact wpAny_getItem_str_slice (l:=none) (u:=some (j,uj)) (st:=none) hs rfl (post_val_or_str ⟨hl,fin⟩)
 |int i ui=>
  cases pu with
  |none=>exact wpAny_getItem_str_slice (l:=some (i,ui)) (u:=none) (st:=none) hs rfl (post_val_or_str ⟨hl,fin⟩)
  |int j uj=>exact wpAny_getItem_str_slice (l:=some (i,ui)) (u:=some (j,uj)) (st:=none) hs rfl (post_val_or_str ⟨hl,fin⟩)
theorem aZl{K:Frag} (lo hi:Option Int) (r:bM K H ds vs):bM K H (cut ds lo hi) (aVa vs lo hi):=by
 unfold cut aVa;rw[r.length];exact(r.drop _).take _
theorem bGr{lo hi:Option Expr}{l u:ExO} (ha:PE X a (tP X.K B f)) (hl:PO X lo (tO X.K B l)) (hu:PO X hi (tO X.K B u)):PE X (.Subscript a (.Slice lo hi none p2) pos) (tI X.K B (eSl f l u)):=by
 refine cX (aXf (bB8.or bGq) ha hl hu) ?_
 rintro σ H Q ⟨A,st,d,rs,hd,q⟩;obtain⟨x,hx,h2⟩:=R.ok_of hd;obtain⟨l',hl',h3⟩:=R.ok_of h2;obtain⟨u',hu',h4⟩:=R.ok_of h3;refine⟨A,st,x,rs,hx,λv H1 s1 r1=>⟨A,st,l',rs.mono s1,hl',λH2 s2=>⟨A,st,u',rs.mono (s1.trans s2),hu',λH3 s3=>?_⟩⟩⟩
 have r3:=r1.mono (s2.trans s3);cases x<;>first|(cases h4;done)|skip
 .obtain⟨c,h5⟩:=aW h4;cases h5;exact .inr ⟨_,r3.str,lim c,q _ H3 (s1.trans (s2.trans s3)) (eU.mpr rfl)⟩
 .cases h4;obtain⟨p,vs,e,h6,r6⟩:=r3.lst;refine .inl ⟨p,vs,e,h6,λn hn=>q _ _ (s1.trans (s2.trans (s3.trans (cH hn)))) ?_⟩
  exact jM (rs.own.mono (s1.trans (s2.trans s3))) hn (aZl _ _ r6)
end
def clo(cells:List (Str×Addr)):List (Str×NameKind)->List (Str×Addr)->List (Str×Addr)
 |[],acc=>acc
 |(n,k)::r,acc=>if k == .free then clo cells r ((n,(cells.lookup n).getD 0)::acc) else clo cells r acc
theorem aDm{env:Env}:∀(names:List (Str×NameKind)) (acc:List (Str×Addr)),(∀y∈names,y.2=.free->∃c,env.cells.lookup y.1=some c)->
  (forIn names acc λx cs=>if x.2 == .free then (do let c <- cellOf env x.1;pure (ForInStep.yield ((x.1,c)::cs))) else pure (ForInStep.yield cs):Sem (List (Str×Addr)))=pure (clo env.cells names acc)
 |[],acc,_=>by rw[forIn_nil];rfl
 |(n,k)::r,acc,h=>by
  rw[forIn_cons];unfold clo
  by_cases hk:k=.free
  .subst hk;obtain⟨c,e⟩:=h (n,.free) mem_cons_self rfl;have e2:cellOf env n=pure c:=by unfold cellOf;rw[e]
   simp only[beq_self_eq_true,if_true,e2,e,getD_some];show (forIn r ((n,c)::acc) _:Sem (List (Str×Addr)))=_;exact aDm r _ λy hy=>h y (mem_cons_of_mem _ hy)
  .have hb:(k==NameKind.free)=false:=by simpa using hk
   simp only[hb,Bool.false_eq_true,if_false];show (forIn r acc _:Sem (List (Str×Addr)))=_;exact aDm r _ λy hy=>h y (mem_cons_of_mem _ hy)
theorem aKl{scope:Scope} (h:∀y∈scope.names,y.2=.free->∃c,env.cells.lookup y.1=some c):closureFor scope env=pure (clo env.cells scope.names []):=by
 have q:=aDm (env:=env) scope.names [] h;unfold closureFor;rw[<-q];simp only[pure_bind,bind_pure]
theorem aNe{cells:List (Str×Addr)}:∀(names:List (Str×NameKind)) (acc:List (Str×Addr)) (x:Str) (c:Addr),(∀y∈names,y.2=.free->∃c,cells.lookup y.1=some c)->(x,c)∈clo cells names acc->((x,NameKind.free)∈names/\cells.lookup x=some c)\/(x,c)∈acc
 |[],acc,x,c,_,h=>.inr h
 |(n,k)::r,acc,x,c,hn,h=>by
  unfold clo at h;have hr:∀y∈r,y.2=.free->∃c,cells.lookup y.1=some c:=λy hy=>hn y (mem_cons_of_mem _ hy)
  by_cases hk:k=.free
  .subst hk;rw[if_pos (by simp)]at h
   obtain⟨c',e⟩:=hn (n,.free) mem_cons_self rfl;rcases aNe r _ x c hr h with ⟨h1,h2⟩|h1
   .exact .inl ⟨mem_cons_of_mem _ h1,h2⟩
   .rcases List.mem_cons.mp h1 with h1|h1
    .cases h1;refine .inl ⟨mem_cons_self,?_⟩;have e':cells.lookup n=some c':=e;rw[e'];rfl
    .exact .inr h1
  .rw[if_neg (by simpa using hk)]at h
   rcases aNe r _ x c hr h with ⟨h1,h2⟩|h1
   .exact .inl ⟨mem_cons_of_mem _ h1,h2⟩
   .exact .inr h1
theorem aNf{cells:List (Str×Addr)}:∀(names:List (Str×NameKind)) (acc:List (Str×Addr)) (x:Str),((x,NameKind.free)∈names\/∃c,(x,c)∈acc)->∃c,(x,c)∈clo cells names acc
 |[],acc,x,h=>by
  rcases h with h|h
  .cases h
  .exact h
 |(n,k)::r,acc,x,h=>by
  unfold clo
  by_cases hk:k=.free
  .subst hk;rw[if_pos (by simp)]
   refine aNf r _ x ?_
   rcases h with h|⟨c,h⟩
   .rcases List.mem_cons.mp h with h|h
    .cases h;exact .inr ⟨_,mem_cons_self⟩
    .exact .inl h
   .exact .inr ⟨c,mem_cons_of_mem _ h⟩
  .rw[if_neg (by simpa using hk)]
   refine aNf r _ x ?_
   rcases h with h|h
   .rcases List.mem_cons.mp h with h|h
    .cases h;exact absurd rfl hk
    .exact .inl h
   .exact .inr h
theorem wF{α:Type}:∀{l:List (Str×α)} {x:Str} {c:α},(x,c)∈l->∃c',l.lookup x=some c'
 |(n,v)::r,x,c,h=>by
  rw[lookup_cons];cases hb:x==n with
  |true=>exact⟨v,rfl⟩
  |false=>
   rcases List.mem_cons.mp h with h|h
   .cases h;simp at hb
   .exact wF h
theorem pC{env:Env}:∀(names:List (Str×NameKind)) (x:Str),(names.map λ(n,k)=>if (k==NameKind.free&&env.scope.kind == .function&&env.kindOf n==some .cell) then (n,NameKind.cell) else (n,k)).lookup x =
  (names.lookup x).map λk=>if (k==NameKind.free&&env.scope.kind == .function&&env.kindOf x==some .cell) then NameKind.cell else k
 |[],_=>rfl
 |(n,k)::r,x=>by
  have ih:=@pC env r x;rw[map_cons,lookup_cons];show List.lookup x ((if (k==NameKind.free&&env.scope.kind == .function&&env.kindOf n==some .cell)=true then (n,NameKind.cell) else (n,k))::_)=_
  cases hx:x==n with
  |true=>
   have e:x=n:=beq_iff_eq.mp hx;subst e
   by_cases hc:(k==NameKind.free&&env.scope.kind == .function&&env.kindOf x==some .cell)=true
   .rw[if_pos hc,lookup_cons,lookup_cons,hx];simp only[map_some];rw[if_pos hc]
   .rw[if_neg hc,lookup_cons,lookup_cons,hx];simp only[map_some];rw[if_neg hc]
  |false=>
   by_cases hc:(k==NameKind.free&&env.scope.kind == .function&&env.kindOf n==some .cell)=true
   .rw[if_pos hc,lookup_cons,lookup_cons,hx];exact ih
   .rw[if_neg hc,lookup_cons,lookup_cons,hx];exact ih
theorem qY:∀(names:List (Str×NameKind)) (n:Nat) (acc:List (Str×Addr)),cellsFrom n names acc=cellsFrom n names []++acc
 |[],_,_=>rfl
 |(x,k)::r,n,acc=>by
  unfold cellsFrom;split
  .rw[qY r (n+1) ((x,n)::acc),qY r (n+1) [(x,n)],List.append_assoc];rfl
  .exact qY r n acc
theorem yM:∀(names:List (Str×NameKind)) (n:Nat) (acc:List (Str×Addr)) (x:Str) (c:Addr),(x,c)∈cellsFrom n names acc->(x,c)∈acc\/(x,NameKind.cell)∈names
 |[],_,_,_,_,h=>.inl h
 |(y,k)::r,n,acc,x,c,h=>by
  unfold cellsFrom at h;split at h
  .rename_i hk;rcases yM r _ _ x c h with z|z
   .rcases List.mem_cons.mp z with z|z
    .cases z;exact .inr (by rw[show k=NameKind.cell from by simpa using hk];exact mem_cons_self)
    .exact .inl z
   .exact .inr (mem_cons_of_mem _ z)
  .rcases yM r _ _ x c h with z|z
   .exact .inl z
   .exact .inr (mem_cons_of_mem _ z)
theorem qZ:∀(names:List (Str×NameKind)) (n:Nat) (acc:List (Str×Addr)) (x:Str),((x,NameKind.cell)∈names\/∃c,(x,c)∈acc)->∃c,(x,c)∈cellsFrom n names acc
 |[],_,_,x,h=>h.elim (λz=>nomatch z) id
 |(y,k)::r,n,acc,x,h=>by
  unfold cellsFrom;split
  .refine qZ r _ _ x ?_
   rcases h with h|⟨c,h⟩
   .rcases List.mem_cons.mp h with h|h
    .cases h;exact .inr ⟨n,mem_cons_self⟩
    .exact .inl h
   .exact .inr ⟨c,mem_cons_of_mem _ h⟩
  .rename_i hk;refine qZ r _ _ x ?_
   rcases h with h|h
   .rcases List.mem_cons.mp h with h|h
    .cases h;exact absurd rfl hk
    .exact .inl h
   .exact .inr h
theorem aJr{α:Type}(x:Str):∀(l r:List (Str×α)),(l++r).lookup x=(l.lookup x).or (r.lookup x)
 |[],r=>by simp
 |(y,v)::l,r=>by
  rw[cons_append,lookup_cons,lookup_cons];cases hb:x==y with
  |true=>rfl
  |false=>exact aJr x l r
theorem rA{α:Type}:∀{l:List (Str×α)} {x:Str} {v:α},(l.map (·.1)).Nodup->(x,v)∈l->l.lookup x=some v
 |(y,w)::l,x,v,nd,h=>by
  rw[map_cons,List.nodup_cons]at nd;rw[lookup_cons];rcases List.mem_cons.mp h with h|h
  .cases h;simp
  .have hne:(x==y)=false:=by
    rw[beq_eq_false_iff_ne];intro z;exact nd.1 (List.mem_map.mpr ⟨(x,v),h,z⟩)
   rw[hne];exact rA nd.2 h
theorem aWb{A:Around} {s:Shared} {scope:Scope} {gl:Addr} {cl:List (Str×Addr)} {Q:Env->Shared->Prop}
  (hQ:∀h',h'.Ns s.heap.objs.size (λ_=>none)->(∀b o,s.heap.get? b=some o->h'.get? b=some o)->CellsOk h' (s.heap.objs.size+1) (cellsFrom (s.heap.objs.size+1) scope.names [])->
   Q {scope:=scope,locals:=s.heap.objs.size,globals:=gl,cells:=cellsFrom (s.heap.objs.size+1) scope.names cl,qual:=qual,func:=none,code:=env.code,frame:=env.frame,builtins:=env.builtins} {s with heap:=h'}) :
  wpAny M A (newFunctionEnv scope gl cl [] qual none .none (some env)) Q E s:=by
 simp only[newFunctionEnv,Option.isSome_some,if_true];refine wpAny_bind (wpAny_alloc (wpAny_bind (wpAny_layCells _ (λname kind cells=>by cases hkc:kind==NameKind.cell<;>simp[hkc]) _ _ _ _ ?_)))
 rw[forIn_nil];refine wpAny_bind (wpAny_pure (wpAny_pure ?_));have ok:=cellsFrom_ok scope.names (s.heap.push {cls:=.type "dict",data:=.dict #[]}) (s.heap.objs.size+1) [] ⟨λ_ _ hm=>(nomatch hm),List.Pairwise.nil⟩ (by rw[Heap.size_push];exact Nat.le_refl _)
 rw[Heap.size_push]at ok;have e:({s with heap:=s.heap.push {cls:=.type "dict",data:=.dict #[]} }:Shared).heap.objs.size=s.heap.objs.size+1:=Heap.size_push ..
 rw[e];exact hQ _ ((Heap.Ns.new s.heap (.type "dict")).keeps (pushCells_keeps _ _)) (λb o q=>pushCells_keeps _ _ b o (Heap.get?_push_of_some _ q)) ok
structure CScope(X:Cx)(scope:Scope)(is:List Nat):Prop where
 kind:scope.kind=.function
 nd:(scope.names.map (·.1)).Nodup
 free:∀x∈scope.names,x.2=.free->X.env.kindOf x.1=some .cell\/X.env.kindOf x.1=some .free
 own:∀(i:Nat) x,X.N[i]?=some x->(scope.names.lookup x=some .local\/scope.names.lookup x=some .cell)->i∈is
section
variable{X:Cx}{scope:Scope}{is:List Nat}
theorem CScope.names(S:CScope X scope is):∀x∈scope.names,x.2=.local->scope.names.lookup x.1=some .local:=λx hx e=>rA S.nd (by rw[<-e];exact hx)
def cQ(X:Cx)(scope:Scope)(C:Addr)(s₀:Shared)(H₀:Hp)(fp:List Addr):Cx:=
 {X with s₀:=s₀,H₀:=H₀,env:=compEnvC scope (cellsFrom (C+1) scope.names (clo X.env.cells scope.names [])) C X.env,outer:=X.stack,stack:=X.stack,ex:=fp,fn:=λx=>scope.names.lookup x==some .cell,pn:=[],xe:=λ_ _=>False,calm:=true}
theorem CScope.cells(S:CScope X scope is)(ok:X.Ok):∀y∈scope.names,y.2=.free->∃c,X.env.cells.lookup y.1=some c:=λy hy hf=>ok.has y.1 (S.free y hy hf)
theorem CScope.lk(S:CScope X scope is)(ok:X.Ok){n:Nat}{x:Str}{c:Addr}(h:(cellsFrom n scope.names (clo X.env.cells scope.names [])).lookup x=some c) :
  ((cellsFrom n scope.names []).lookup x=some c/\scope.names.lookup x=some .cell)\/(scope.names.lookup x=some .free/\X.env.cells.lookup x=some c):=by
 rw[qY,aJr]at h;cases e:(cellsFrom n scope.names []).lookup x with
 |some c'=>
  rw[e]at h;cases h;rcases yM _ _ _ _ _ (PySem.mem_of_lookup e) with z|z
  .cases z
  .exact .inl ⟨rfl,rA S.nd z⟩
 |none=>
  rw[e]at h;have h:(clo X.env.cells scope.names []).lookup x=some c:=h;rcases aNe scope.names [] x c (S.cells ok) (PySem.mem_of_lookup h) with ⟨h1,h2⟩|h2
  .exact .inr ⟨rA S.nd h1,h2⟩
  .cases h2
def aPk(is:List Nat)(σ:LSt):LSt:=is.foldl (λτ i=>τ.set i none) σ
theorem aPl(is:List Nat):∀σ:LSt,(aPk is σ).length=σ.length:=by
 induction is with
 |nil=>exact λ_=>rfl
 |cons i is ih=>intro σ;show (aPk is (σ.set i none)).length=_;rw[ih,length_set]
theorem aZm(is:List Nat):∀(σ:LSt)(j:Nat)(v:V),(aPk is σ)[j]?=some (some v)->σ[j]?=some (some v)/\j∉is:=by
 induction is with
 |nil=>exact λσ j v h=>⟨h,by simp⟩
 |cons i is ih=>
  intro σ j v h;obtain⟨h1,h2⟩:=ih (σ.set i none) j v h;rw[List.getElem?_set]at h1
  by_cases e:i=j
  .subst e;rw[if_pos rfl]at h1;split at h1<;>cases h1
  .rw[if_neg e]at h1;exact⟨h1,λz=>(List.mem_cons.mp z).elim (λz=>e z.symm) h2⟩
theorem aRz{s:Shared}{fp:List Addr} (S:CScope X scope is) (hc:X.calm=true) (I:Inv X pins σ H s) (hf:∀b∈fp,aDy X pins H b) (hlt:∀b∈fp,b<s.heap.objs.size)
  (hn:h'.Ns s.heap.objs.size λ_=>none) (hk:∀b o,s.heap.get? b=some o->h'.get? b=some o) (hcl:CellsOk h' (s.heap.objs.size+1) (cellsFrom (s.heap.objs.size+1) scope.names [])) :
  Inv (cQ X scope s.heap.objs.size s H fp) [] (aPk is σ) H {s with heap:=h',toks:=t'}:=by
 have lk:=@CScope.lk X scope is S I.ok (s.heap.objs.size+1);have nf:∀b∈fp,b≠s.heap.objs.size:=λb hb=>Nat.ne_of_lt (hlt b hb)
 have cellLt:∀x c,X.env.cells.lookup x=some c->c<s.heap.objs.size:=λx c e=>by
  obtain⟨v,q⟩:=I.cell x c e;exact q.lt
 have ownGe:∀x c,(cellsFrom (s.heap.objs.size+1) scope.names []).lookup x=some c->s.heap.objs.size+1<=c:=λx c e=>(hcl.empty x c (PySem.mem_of_lookup e)).2
 have has:∀x k,(k=.cell\/k=.free)->scope.names.lookup x=some k->∃c,(cellsFrom (s.heap.objs.size+1) scope.names (clo X.env.cells scope.names [])).lookup x=some c:=λx k hk e=>by
  have hm:=PySem.mem_of_lookup e;rcases hk with rfl|rfl
  .obtain⟨c,q⟩:=qZ scope.names (s.heap.objs.size+1) (clo X.env.cells scope.names []) x (.inl hm);exact wF q
  .obtain⟨c,q⟩:=qZ scope.names (s.heap.objs.size+1) (clo X.env.cells scope.names []) x (.inr (aNf (cells:=X.env.cells) scope.names [] x (.inl hm)));exact wF q
 have knd:∀x,(relabel scope X.env).names.lookup x=some .cell\/(relabel scope X.env).names.lookup x=some .free->scope.names.lookup x=some .cell\/scope.names.lookup x=some .free:=λx hx=>by
  unfold relabel at hx;rw[pC]at hx;cases e:scope.names.lookup x with
  |none=>rw[e]at hx;rcases hx with hx|hx<;>cases hx
  |some k=>
   rw[e]at hx;simp only[map_some]at hx
   by_cases hc:(k==NameKind.free&&X.env.scope.kind == .function&&X.env.kindOf x==some .cell)=true
   .simp only[and_eq_true,beq_iff_eq]at hc;exact .inr (by rw[hc.1.1])
   .rw[if_neg hc]at hx;exact hx
 refine⟨⟨I.ok.mod,?_,I.ok.glob,I.ok.blt,Nat.le_refl _,λx y c h1 h2=>?_,λx hx=>?_,λx c hfn e=>?_,λ_=>I.ok.hd hc,I.ok.frames,.inl rfl,λb hb=>⟨nf b hb,λx c e z=>?_⟩,I.bs,?_,λb o e hb=>?_,λb hb z=>?_,I.stack,I.stkFree⟩,
  rfl,I.bare,Un.kept hk,⟨_,hn,λi x v e1 e2 e3=>?_⟩,λx c e=>?_,I.hok.fresh (Nat.le_refl _),λx c e=>?_,(λp hp=>absurd (show p∈([]:List (Addr×Obj)) from hp) (by simp)),I.hok.kept hk,by rw[aPl];exact I.len⟩
 .show (relabel scope X.env).kind=.function;exact S.kind
 .rcases lk h1 with ⟨a1,_⟩|⟨_,a1⟩ <;> rcases lk h2 with ⟨a2,_⟩|⟨_,a2⟩
  .exact name_of_addr hcl.apart (PySem.mem_of_lookup a1) (PySem.mem_of_lookup a2)
  .exact absurd (Nat.lt_of_lt_of_le (cellLt y c a2) (Nat.le_of_succ_le (ownGe x c a1))) (Nat.lt_irrefl _)
  .exact absurd (Nat.lt_of_lt_of_le (cellLt x c a1) (Nat.le_of_succ_le (ownGe y c a2))) (Nat.lt_irrefl _)
  .exact I.ok.inj x y c a1 a2
 .rcases knd x hx with e|e
  .exact has x _ (.inl rfl) e
  .exact has x _ (.inr rfl) e
 .have hfn:scope.names.lookup x=some .cell:=beq_iff_eq.mp hfn;rcases lk e with ⟨a1,_⟩|⟨a1,_⟩
  .have:=ownGe x c a1;show s.heap.objs.size<=c;omega
  .rw[hfn]at a1;cases a1
 .rcases lk e with ⟨a1,_⟩|⟨_,a1⟩
  .have h2:=hlt b hb;rw[<-z]at h2;exact absurd (Nat.lt_of_lt_of_le h2 (Nat.le_of_succ_le (ownGe x c a1))) (Nat.lt_irrefl _)
  .exact(hf b hb).2.2.2.2.1 x c a1 z
 .exact Nat.le_trans I.ok.bsz I.sz
 .rcases (hf b hb).2.2.2.1 with z|z
  .exact I.ok.noex b o e z
  .exact absurd (Nat.lt_of_lt_of_le (Heap.lt_size e) (Nat.le_trans I.ok.bsz z)) (Nat.lt_irrefl _)
 .rcases List.mem_cons.mp (I.stkSub b z) with z|z
  .exact(hf b hb).2.1 z
  .exact(hf b hb).2.2.1 z
 .obtain⟨e2,hni⟩:=aZm is σ i v e2;have e3:(relabel scope X.env).names.lookup x=some .local\/(relabel scope X.env).names.lookup x=some .cell\/(relabel scope X.env).names.lookup x=some .free:=e3;have hfr:scope.names.lookup x=some .free:=by
   have e4:=e3;unfold relabel at e4;rw[pC]at e4;cases e:scope.names.lookup x with
   |none=>rw[e]at e4;rcases e4 with e4|e4|e4<;>cases e4
   |some k=>
    rw[e]at e4;simp only[map_some]at e4
    by_cases hc:(k==NameKind.free&&X.env.scope.kind == .function&&X.env.kindOf x==some .cell)=true
    .simp only[and_eq_true,beq_iff_eq]at hc;rw[hc.1.1]
    .rw[if_neg hc]at e4;rcases e4 with e4|e4|e4
     .exact absurd (S.own i x e1 (.inl (by rw[e,e4]))) hni
     .exact absurd (S.own i x e1 (.inr (by rw[e,e4]))) hni
     .exact e4
  have hrel:(relabel scope X.env).names.lookup x=some .cell\/(relabel scope X.env).names.lookup x=some .free:=by
   rcases e3 with e3|e3|e3
   .unfold relabel at e3;rw[pC,hfr]at e3;simp only[map_some]at e3;split at e3<;>cases e3
   .exact .inl e3
   .exact .inr e3
  have hvis:=S.free _ (PySem.mem_of_lookup hfr) rfl;obtain⟨m,hm,hl⟩:=I.loc;obtain⟨u,ru,lu⟩:=hl i x v e1 e2 (.inr hvis);refine⟨u,ru,.inr ⟨hrel,?_⟩⟩;rcases lu with ⟨k1,_⟩|⟨_,c,ec,zc⟩
  .have k1:X.env.kindOf x=some .local:=k1;rcases hvis with q|q<;>rw[k1]at q<;>cases q
  .obtain⟨c2,e5⟩:=has x _ (.inr rfl) hfr;rcases lk e5 with ⟨_,a1⟩|⟨_,a1⟩
   .rw[hfr]at a1;cases a1
   .rw[ec]at a1;cases a1;exact⟨c,e5,zc.keeps hk⟩
 .rcases lk e with ⟨a1,_⟩|⟨_,a1⟩
  .exact⟨_,(hcl.empty x c (PySem.mem_of_lookup a1)).1⟩
  .obtain⟨v,q⟩:=I.cell x c a1;exact⟨v,q.keeps hk⟩
 .rcases lk e with ⟨a1,_⟩|⟨_,a1⟩
  .exact I.hok.fresh (by have:=ownGe x c a1;omega)
  .exact I.freeC x c a1
end
theorem aJs(elt target iter c:Expr)(scope:Scope)(pos:Pos)(it acc:Value)(env:Env) :
  compTurn (.ListComp elt [⟨target,iter,[c],0⟩] scope pos) 0 it acc env=(standAt iter.pos >>= λ_=>pyNext it >>= λr=>match r with
   |none=>pure (.done .next)
   |some v=>letOwnedTupleGo target it v >>= λ_=>assign target env v >>= λ_=>isTrue c env (eval c env) >>= λok=>
    if ok=true then (eval elt env >>= λx=>call (.builtin "list.append") [acc,x] >>= λ_=>again (.compLoop (.ListComp elt [⟨target,iter,[c],0⟩] scope pos) 0 it acc env))
    else again (.compLoop (.ListComp elt [⟨target,iter,[c],0⟩] scope pos) 0 it acc env)):=by
 unfold compTurn;simp[forIn_cons,forIn_nil];rfl
theorem aHk(elt target iter:Expr)(scope:Scope)(pos:Pos)(it acc:Value)(env:Env) :
  compTurn (.ListComp elt [⟨target,iter,[],0⟩] scope pos) 0 it acc env=(standAt iter.pos >>= λ_=>pyNext it >>= λr=>match r with
   |none=>pure (.done .next)
   |some v=>letOwnedTupleGo target it v >>= λ_=>assign target env v >>= λ_=>
    (eval elt env >>= λx=>call (.builtin "list.append") [acc,x] >>= λ_=>again (.compLoop (.ListComp elt [⟨target,iter,[],0⟩] scope pos) 0 it acc env))):=by
 unfold compTurn;simp[forIn_nil];rfl
section
variable{X:Cx}{scope:Scope}{is:List Nat}{elt tg iter:Expr}{pos:Pos}{wi:TI}{g:TG}{te:TE}{tt:TT}
def tLC(is:List Nat)(wi:TI)(g:TG)(tt:TT)(te:TE):TE:=λσ H Q=>wi σ H λJ H1=>∀p,H1 p=none->∃W:Nat->Nat->LSt->List V->Hp->Prop,(∃m,W 0 m (aPk is σ) [] (upd H1 p (.lst [])))/\
 ∀i m τ vs H,W i m τ vs H->H p=some (.lst vs)/\((J.stop i H/\Q (.ref p) H)\/(J.go i H/\∀x H',J.yld i H x H'->g x τ H' λτ2 H2=>tt τ2 H2 λk H3=>
  if k=true then te τ2 H3 λy H4=>H4 p=some (.lst vs)/\vs.length<sizeLine/\∃m',m' < m/\W (i+1) m' τ2 (vs++[y]) (upd H4 p (.lst (vs++[y]))) else ∃m',m' < m/\W (i+1) m' τ2 vs H3))
theorem aHx{σ5:LSt}{H5:Hp}{s5:Shared}{fp:List Addr} (I:Inv X pins σ H s) (hf:∀b∈fp,aDy X pins H b) (hC:s.heap.objs.size<=C) (J:Inv (cQ X scope C s H fp) [] σ5 H5 s5)
  (hs:Heap.SameBut C s5.heap h'):Inv X pins σ H5 {s5 with heap:=h'}:=by
 have hfree:H5 C=none:=J.free;have ne:∀b o,s.heap.get? b=some o->b≠C:=λb o e z=>by
  have:=Heap.lt_size e;subst z;exact absurd (Nat.lt_of_lt_of_le this hC) (Nat.lt_irrefl _)
 have u:Un (frs X.stack) fp H H5 s.heap h':=⟨λb o e n hb hx=>hs.extBut b o (ne b o e) (J.base.keep b o e n hb hx),λb o e n hb hx=>by
   obtain⟨sl,q⟩:=J.base.slot b o e n hb hx;exact⟨sl,hs.extBut b _ (ne b o e) q⟩,J.base.free,λb o e hx=>by
   obtain⟨o',q⟩:=J.base.there b o e hx;exact⟨o',hs.extBut b _ (ne b o e) q⟩,J.base.tups,J.base.frzs,J.base.tbls⟩
 have hok:HOk X.prog X.w H5 h':=λb o e=>by
  refine(J.hok b o e).stay (λc v hc q=>hs.extBut c v ?_ q) (λ_ q=>q) λ_ _ q=>q
  rintro rfl;rcases hc with z|z
  .subst z;rw[hfree]at e;cases e
  .rw[hfree]at z;cases z
 obtain⟨hh,gg,dd,tt,os⟩:=s5;have hos:os=s.os:=J.os;subst hos;have fin:=I.call (h':=h') (g':=gg) (d':=dd) (t':=tt) (ch:=fp) u hok J.bare λb hb=>⟨(hf b hb).2.2.2.1,(hf b hb).2.1,(hf b hb).2.2.2.2.1,(hf b hb).2.2.2.2.2⟩
 exact fin
theorem aLv{p:Addr} {k:Sem α} {Q:α->Shared->Prop} (he:PE Y elt te) (hx:∀e s',Y.xe e s'->E e s') (I:Inv Y pins τ H s) (hw:te τ H λy H4=>H4 p=some (.lst vs)/\vs.length<sizeLine/\∀s',Inv Y pins τ (upd H4 p (.lst (vs++[y]))) s'->wpAny (model Y.prog Y.w) Y.A k Q E s') :
  wpAny (model Y.prog Y.w) Y.A (eval elt Y.env >>= λx=>call (.builtin "list.append") [.ref p,x] >>= λ_=>k) Q E s:=by
 refine wpAny_bind (wpAny_mono (he pins s τ H _ I hw) (λu s1 ⟨y,H4,I4,r4,hp,hz,q⟩=>?_) hx)
 obtain⟨z,its,n,r,hl,e⟩:=I4.lstM hp;refine wpAny_bind (call_meets PySem.F.slot_list_append ⟨_,e,rfl⟩ PySem.F.entry_list_append (PySem.F.args_list_append_2 _ _) (PySem.list_append p its.toArray n u (by rw[List.size_toArray];omega)) ⟨e,?_⟩)
 refine q _ (I4.lset (its':=its++[u]) (t':=s1.toks) hp e (by simp) (r.append (.cons r4 .nil)) ?_)
 rw[length_append,length_singleton];omega
end
theorem aWc{env:Env}{g:TG} {it p:Addr} {fp:List Addr} {tn:Nat->Heap->Prop} {J:It} {R:Result->Shared->Prop} {iterPos:Pos} {rest:Sem Fin}
  (T:Turn Y.prog Y.w Y.K tg J fp it tn) (hc:Y.calm=true) (hE:Y.xe=λ_ _=>False) (hg:PG Y tg g) (hq:(Code.compLoop e 0 (.ref it) (.ref p) Y.env).quiet=true)
  (hden:∀(s:Shared)(Q:Fin->Shared->Prop),wpAny (model Y.prog Y.w) Y.A (pyNext (.ref it) >>= λr=>match r with
    |none=>pure (.done .next)
    |some v=>letOwnedTupleGo tg (.ref it) v >>= λ_=>assign tg Y.env v >>= λ_=>rest) Q (λ_ _=>False) s->
   wpAny (model Y.prog Y.w) (Y.A.under (.compLoop e 0 (.ref it) (.ref p) Y.env)) ((model Y.prog Y.w).den (.compLoop e 0 (.ref it) (.ref p) Y.env)) Q (λ_ _=>False) s)
  (hrest:∀(τ:LSt)(H:Hp)(s:Shared) (pins:List (Addr×Obj)) (vs:List V) (N:Hp->List V->Prop) (Q:Fin->Shared->Prop),Inv Y pins τ H s->
   (tt τ H λk H3=>if k=true then te τ H3 λy H4=>H4 p=some (.lst vs)/\vs.length<sizeLine/\N (upd H4 p (.lst (vs++[y]))) (vs++[y]) else N H3 vs)->
   (∀s' H' ws,Inv Y pins τ H' s'->N H' ws->Q (.again (.compLoop e 0 (.ref it) (.ref p) Y.env)) s')->wpAny (model Y.prog Y.w) Y.A rest Q (λ_ _=>False) s)
  (W:Nat->Nat->LSt->List V->Hp->Prop) {Qe:Hp->Prop}
  (step:∀i m τ vs H,W i m τ vs H->H p=some (.lst vs)/\((J.stop i H/\Qe H)\/(J.go i H/\∀x H',J.yld i H x H'->g x τ H' λτ2 H2=>tt τ2 H2 λk H3=>
   if k=true then te τ2 H3 λy H4=>H4 p=some (.lst vs)/\vs.length<sizeLine/\∃m',m' < m/\W (i+1) m' τ2 (vs++[y]) (upd H4 p (.lst (vs++[y]))) else ∃m',m' < m/\W (i+1) m' τ2 vs H3)))
  (hR:∀τ H s,Inv Y [] τ H s->Qe H->R (.ok .next) s) (I:Inv Y [] τ H s) (st:tn i s.heap) (fr:∀b∈fp,aDy Y [] H b) (w:W i m τ vs H) :
  codeAny (model Y.prog Y.w) Y.A (.compLoop e 0 (.ref it) (.ref p) Y.env) R s:=by
 have stat:∀{H':Hp},(∀b∈fp,H' b=none)->∀b∈fp,aDy Y [] H' b:=λhn b hb=>⟨hn b hb,(fr b hb).2⟩
 refine codeAny_loop hq (λn s'=>∃i τ' vs' H',Inv Y [] τ' H' s'/\tn i s'.heap/\(∀b∈fp,H' b=none)/\W i n τ' vs' H') (λn s3 hI=>?_) m ⟨i,τ,vs,H,I,st,λb hb=>(fr b hb).1,w⟩
 obtain⟨i,τ3,vs3,H3,I3,st3,fr3,w3⟩:=hI;refine wpAny_mono (hden s3 _ ?_) (λ_ _ q=>q) (λ_ _ q=>q.elim)
 obtain⟨hp,hs⟩:=step i n τ3 vs3 H3 w3;rcases hs with ⟨stop,qe⟩|⟨go,hs⟩
 .refine wpAny_bind (thn (T.done Y rfl rfl rfl hc i [] s3 τ3 H3 (λ_ _=>False) I3 (stat fr3) st3 stop) λr s4 ⟨hr,I4⟩=>?_)
  subst hr;exact wpAny_pure (hR τ3 H3 s4 I4 qe)
 .refine wpAny_bind (thn (T.item Y rfl rfl rfl hc i [] s3 τ3 H3 (λ_ _=>False) I3 (stat fr3) st3 go) λr s4 ⟨u,hr,h4⟩=>?_)
  subst hr;refine wpAny_bind (thn h4 λ_ s5 ⟨x,H5,I5,r5,y5,st5,fr5⟩=>?_)
  have I5':=I5.pinned (stat fr5) (T.obj _ _ st5);have hg':=hg _ s5 τ3 H5 x u _ I5' r5 (hs x H5 y5);rw[hE]at hg';refine wpAny_bind (thn hg' λ_ s6 ⟨τ6,H6,I6,q6⟩=>?_)
  refine hrest τ6 H6 s6 _ vs3 (λH' ws=>∃m',m' < n/\W (i+1) m' τ6 ws H') _ I6 q6 λs7 H7 ws I7 ⟨m',hm,w7⟩=>?_
  refine⟨rfl,m',hm,i+1,τ6,ws,H7,I7.unpinned,T.keep _ _ _ st5 λb hb o e=>(I7.pin (b,o) (List.mem_append_right _ (List.mem_append_right _ (xT hb e)))).1,λb hb=>?_,w7⟩
  obtain⟨o,e,d⟩:=T.obj _ _ st5 b hb;exact(I7.pin (b,o) (List.mem_append_right _ (List.mem_append_right _ (xT hb e)))).2.1
section
variable{X:Cx}{scope:Scope}{is:List Nat}{elt tg iter c:Expr}{pos:Pos}{wi:TI}{g:TG}{te:TE}{tt:TT}
theorem xH{use:Option (Value->Sem Unit)} {ppos:Pos} {pins:List (Addr×Obj)} {s:Shared} {H:Hp} {Q:VK} {ifs:List Expr} {rest:Env->Value->Value->Sem Fin} (S:CScope X scope is) (hc:X.calm=true) (hi:L2.PI X tg iter wi) (hg:∀C s₀ H₀ fp,PG (cQ X scope C s₀ H₀ fp) tg g)
  (hquiet:∀it acc env,(Code.compLoop (.ListComp elt [⟨tg,iter,ifs,0⟩] scope pos) 0 it acc env).quiet=true)
  (hden:∀C s₀ H₀ fp it p (s:Shared) (Q:Fin->Shared->Prop),wpAny (model X.prog X.w) X.A (pyNext (.ref it) >>= λr=>match r with
    |none=>pure (.done .next)
    |some v=>letOwnedTupleGo tg (.ref it) v >>= λ_=>assign tg (cQ X scope C s₀ H₀ fp).env v >>= λ_=>rest (cQ X scope C s₀ H₀ fp).env (.ref it) (.ref p)) Q (λ_ _=>False) s->
   wpAny (model X.prog X.w) (X.A.under (.compLoop (.ListComp elt [⟨tg,iter,ifs,0⟩] scope pos) 0 (.ref it) (.ref p) (cQ X scope C s₀ H₀ fp).env)) ((model X.prog X.w).den (.compLoop (.ListComp elt [⟨tg,iter,ifs,0⟩] scope pos) 0 (.ref it) (.ref p) (cQ X scope C s₀ H₀ fp).env)) Q (λ_ _=>False) s)
  (hrest:∀C s₀ H₀ fp it p (τ:LSt) (H:Hp) (s:Shared) (pins:List (Addr×Obj)) (vs:List V) (N:Hp->List V->Prop) (Q:Fin->Shared->Prop),Inv (cQ X scope C s₀ H₀ fp) pins τ H s->
   (tt τ H λk H3=>if k=true then te τ H3 λy H4=>H4 p=some (.lst vs)/\vs.length<sizeLine/\N (upd H4 p (.lst (vs++[y]))) (vs++[y]) else N H3 vs)->
   (∀s' H' ws,Inv (cQ X scope C s₀ H₀ fp) pins τ H' s'->N H' ws->Q (.again (.compLoop (.ListComp elt [⟨tg,iter,ifs,0⟩] scope pos) 0 (.ref it) (.ref p) (cQ X scope C s₀ H₀ fp).env)) s')->
   wpAny (model X.prog X.w) X.A (rest (cQ X scope C s₀ H₀ fp).env (.ref it) (.ref p)) Q (λ_ _=>False) s)
  (hs:∀x,foldedSetIterable iter X.env x=pure x) (I:Inv X pins σ H s) (h:tLC is wi g tt te σ H Q)
  (hfin:∀C p H5 s5 m5 s3 H3 fp τ,s3.heap.objs.size<=C->Inv X pins σ H3 s3->(∀b∈fp,aDy X pins H3 b)->Inv (cQ X scope C s3 H3 fp) [] τ H5 s5->s5.heap.Ns C m5->Q (.ref p) H5->compPost (model X.prog X.w) X.A X.xe use Qf (.ref p) C (.ok .next) s5) :
  wpAny (model X.prog X.w) X.A (comprehension (.ListComp elt [⟨tg,iter,ifs,0⟩] scope pos) scope X.env ppos (newList []) false (eval iter X.env) use) Qf X.xe s:=by
 refine wpAny_comprehension_free (use:=use) rfl hs (aKl (S.cells I.ok)) S.kind S.names ?_
 refine thn (hi pins s σ H _ I h) λv s1 h1=>thn h1 λitv s2 h2=>?_
 obtain⟨it,fp,tn,J,H2,e,I2,T,st2,f2,hW⟩:=h2;subst e;refine wpAny_newObj_type (aWb λh₁ hns₁ hkp hcl₁=>?_)
 have I3:Inv X pins σ (upd H2 s2.heap.objs.size (.lst [])) {s2 with heap:=s2.heap.push {cls:=.type "list",data:=.seq ([]:List Value).toArray} }:=I2.lnew (t':=s2.toks) .nil (zero_le _)
 obtain⟨W,⟨m,w0⟩,step⟩:=hW s2.heap.objs.size I2.fresh;have hob:∀b∈fp,b<s2.heap.objs.size:=λb hb=>let ⟨o,e,_⟩:=T.obj 0 _ st2 b hb;Heap.lt_size e
 have hfp:∀b∈fp,aDy X pins (upd H2 s2.heap.objs.size (.lst [])) b:=λb hb=>⟨by rw[bQ (Nat.ne_of_lt (hob b hb))];exact(f2 b hb).1,(f2 b hb).2⟩
 have hk:∀b o,(s2.heap.push {cls:=.type "list",data:=.seq ([]:List Value).toArray}).get? b=some o->h₁.get? b=some o:=hkp;have Ic:=aRz (t':=s2.toks) S hc I3 hfp (λb hb=>Nat.lt_of_lt_of_le (hob b hb) (by rw[Heap.size_push];exact le_succ _)) hns₁ hk hcl₁
 have st4:tn 0 h₁:=T.keep 0 _ _ st2 λb _ o e=>hk b o (Heap.get?_push_of_some _ e)
 have fr4:∀b∈fp,aDy (cQ X scope _ _ _ fp) [] (upd H2 s2.heap.objs.size (.lst [])) b:=λb hb=>⟨(hfp b hb).1,(Ic.ok.exf b hb).1,Ic.ok.exfs b hb,.inl hb,λx c e=>(Ic.ok.exf b hb).2 x c e,λp hp=>absurd (show p∈([]:List (Addr×Obj)) from hp) (by simp)⟩
 have loop:=aWc (Y:=cQ X scope _ _ _ fp) (e:=.ListComp elt [⟨tg,iter,ifs,0⟩] scope pos) (env:=X.env) (iterPos:=pos) T rfl rfl (hg _ _ _ fp) (hquiet _ _ _) (hden _ _ _ fp it s2.heap.objs.size) (hrest _ _ _ fp it s2.heap.objs.size) W step
  (R:=compPost (model X.prog X.w) X.A X.xe use Qf (.ref s2.heap.objs.size) (s2.heap.push {cls:=.type "list",data:=.seq ([]:List Value).toArray}).objs.size) (λτ H5 s5 I5 q5=>by
   obtain⟨m5,hn5,_⟩:=I5.loc;exact hfin _ _ H5 s5 m5 _ _ fp τ (Nat.le_refl _) I3 hfp I5 hn5 q5) Ic st4 fr4 w0
 exact codeAny_compStart_list loop (T.self _ 0 _ _ _ st4 loop)
theorem uH{it acc:Value}:(Code.compLoop e 0 it acc env).quiet=true:=rfl
theorem bJe {it p : Addr}  {Q : Fin -> Shared -> Prop} (h : wpAny (model X.prog X.w) X.A (pyNext (.ref it) >>= fun r => match r with
        |none=>pure (.done .next)
        |some v=>letOwnedTupleGo tg (.ref it) v >>= λ_=>assign tg Y.env v >>= λ_=>(eval elt Y.env >>= λx=>call (.builtin "list.append") [.ref p,x] >>= λ_=>again (.compLoop (.ListComp elt [⟨tg,iter,[],0⟩] scope pos) 0 (.ref it) (.ref p) Y.env))) Q (λ_ _=>False) s) :
      wpAny (model X.prog X.w) (X.A.under (.compLoop (.ListComp elt [⟨tg,iter,[],0⟩] scope pos) 0 (.ref it) (.ref p) Y.env)) ((model X.prog X.w).den (.compLoop (.ListComp elt [⟨tg,iter,[],0⟩] scope pos) 0 (.ref it) (.ref p) Y.env)) Q (λ_ _=>False) s:=by
 show wpAny _ _ ((compTurn (.ListComp elt [⟨tg,iter,[],0⟩] scope pos) 0 (.ref it) (.ref p) Y.env).onRaise (λx=>do noteFrame x Y.env;theTreesLotGoes x)) _ _ s
 refine wpAny_noted ?_
 rw[aHk];exact wpAny_bind (wpAny_standAt (wpAny_mono h (λ_ _ q=>q) λ_ _ q=>q.elim))
theorem bGs {it p : Addr}  {Q : Fin -> Shared -> Prop} (h : wpAny (model X.prog X.w) X.A (pyNext (.ref it) >>= fun r => match r with
        |none=>pure (.done .next)
        |some v=>letOwnedTupleGo tg (.ref it) v >>= λ_=>assign tg Y.env v >>= λ_=>(isTrue c Y.env (eval c Y.env) >>= λok=>if ok=true then (eval elt Y.env >>= λx=>call (.builtin "list.append") [.ref p,x] >>= λ_=>again (.compLoop (.ListComp elt [⟨tg,iter,[c],0⟩] scope pos) 0 (.ref it) (.ref p) Y.env))
          else again (.compLoop (.ListComp elt [⟨tg,iter,[c],0⟩] scope pos) 0 (.ref it) (.ref p) Y.env))) Q (λ_ _=>False) s) :
      wpAny (model X.prog X.w) (X.A.under (.compLoop (.ListComp elt [⟨tg,iter,[c],0⟩] scope pos) 0 (.ref it) (.ref p) Y.env)) ((model X.prog X.w).den (.compLoop (.ListComp elt [⟨tg,iter,[c],0⟩] scope pos) 0 (.ref it) (.ref p) Y.env)) Q (λ_ _=>False) s:=by
 show wpAny _ _ ((compTurn (.ListComp elt [⟨tg,iter,[c],0⟩] scope pos) 0 (.ref it) (.ref p) Y.env).onRaise (λx=>do noteFrame x Y.env;theTreesLotGoes x)) _ _ s
 refine wpAny_noted ?_
 rw[aJs];exact wpAny_bind (wpAny_standAt (wpAny_mono h (λ_ _ q=>q) λ_ _ q=>q.elim))
def aNg:TT:=λ_ H Q=>Q true H
theorem bEj(hY:Y.xe=λ_ _=>False)(he:PE Y elt te){it p:Addr}(τ:LSt)(H:Hp)(s:Shared)(pins:List (Addr×Obj))(vs:List V)(N:Hp->List V->Prop)(Q:Fin->Shared->Prop)(I:Inv Y pins τ H s)
  (h:aNg τ H λk H3=>if k=true then te τ H3 λy H4=>H4 p=some (.lst vs)/\vs.length<sizeLine/\N (upd H4 p (.lst (vs++[y]))) (vs++[y]) else N H3 vs)
  (mono:∀(Q Q':VK),(∀v H',Q v H'->Q' v H')->te τ H Q->te τ H Q')
  (q:∀s' H' ws,Inv Y pins τ H' s'->N H' ws->Q (.again (.compLoop (.ListComp elt [⟨tg,iter,[],0⟩] scope pos) 0 (.ref it) (.ref p) Y.env)) s') :
  wpAny (model Y.prog Y.w) Y.A (eval elt Y.env >>= λx=>call (.builtin "list.append") [.ref p,x] >>= λ_=>again (.compLoop (.ListComp elt [⟨tg,iter,[],0⟩] scope pos) 0 (.ref it) (.ref p) Y.env)) Q (λ_ _=>False) s:=by
 have h':te τ H λy H4=>H4 p=some (.lst vs)/\vs.length<sizeLine/\N (upd H4 p (.lst (vs++[y]))) (vs++[y]):=h
 exact aLv he (by rw[hY];exact λ_ _ z=>z) I (mono _ _ (λy H4 ⟨a,b,n⟩=>⟨a,b,λs' I'=>wpAny_pure (q s' _ _ I' n)⟩) h')
end
section
variable{K:Frag} {st:PSt}
theorem bCv(is:List Nat):∀st:PSt,(clr is st).length=st.length:=by
 induction is with
 |nil=>exact λ_=>rfl
 |cons i is ih=>intro st;show (clr is (st.set i none)).length=_;rw[ih,length_set]
theorem aHy(is:List Nat):∀(st:PSt)(j:Nat)(x:Sl),(clr is st)[j]?=some (some x)->st[j]?=some (some x)/\j∉is:=by
 induction is with
 |nil=>exact λσ j v h=>⟨h,by simp⟩
 |cons i is ih=>
  intro σ j v h;obtain⟨h1,h2⟩:=ih (σ.set i none) j v h;rw[List.getElem?_set]at h1
  by_cases e:i=j
  .subst e;rw[if_pos rfl]at h1;split at h1<;>cases h1
  .rw[if_neg e]at h1;exact⟨h1,λz=>(List.mem_cons.mp z).elim (λz=>e z.symm) h2⟩
theorem aJt(is:List Nat):∀(σ:LSt)(j:Nat),j∉is->(aPk is σ)[j]?=σ[j]?:=by
 induction is with
 |nil=>exact λσ j _=>rfl
 |cons i is ih=>
  intro σ j h;show (aPk is (σ.set i none))[j]?=_;rw[ih _ j λz=>h (mem_cons_of_mem _ z),List.getElem?_set,if_neg (show ¬ i=j from λz=>h (z ▸ mem_cons_self))]
theorem RS.clr(is:List Nat)(r:RS K B A H st σ):RS K B A H (Pu.clr is st) (aPk is σ) where
 len:=by rw[bCv,aPl,r.len]
 own:=r.own
 dis:=r.dis
 val:=λi d e=>by
  obtain⟨e1,h⟩:=aHy is st i _ e;rw[aJt is σ i h];exact r.val i d e1
 lst:=λi kk xs e=>by
  obtain⟨e1,h⟩:=aHy is st i _ e;obtain⟨a,o,vs,e2,m,h1,ko,q,u⟩:=r.lst i kk xs e1;refine⟨a,o,vs,by rw[aJt is σ i h];exact e2,m,h1,ko,q,λj k' ys ej ej2=>?_⟩
  obtain⟨e3,h3⟩:=aHy is st j _ ej;rw[aJt is σ j h3]at ej2;exact u j k' ys e3 ej2
theorem RS.weaken(r:RS K B A H st σ)(hl:st'.length=st.length)(h:∀(j:Nat)(x:Sl),st'[j]?=some (some x)->st[j]?=some (some x)):RS K B A H st' σ where
 len:=hl.trans r.len
 own:=r.own
 dis:=r.dis
 val:=λi d e=>r.val i d (h i _ e)
 lst:=λi kk xs e=>by
  obtain⟨a,o,vs,e2,m,h1,ko,q,u⟩:=r.lst i kk xs (h i _ e);exact⟨a,o,vs,e2,m,h1,ko,q,λj k' ys ej ej2=>u j k' ys (h j _ ej) ej2⟩
theorem mem_mid{p b:Addr}:b∈A++p::B↔b=p\/b∈A++B:=by
 simp only[List.mem_append,mem_cons];constructor
 .rintro(h|h|h)
  .exact .inr (.inl h)
  .exact .inl h
  .exact .inr (.inr h)
 .rintro(h|h|h)
  .exact .inr (.inl h)
  .exact .inl h
  .exact .inr (.inr h)
theorem aPm{p:Addr}{o:HO}(hp:H p=none):bL (hide (A++B) H) (hide (A++p::B) (upd H p o)):=λb u q=>by
 have q1:=bN _ _ _ _ q;have hb:b∉A++B:=λz=>by rw[jU z]at q;cases q
 have ne:b≠p:=bI q1 hp;rw[cL (show b∉A++p::B from λz=>(mem_mid.mp z).elim ne hb),bQ ne]
 exact q1
theorem RS.grow(r:RS K B A H st σ){p:Addr} (hp:H p=none):RS K (p::B) A (upd H p (.lst vs)) st σ where
 len:=r.len
 own:=λa ha=>by
  by_cases e:a=p
  .subst e;rw[cD];rfl
  .rw[bQ e];exact r.own a ((mem_mid.mp ha).resolve_left e)
 dis:=λa ha hb=>by
  rcases List.mem_cons.mp hb with rfl|hb
  .exact r.own.free hp (List.mem_append_left _ ha)
  .exact r.dis a ha hb
 val:=λj d' e=>let ⟨u,e1,q⟩:=r.val j d' e;⟨u,e1,q.mono (aPm hp)⟩
 lst:=λj kk xs e=>by
  obtain⟨a,o,vs',e1,m,h1,ko,q,u⟩:=r.lst j kk xs e;exact⟨a,o,vs',e1,m,by rw[bQ (bI h1 hp)];exact h1,ko,q.mono (aPm hp),u⟩
theorem RS.put{p:Addr}(r:RS K (p::B) A H st σ):RS K (p::B) A (upd H p (.lst vs)) st σ:=by
 have hh:hide (A++p::B) (upd H p (.lst vs))=hide (A++p::B) H:=aB8 (mem_mid.mpr (.inl rfl));refine⟨r.len,λb hb=>?_,r.dis,λj d e=>by rw[hh];exact r.val j d e,λj kk xs e=>?_⟩
 .by_cases e:b=p
  .subst e;rw[cD];rfl
  .rw[bQ e];exact r.own b hb
 .obtain⟨a,o,vs',e1,m,h1,ko,q,u⟩:=r.lst j kk xs e;refine⟨a,o,vs',e1,m,?_,ko,by rw[hh];exact q,u⟩
  have:a≠p:=λz=>r.dis a m (z ▸ mem_cons_self)
  rw[bQ this];exact h1
end
def aJu(is:List Nat)(t:Tg):Prop:=∀d st s2,t d st=.ok s2->s2.length=st.length/\∀(j:Nat),j∉is->s2[j]?=st[j]?
theorem iR:aJu [i] (tgN i):=λd st s2 h=>by
 cases h;refine⟨length_set,λj hj=>?_⟩
 rw[List.getElem?_set,if_neg λz=>hj (by simp[z])]
def ndB:List Str->Bool
 |[]=>true
 |x::r=>!r.contains x&&ndB r
theorem bEk:∀{l:List Str},ndB l=true->l.Nodup
 |[],_=>.nil
 |x::r,h=>by
  unfold ndB at h;simp only[and_eq_true,not_eq_true']at h;exact List.nodup_cons.mpr ⟨λz=>by rw[List.contains_iff_mem.mpr z]at h;exact Bool.noConfusion h.1,bEk h.2⟩
def bJf(scope:Scope)(outer:List (Str×NameKind))(N:List Str)(is:List Nat):Bool:=
 scope.kind == .function&&ndB (scope.names.map (·.1))&&scope.names.all (λx=>x.2 !=.free||outer.lookup x.1==some .cell||outer.lookup x.1==some .free) &&
  (List.range N.length).all λi=>(scope.names.lookup (N.getD i "") !=some .local&&scope.names.lookup (N.getD i "") !=some .cell)||is.contains i
theorem CScope.of{is:List Nat}(h:bJf scope X.env.scope.names X.N is=true):CScope X scope is:=by
 unfold bJf at h;simp only[and_eq_true,List.all_eq_true]at h;obtain⟨⟨⟨h1,h0⟩,h2⟩,h3⟩:=h;refine⟨by simpa using h1,bEk h0,λx hx hf=>?_,λi x e hl=>?_⟩
 .have:=h2 x hx;simp only[or_eq_true,bne_iff_ne,ne_eq,beq_iff_eq]at this;rcases this with (z|z)|z
  .exact absurd hf z
  .exact .inl z
  .exact .inr z
 .have hi:i<X.N.length:=(List.getElem?_eq_some_iff.mp e).1;have:=h3 i (List.mem_range.mpr hi);rw[getD_eq_getElem?_getD,e]at this;simp only[getD_some,or_eq_true,and_eq_true,bne_iff_ne,ne_eq]at this;rcases this with ⟨z1,z2⟩|z
  .rcases hl with hl|hl
   .exact absurd hl z1
   .exact absurd hl z2
  .simpa using z
theorem bCw{K:Frag} (Q Q':VK) (m:∀v H',Q v H'->Q' v H') (h:tI K B f τ H Q):tI K B f τ H Q':=
 let ⟨A,st,d,rs,hd,q⟩:=h;⟨A,st,d,rs,hd,λv H' s r=>m v H' (q v H' s r)⟩
def tIx(K:Frag)(f:Ex):TE:=λτ H Q=>∃B,tI K B f τ H Q
def tTx(K:Frag)(f:Ex):TT:=λτ H Q=>∃B,tT K B f τ H Q
def tGx(K:Frag)(t:Tg):TG:=λv τ H Q=>∃B,tG K B t v τ H Q
theorem aZn(h:∀B,PE X e (tI X.K B f)):PE X e (tIx X.K f):=λpins s σ H Q I ⟨B,q⟩=>h B pins s σ H Q I q
theorem bGt(h:∀B,PT X e (tT X.K B f)):PT X e (tTx X.K f):=λpins s σ H Q I ⟨B,q⟩=>h B pins s σ H Q I q
theorem aZo{t:Tg}(h:∀B,PG X e (tG X.K B t)):PG X e (tGx X.K t):=λpins s σ H v u Q I r ⟨B,q⟩=>h B pins s σ H v u Q I r q
theorem aB9{K:Frag} (Q Q':VK) (m:∀v H',Q v H'->Q' v H') (h:tIx K f τ H Q):tIx K f τ H Q':=let ⟨B,q⟩:=h;⟨B,bCw Q Q' m q⟩
theorem aPn{K:Frag} {is:List Nat} {t:Tg} {c:Ex} {H:Hp} (hsub:aJu is t)
  (htt:∀τ H Q,tTx K c τ H Q->tt τ H Q) {st:PSt} (rs:RS K B A H st σ) (hx:it st=.ok xs) (hl:xs.length<=big) (hy:gU t c f (clr is st) xs=.ok ys) {Q:VK}
  (q:∀p vs H1 H',bL H H1->H1 p=none->bL H1 H'->H' p=some (.lst vs)->bM K (hide (A++p::B) H') ys vs->Q (.ref p) H'):tLC is (tIt K B it) (tGx K t) tt (tIx K f) σ H Q:=by
 refine⟨A,st,xs,rs,hx,λJ H1 s1 ito p hp=>?_⟩
 have rs1:=rs.mono s1;refine⟨λi m τ vs H'=>m=xs.length-i/\i<=xs.length/\vs.length<=i/\H' p=some (.lst vs)/\bL H1 H'/\RS K (p::B) A H' (clr is st) τ/\
   ∃ds rest,bM K (hide (A++p::B) H') ds vs/\gU t c f (clr is st) (xs.drop i)=.ok rest/\ds++rest=ys,⟨xs.length,by simp,zero_le _,zero_le _,cD,cH hp,(rs1.clr is).grow hp,[],ys,.nil,by rw[drop_zero];exact hy,rfl⟩,?_⟩
 rintro i m τ vs H' ⟨rfl,hi,hvl,hpv,s2,rs2,ds,rest,rds,hr,hcat⟩;refine⟨hpv,?_⟩;have mv:∀a,a∈(p::A)++B↔a∈A++p::B:=λa=>by
  rw[mem_mid];exact mem_cons
 have le:Le A H1 (p::A) H':=λb u z=>by
  have z1:=bN _ _ _ _ z;have hb:b∉A:=λw=>by rw[jU w]at z;cases z
  have ne:b≠p:=bI z1 hp;rw[cL (show b∉p::A from λw=>(List.mem_cons.mp w).elim ne hb)]
  exact s2 b u z1
 obtain⟨i1,i2⟩:=ito (p::A) H' le (λa ha=>rs2.own a ((mv a).mp ha)) i
 by_cases hlt:i<xs.length
 .have hd':xs[i]?=some xs[i]:=List.getElem?_eq_getElem hlt;obtain⟨go,yl⟩:=i1 _ hd';rw[List.drop_eq_getElem_cons hlt]at hr;obtain⟨st2,hst2,h5⟩:=R.ok_of hr;obtain⟨cb,hcb,h6⟩:=R.ok_of h5;obtain⟨k,rfl,h7⟩:=vV h6;refine .inr ⟨go,λx H2 y=>?_⟩
  obtain⟨sm3,rx⟩:=yl x H2 y;have hpv:=sm3 _ _ hpv;have s2:=s2.trans sm3;have rs2:=rs2.mono sm3;have rds:=rds.mono (bL.hide sm3);have rx':Rep K (hide (A++p::B) H2) xs[i] x:=rx.mono (mC λa ha=>(mv a).mpr ha)
  obtain⟨sl,sg⟩:=hsub _ _ _ hst2;have back:∀(j:Nat)(z:Sl),(clr is st)[j]?=some (some z)->st2[j]?=some (some z):=λj z ez=>by rw[sg j (aHy is st j z ez).2];exact ez
  refine⟨p::B,A,clr is st,xs[i],st2,rs2,rx',hst2,λτ2 rs3=>htt _ _ _ ⟨p::B,A,st2,k,rs3,hcb,λH3 s3=>?_⟩⟩
  cases k with
  |true=>
   obtain⟨y',hy',h8⟩:=R.ok_of h7;obtain⟨rest',hrest',h9⟩:=R.ok_of h8;cases h9;refine⟨p::B,A,st2,y',rs3.mono s3,hy',λv H4 s4 r4=>⟨s4 _ _ (s3 _ _ hpv),?_,xs.length-(i+1),by omega,rfl,hlt,by rw[length_append,length_singleton];omega,cD,?_,?_,ds++[y'],rest',?_,hrest',by rw[List.append_assoc];exact hcat⟩⟩
   .have:sizeLine=16777216:=by decide
    have hbg:=rR;omega
   .exact λb u z=>by rw[bQ (bI z hp)];exact s4 _ _ (s3 _ _ (s2 b u z))
   .exact(((rs3.mono s3).mono s4).weaken (by rw[sl]) back).put
   .rw[aB8 (mem_mid.mpr (.inl rfl))];exact(rds.mono (bL.hide (s3.trans s4))).append (.cons r4 .nil)
  |false=>exact⟨xs.length-(i+1),by omega,rfl,hlt,by omega,s3 _ _ hpv,s2.trans s3,(rs3.mono s3).weaken (by rw[sl]) back,ds,rest,rds.mono (bL.hide s3),h7,hcat⟩
 .have e:i=xs.length:=by omega
  subst e;rw[List.drop_length]at hr;cases hr;rw[append_nil]at hcat;subst hcat;exact .inl ⟨i2 (Nat.le_refl _),q p vs H1 H' s1 hp s2 hpv rds⟩
section
variable {iter c:Expr} {t:Tg} {u:Ex}
theorem aZp(hY:Y.xe=λ_ _=>False)(he:PE Y elt te)(ht:PT Y c tt){it p:Addr}(τ:LSt)(H:Hp)(s:Shared)(pins:List (Addr×Obj))(vs:List V)(N:Hp->List V->Prop)(Q:Fin->Shared->Prop)(I:Inv Y pins τ H s)
  (h:tt τ H λk H3=>if k=true then te τ H3 λy H4=>H4 p=some (.lst vs)/\vs.length<sizeLine/\N (upd H4 p (.lst (vs++[y]))) (vs++[y]) else N H3 vs)
  (mono:∀H (Q Q':VK),(∀v H',Q v H'->Q' v H')->te τ H Q->te τ H Q')
  (q:∀s' H' ws,Inv Y pins τ H' s'->N H' ws->Q (.again (.compLoop (.ListComp elt [⟨tg,iter,[c],0⟩] scope pos) 0 (.ref it) (.ref p) Y.env)) s') :
  wpAny (model Y.prog Y.w) Y.A (isTrue c Y.env (eval c Y.env) >>= fun ok => if ok = true then (eval elt Y.env >>= fun x => call (.builtin "list.append") [.ref p, x] >>= fun _ => again (.compLoop (.ListComp elt [⟨tg, iter, [c], 0⟩] scope pos) 0 (.ref it) (.ref p) Y.env))
        else again (.compLoop (.ListComp elt [⟨tg,iter,[c],0⟩] scope pos) 0 (.ref it) (.ref p) Y.env)) Q (λ_ _=>False) s:=by
 have ht':=ht pins s τ H _ I h;rw[hY]at ht';refine wpAny_bind (thn ht' λk s1 ⟨H1,I1,q1⟩=>?_)
 cases k with
 |true=>
  rw[if_pos rfl];have q1:te τ H1 λy H4=>H4 p=some (.lst vs)/\vs.length<sizeLine/\N (upd H4 p (.lst (vs++[y]))) (vs++[y]):=q1
  exact aLv he (by rw[hY];exact λ_ _ z=>z) I1 (mono _ _ _ (λy H4 ⟨a,b,n⟩=>⟨a,b,λs' I'=>wpAny_pure (q s' _ _ I' n)⟩) q1)
 |false=>
  rw[if_neg Bool.false_ne_true];exact wpAny_pure (q s1 H1 vs I1 q1)
theorem aNh{Q:VK}{st:PSt} {p:Addr} {H':Hp} (rs:RS X.K B A H st σ) (q:∀v H',bL H H'->Rep X.K (hide (A++B) H') (.lst ys) v->Q v H') (s1:bL H H1) (hp:H1 p=none) (s2:bL H1 H')
  (hv:H' p=some (.lst vs)) (r:bM X.K (hide (A++p::B) H') ys vs):Q (.ref p) H':=
 q _ H' (s1.trans s2) (iM.mpr ⟨p,vs,rfl,SqL.of (by rw[cL ((rs.own.mono s1).free hp)];exact hv),r.mono (mC λa ha=>mem_mid.mpr (.inr ha))⟩)
theorem qK(is:List Nat)(hsub:aJu is t)(S:CScope X scope is)(hi:L2.PI X tg iter (tIt X.K B it))(hg:∀(B:List Addr)(C:Addr)(s₀:Shared)(H₀:Hp)(fp:List Addr),PG (cQ X scope C s₀ H₀ fp) tg (tG X.K B t))
  (he:∀(B:List Addr)(C:Addr)(s₀:Shared)(H₀:Hp)(fp:List Addr),PE (cQ X scope C s₀ H₀ fp) elt (tI X.K B f)) (hc:X.calm=true) (hs:∀x,foldedSetIterable iter X.env x=pure x:=by intro _;rfl) :
  PE X (.ListComp elt [⟨tg,iter,[],0⟩] scope pos) (tI X.K B (cY is t it dD f)):=by
 intro pins s σ H Q I h;obtain⟨A,st,d,rs,hd,q⟩:=h;obtain⟨xs,hx,h2⟩:=R.ok_of hd;obtain⟨hl,h3⟩:=aW h2;obtain⟨ys,hy,h4⟩:=R.ok_of h3;cases h4;rw[eval_ListComp];refine xH (use:=none) (Qf:=EP X pins σ Q) (Q:=Q) (tt:=aNg) (te:=tIx X.K f) (rest:=λenv it p=>eval elt env >>= λx=>call (.builtin "list.append") [p,x] >>= λ_=>again (.compLoop (.ListComp elt [⟨tg,iter,[],0⟩] scope pos) 0 it p env)) S hc hi (λC s₀ H₀ fp=>aZo λB=>hg B C s₀ H₀ fp) (λ_ _ _=>uH)
  (λC s₀ H₀ fp it p s Q h=>bJe (Y:=cQ X scope C s₀ H₀ fp) h) (λC s₀ H₀ fp it p τ H s pins vs N Q I h q=>bEj (Y:=cQ X scope C s₀ H₀ fp) rfl (aZn λB=>he B C s₀ H₀ fp) τ H s pins vs N Q I h (λQ Q' m h=>aB9 Q Q' m h) q) hs I
  (aPn hsub (λτ H Q ⟨B,A,st,k,rs,hk,q⟩=>?_) rs hx hl hy λp vs H1 H' s1 hp s2 hv r=>aNh rs q s1 hp s2 hv r) λC p H5 s5 m5 s3 H3 fp τ hC I3 hfp I5 hn5 q5=>⟨m5,hn5,λh' hs'=>⟨.ref p,H5,aHx I3 hfp hC I5 hs',rfl,q5⟩⟩
 cases hk;exact q H (bL.refl _)
theorem uI(is:List Nat)(hsub:aJu is t)(S:CScope X scope is)(hi:L2.PI X tg iter (tIt X.K B it))(hg:∀(B:List Addr)(C:Addr)(s₀:Shared)(H₀:Hp)(fp:List Addr),PG (cQ X scope C s₀ H₀ fp) tg (tG X.K B t))
  (ht:∀(B:List Addr)(C:Addr)(s₀:Shared)(H₀:Hp)(fp:List Addr),PT (cQ X scope C s₀ H₀ fp) c (tT X.K B u))
  (he:∀(B:List Addr)(C:Addr)(s₀:Shared)(H₀:Hp)(fp:List Addr),PE (cQ X scope C s₀ H₀ fp) elt (tI X.K B f)) (hc:X.calm=true) (hs:∀x,foldedSetIterable iter X.env x=pure x:=by intro _;rfl) :
  PE X (.ListComp elt [⟨tg,iter,[c],0⟩] scope pos) (tI X.K B (cY is t it u f)):=by
 intro pins s σ H Q I h;obtain⟨A,st,d,rs,hd,q⟩:=h;obtain⟨xs,hx,h2⟩:=R.ok_of hd;obtain⟨hl,h3⟩:=aW h2;obtain⟨ys,hy,h4⟩:=R.ok_of h3;cases h4;rw[eval_ListComp];exact xH (use:=none) (Qf:=EP X pins σ Q) (Q:=Q) (tt:=tTx X.K u) (te:=tIx X.K f) (rest:=λenv it p=>isTrue c env (eval c env) >>= λok=>if ok=true then (eval elt env >>= λx=>call (.builtin "list.append") [p,x] >>= λ_=>again (.compLoop (.ListComp elt [⟨tg,iter,[c],0⟩] scope pos) 0 it p env)) else again (.compLoop (.ListComp elt [⟨tg,iter,[c],0⟩] scope pos) 0 it p env)) S hc hi (λC s₀ H₀ fp=>aZo λB=>hg B C s₀ H₀ fp) (λ_ _ _=>uH)
  (λC s₀ H₀ fp it p s Q h=>bGs (Y:=cQ X scope C s₀ H₀ fp) h) (λC s₀ H₀ fp it p τ H s pins vs N Q I h q=>aZp (Y:=cQ X scope C s₀ H₀ fp) rfl (aZn λB=>he B C s₀ H₀ fp) (bGt λB=>ht B C s₀ H₀ fp) τ H s pins vs N Q I h (λ_ Q Q' m h=>aB9 Q Q' m h) q) hs I
  (aPn hsub (λτ H Q h=>h) rs hx hl hy λp vs H1 H' s1 hp s2 hv r=>aNh rs q s1 hp s2 hv r) λC p H5 s5 m5 s3 H3 fp τ hC I3 hfp I5 hn5 q5=>⟨m5,hn5,λh' hs'=>⟨.ref p,H5,aHx I3 hfp hC I5 hs',rfl,q5⟩⟩
end
end Pu
namespace Pu
open PySem PySem.Spec PyProof.Rows L2 PySem.SeqAt
section
variable{X:Cx}{pins:List (Addr×Obj)}{σ:LSt}{H:Hp}{s:Shared}
theorem aUa(I:Inv X pins σ H s) {xs ys:List V} (h1:SqL X.K H a xs) (h2:SqT X.K H a ys):False:=by
 obtain⟨its,_,⟨o,n,e,hc,_⟩,_⟩:=I.list h1;obtain⟨its2,_,⟨o2,e2,hc2,_⟩,_⟩:=I.tuple h2;rw[e]at e2;cases e2;rw[hc]at hc2;simp at hc2
mutual
theorem Rep.inj(I:Inv X pins σ H s):∀{x y:D}{v:V},plain x=true->plain y=true->Rep X.K H x v->Rep X.K H y v->x=y
 |x,y,v,px,py,h,h'=>by
  cases x<;>first|(simp at px;done)|skip
  all_goals cases y<;>first|(simp at py;done)|skip
  case tup.tup=>
   obtain⟨a,vs,e,hq,hr⟩:=iW h;obtain⟨a',vs',e',hq',hr'⟩:=iW h';subst e;cases e';cases I.tuple_inj hq hq';rw[bM.inj I (by simpa using px) (by simpa using py) hr hr']
  case lst.lst=>
   obtain⟨a,vs,e,hq,hr⟩:=iM.mp h;obtain⟨a',vs',e',hq',hr'⟩:=iM.mp h';subst e;cases e';cases I.list_inj hq hq';rw[bM.inj I (by simpa using px) (by simpa using py) hr hr']
  case tup.lst=>
   obtain⟨a,vs,e,hq,hr⟩:=iW h;obtain⟨a',vs',e',hq',hr'⟩:=iM.mp h';subst e;cases e';exact(aUa I hq' hq).elim
  case lst.tup=>
   obtain⟨a,vs,e,hq,hr⟩:=iM.mp h;obtain⟨a',vs',e',hq',hr'⟩:=iW h';subst e;cases e';exact(aUa I hq hq').elim
  all_goals simp only[tQ,dC,bT,eU,aB7,iM]at h h'
  all_goals first|(obtain⟨_,_,h',_⟩:=h';subst h';cases h;done)|(obtain⟨_,_,h,_⟩:=h;subst h;cases h';done)|(subst h;cases h';first|rfl|done)|(subst h;injection h' with h';injection h' with h';rw[show _=_ by simpa using congrArg Array.toList h'])
theorem bM.inj(I:Inv X pins σ H s):∀{xs ys:List D}{vs:List V},fW xs=true->fW ys=true->bM X.K H xs vs->bM X.K H ys vs->xs=ys
 |[],ys,vs,px,py,h,h'=>by
  have e:=dI.mp h;subst e;cases ys with
  |nil=>rfl
  |cons y ys=>obtain⟨_,_,h',_⟩:=bZ.mp h';cases h'
 |x::xs,ys,vs,px,py,h,h'=>by
  obtain⟨v,r,e,h1,h2⟩:=bZ.mp h;subst e;cases ys with
  |nil=>exact nomatch dI.mp h'
  |cons y ys=>
   obtain⟨v',r',e',h1',h2'⟩:=bZ.mp h';cases e';simp only[lA,and_eq_true]at px py;rw[Rep.inj I px.1 py.1 h1 h1',bM.inj I px.2 py.2 h2 h2']
end
mutual
theorem aPo:∀x:D,plain x=true->eqD x x=true
 |.non,_=>by unfold eqD;rfl
 |.bl b,_=>by unfold eqD;simp
 |.int i,_=>by unfold eqD;simp
 |.str x,_=>by unfold eqD;simp
 |.tup x,h=>by unfold eqD;exact aG8 x (by simpa using h)
 |.lst x,h=>by unfold eqD;exact aG8 x (by simpa using h)
 |.dct _ _ _,h=>by simp at h
 |.ins _ _ _,h=>by simp at h
 |.exn _ _ _,h=>by simp at h
 |.fn _,h=>by simp at h
theorem aG8:∀x:List D,fW x=true->jP x x=true
 |[],_=>by unfold jP;rfl
 |a::x,h=>by
  simp only[lA,and_eq_true]at h;unfold jP;rw[aPo a h.1,aG8 x h.2];rfl
end
def pairE(xs ys:List D)(j:Nat):Bool:=eqD (xs.getD j .non) (ys.getD j .non)
theorem aF5:∀xs ys:List D,((List.range (min xs.length ys.length)).all (pairE xs ys)&&xs.length==ys.length)=jP xs ys
 |[],[]=>by unfold jP;rfl
 |[],_::_=>by unfold jP;simp
 |_::_,[]=>by unfold jP;simp
 |x::xs,y::ys=>by
  have ih:=aF5 xs ys;have e:jP (x::xs) (y::ys)=(eqD x y&&jP xs ys):=by conv=>lhs;unfold jP
  rw[e,<-ih];have hm:min (x::xs).length (y::ys).length=min xs.length ys.length+1:=by simp only[length_cons];omega
  rw[hm,List.range_succ_eq_map,all_cons,List.all_map];have e1:pairE (x::xs) (y::ys) 0=eqD x y:=rfl;have e2:(pairE (x::xs) (y::ys) ∘ Nat.succ)=pairE xs ys:=rfl;rw[e1,e2,Bool.and_assoc];congr 1;simp
theorem aS0(h:xs.length≠ys.length):jP xs ys=false:=by
 rw[<-aF5];simp[h]
inductive Vw (X:Cx) (H:Hp) (s:Shared):D->Value->Prop
 |non:Vw X H s .non .none
 |bl (b:Bool):Vw X H s (.bl b) (.bool b)
 |int (i:Int) (t:Tok):Vw X H s (.int i) (.int i t)
 |str (x:List Nat) (t:Tok):Vw X H s (.str x) (.str ⟨x.toArray⟩ t)
 |tup {x:List D} {ws:List V} {its:List Value} {l:Addr} (hq:s.heap.IsTuple l its.toArray) (hr:bM X.K H x ws) (hv:Vals ws its):Vw X H s (.tup x) (.ref l)
 |lst {x:List D} {ws:List V} {its:List Value} {l:Addr} (hq:s.heap.IsList l its.toArray) (hr:bM X.K H x ws) (hv:Vals ws its):Vw X H s (.lst x) (.ref l)
theorem Vw.of(I:Inv X pins σ H s){x:D} {a:Value} (h:Rep X.K H x v) (r:RelV v a) (p:plain x=true):Vw X H s x a:=by
 cases x with
 |non=>have e:=tQ.mp h;subst e;have e:a=Value.none:=r;subst e;exact .non
 |bl b=>have e:=dC.mp h;subst e;have e:a=Value.bool b:=r;subst e;exact .bl b
 |int i=>have e:=bT.mp h;subst e;obtain⟨t,e⟩:∃t,a=Value.int i t:=r;subst e;exact .int i t
 |str x=>have e:=eU.mp h;subst e;obtain⟨t,e⟩:∃t,a=Value.str ⟨x.toArray⟩ t:=r;subst e;exact .str x t
 |tup x=>obtain⟨l,ws,e,hq,hr⟩:=iW h;subst e;have e:a=Value.ref l:=r;subst e;obtain⟨its,rv,pl,_⟩:=I.tuple hq;exact .tup pl hr rv
 |lst x=>obtain⟨l,ws,e,hq,hr⟩:=iM.mp h;subst e;have e:a=Value.ref l:=r;subst e;obtain⟨its,rv,pl,_⟩:=I.list hq;exact .lst pl.isList hr rv
 |_=>simp at p
theorem bCx{A:Around}{x:D}{a b:Value}{k:Bool}(wa:Vw X H s x a)(wb:Vw X H s y b)(h:RcAt A s a b k)(hs:a=b->k=true):EqAt A s a b k:=λprog w E Q hq=>by
 unfold eqBool;refine wpAny_holding (wpAny_ite_split (λe=>?_) λ_=>?_)
 .rw[hs (eq_of_beq e)]at hq;exact wpAny_bind (wpAny_rule (wpAny_pure hq))
 .cases wa<;>cases wb<;>exact wpAny_bind (h prog w E _ (wpAny_truthy_bool hq))
theorem aZq{u:V}{a:Value}(h:RelV v a)(h':RelV u a):v=u:=by
 cases v<;>(first|subst h|(obtain⟨_,h⟩:=h;subst h)) <;> cases u<;>first|(cases h';done)|(cases h';rfl)|(obtain⟨_,h'⟩:=h';cases h';done)|(obtain⟨_,h'⟩:=h';cases h';rfl)
theorem aPp(x y:List Nat):eqD (.str x) (.str y)=((⟨x.toArray⟩:Str)==⟨y.toArray⟩):=by rw[<-str_beq];unfold eqD;simp
theorem bJg{A:Around}{a b:Value}{k k':Bool}(h:RcAt A s a b k)(e:k=k'):RcAt A s a b k':=e ▸ h
theorem bJh{A:Around}{a b:Value}{k k':Bool}(h:RcNeAt A s a b k)(e:k=k'):RcNeAt A s a b k':=e ▸ h
theorem aPq(I:Inv X pins σ H s){x:D}{A:Around}{u:V}{a b:Value}(ra:Rep X.K H x v)(rb:Rep X.K H y u)(va:RelV v a)(vb:RelV u b)(px:plain x=true)(py:plain y=true)(h:RcAt A s a b (eqD x y)):EqAt A s a b (eqD x y):=
 bCx (Vw.of I ra va px) (Vw.of I rb vb py) h λe=>by rw[Rep.inj I px py ra (aZq (e ▸ va) vb ▸ rb)];exact aPo y py
mutual
theorem aNi(I:Inv X pins σ H s)(x y:D)(A:Around)(v u:V)(a b:Value)(ra:Rep X.K H x v)(rb:Rep X.K H y u)(va:RelV v a)(vb:RelV u b)(hu:A.units+dep x<cLine)(px:plain x=true)(py:plain y=true):RcAt A s a b (eqD x y)/\RcNeAt A s a b (!eqD x y):=by
 have hu':A.units<cLine:=Nat.lt_of_le_of_lt (Nat.le_add_right _ _) hu;have wa:=Vw.of I ra va px;have wb:=Vw.of I rb vb py;clear ra rb va vb;cases wa<;>cases wb
 case tup.tup x _ i1 _ hq hr hv y _ i2 _ hq' hr' hv'=>
  have hd:dep (.tup x)=mQ x+1:=by conv=>lhs;unfold dep
  have:=aG9 I x y A.in1 _ _ _ _ hr hr' hv hv' (by show A.units+1+mQ x<cLine;omega) (by simpa using px) (by simpa using py)
  have e:eqD (.tup x) (.tup y)=jP x y:=by conv=>lhs;unfold eqD
  rw[e,<-aF5,<-hr.length,<-hr'.length,hv.length,hv'.length,<-List.size_toArray,<-List.size_toArray];exact⟨RcAt.tuples hq hq' hu' λj j1 j2=>by simpa using this j (by simpa using j1) (by simpa using j2),RcNeAt.tuples hq hq' hu' λj j1 j2=>by simpa using this j (by simpa using j1) (by simpa using j2)⟩
 case lst.lst x _ i1 _ hq hr hv y _ i2 _ hq' hr' hv'=>
  have hd:dep (.lst x)=mQ x+1:=by conv=>lhs;unfold dep
  have:=aG9 I x y A.in1 _ _ _ _ hr hr' hv hv' (by show A.units+1+mQ x<cLine;omega) (by simpa using px) (by simpa using py)
  have e:eqD (.lst x) (.lst y)=jP x y:=by conv=>lhs;unfold eqD
  have n1:i1.length=x.length:=by rw[<-hv.length,hr.length]
  have n2:i2.length=y.length:=by rw[<-hv'.length,hr'.length]
  rw[e]
  by_cases hz:i1.length=i2.length
  .rw[show jP x y=(List.range i1.toArray.size).all (pairE x y) by rw[<-aF5,List.size_toArray,n1];simp[show x.length=y.length by omega]]
   exact⟨RcAt.lists hq hq' (by simpa using hz) hu' λj j1 j2=>by simpa using this j (by simpa using j1) (by simpa using j2),RcNeAt.lists hq hq' (by simpa using hz) hu' λj j1 j2=>by simpa using this j (by simpa using j1) (by simpa using j2)⟩
  .rw[aS0 (by omega)]
   exact⟨RcAt.lists_lengths hq hq' (by simpa using hz) hu',RcNeAt.lists_lengths hq hq' (by simpa using hz) hu'⟩
 all_goals
  constructor
  .apply bJg
   .with_reducible first|exact RcAt.none_none|exact RcAt.none_bool _|exact RcAt.none_int _ _|exact RcAt.none_str _ _|exact RcAt.none_tuple ‹_› hu'|exact RcAt.none_list ‹_› hu'|exact RcAt.bool_none _|exact RcAt.bool_bool _ _|exact RcAt.bool_int _ _ _|exact RcAt.bool_str _ _ _|exact RcAt.bool_tuple _ ‹_› hu'|exact RcAt.bool_list _ ‹_› hu'|exact RcAt.int_none _ _|exact RcAt.int_bool _ _ _|exact RcAt.int_int _ _ _ _|exact RcAt.int_str _ _ _ _|exact RcAt.int_tuple _ _ ‹_› hu'|exact RcAt.int_list _ _ ‹_› hu'|exact RcAt.str_none _ _|exact RcAt.str_bool _ _ _|exact RcAt.str_int _ _ _ _|exact RcAt.str_str _ _ _ _|exact RcAt.str_tuple _ _ ‹_› hu'|exact RcAt.str_list _ _ ‹_› hu'|exact RcAt.tuple_none ‹_› hu'|exact RcAt.tuple_bool _ ‹_› hu'|exact RcAt.tuple_int _ _ ‹_› hu'|exact RcAt.tuple_str _ _ ‹_› hu'|exact RcAt.tuple_list ‹_› ‹_› hu'|exact RcAt.list_none ‹_› hu'|exact RcAt.list_bool _ ‹_› hu'|exact RcAt.list_int _ _ ‹_› hu'|exact RcAt.list_str _ _ ‹_› hu'|exact RcAt.list_tuple ‹_› ‹_› hu'
   .first|exact(aPp _ _).symm|(unfold eqD;rfl)
  .apply bJh
   .with_reducible first|exact RcNeAt.none_none|exact RcNeAt.none_bool _|exact RcNeAt.none_int _ _|exact RcNeAt.none_str _ _|exact RcNeAt.none_tuple ‹_› hu'|exact RcNeAt.none_list ‹_› hu'|exact RcNeAt.bool_none _|exact RcNeAt.bool_bool _ _|exact RcNeAt.bool_int _ _ _|exact RcNeAt.bool_str _ _ _|exact RcNeAt.bool_tuple _ ‹_› hu'|exact RcNeAt.bool_list _ ‹_› hu'|exact RcNeAt.int_none _ _|exact RcNeAt.int_bool _ _ _|exact RcNeAt.int_int _ _ _ _|exact RcNeAt.int_str _ _ _ _|exact RcNeAt.int_tuple _ _ ‹_› hu'|exact RcNeAt.int_list _ _ ‹_› hu'|exact RcNeAt.str_none _ _|exact RcNeAt.str_bool _ _ _|exact RcNeAt.str_int _ _ _ _|exact RcNeAt.str_str _ _ _ _|exact RcNeAt.str_tuple _ _ ‹_› hu'|exact RcNeAt.str_list _ _ ‹_› hu'|exact RcNeAt.tuple_none ‹_› hu'|exact RcNeAt.tuple_bool _ ‹_› hu'|exact RcNeAt.tuple_int _ _ ‹_› hu'|exact RcNeAt.tuple_str _ _ ‹_› hu'|exact RcNeAt.tuple_list ‹_› ‹_› hu'|exact RcNeAt.list_none ‹_› hu'|exact RcNeAt.list_bool _ ‹_› hu'|exact RcNeAt.list_int _ _ ‹_› hu'|exact RcNeAt.list_str _ _ ‹_› hu'|exact RcNeAt.list_tuple ‹_› ‹_› hu'
   .first|exact congrArg _ (aPp _ _).symm|(unfold eqD;rfl)
theorem aG9(I:Inv X pins σ H s):∀(xs ys:List D)(A:Around)(vs us:List V)(as bs:List Value),bM X.K H xs vs->bM X.K H ys us->Vals vs as->Vals us bs->A.units+mQ xs<cLine->fW xs=true->fW ys=true->∀(j:Nat)(h1:j<as.length)(h2:j<bs.length),EqAt A s as[j] bs[j] (pairE xs ys j)
 |[],_,A,vs,us,as,bs,ra,rb,va,vb,hu,px,py,j,h1,h2=>by
  have e:=dI.mp ra;subst e;cases va;exact absurd h1 (not_lt_zero _)
 |x::xs,[],A,vs,us,as,bs,ra,rb,va,vb,hu,px,py,j,h1,h2=>by
  have e:=dI.mp rb;subst e;cases vb;exact absurd h2 (not_lt_zero _)
 |x::xs,y::ys,A,vs,us,as,bs,ra,rb,va,vb,hu,px,py,j,h1,h2=>by
  obtain⟨v,r,e,p1,p2⟩:=bZ.mp ra;subst e;obtain⟨u,r',e,q1,q2⟩:=bZ.mp rb;subst e;have hd:mQ (x::xs)=max (dep x) (mQ xs):=by conv=>lhs;unfold mQ
  rw[hd]at hu;simp only[lA,and_eq_true]at px py;cases va with
  |cons va vas=>
   cases vb with
   |cons vb vbs=>
    cases j with
    |zero=>exact aPq I p1 q1 va vb px.1 py.1 (aNi I x y A v u _ _ p1 q1 va vb (by omega) px.1 py.1).1
    |succ j=>exact aG9 I xs ys A r r' _ _ p2 q2 vas vbs (by omega) px.2 py.2 j (Nat.lt_of_succ_lt_succ h1) (Nat.lt_of_succ_lt_succ h2)
end
theorem aZr(I:Inv X pins σ H s)(x y:D)(A:Around)(v u:V)(a b:Value)(ra:Rep X.K H x v)(rb:Rep X.K H y u)(va:RelV v a)(vb:RelV u b)(hu:A.units+dep x<cLine)(px:plain x=true)(py:plain y=true):EqAt A s a b (eqD x y):=
 aPq I ra rb va vb px py (aNi I x y A v u _ _ ra rb va vb hu px py).1
theorem aZs(I:Inv X pins σ H s)(x y:D)(A:Around)(v u:V)(a b:Value)(ra:Rep X.K H x v)(rb:Rep X.K H y u)(va:RelV v a)(vb:RelV u b)(hu:A.units+dep x<cLine)(px:plain x=true)(py:plain y=true):RcAt A s a b (eqD x y):=(aNi I x y A v u a b ra rb va vb hu px py).1
theorem aZt(I:Inv X pins σ H s)(x y:D)(A:Around)(v u:V)(a b:Value)(ra:Rep X.K H x v)(rb:Rep X.K H y u)(va:RelV v a)(vb:RelV u b)(hu:A.units+dep x<cLine)(px:plain x=true)(py:plain y=true):RcNeAt A s a b (!eqD x y):=(aNi I x y A v u a b ra rb va vb hu px py).2
end
end Pu
namespace Pu
open PySem PySem.Spec PyProof.Rows L2
section
variable{X:Cx}{B:List Addr}{a b e:Expr}{f g:Ex}{pos:Pos}
theorem mK.rep{K:Frag}{A:List Addr}{H:Hp}{d:D}{v:V}(h:mK K A H d v):Rep K H d v:=by
 rcases h with h|⟨a,k,o,ds,vs,e1,e2,e3,ko,q⟩
 .exact h.mono (bN _ _)
 .subst e1 e2;exact ko.rep e3 (q.mono (bN _ _))
def bCy(K:Frag)(neg:Bool):R2:=λv u H Q=>∃x y,Rep K H x v/\Rep K H y u/\(dep x<=64/\plain x=true/\plain y=true)/\Q (.bl (if neg then !eqD x y else eqD x y)) H
theorem cZ(hu:X.A.units+64<cLine):OpR X (compareOp .Eq) (bCy X.K false):=by
 intro pins s σ H v u a b Q I ra rb h;obtain⟨x,y,rx,ry,hd,q⟩:=h;exact aZs I x y X.A v u a b rx ry ra rb (by omega) hd.2.1 hd.2.2 X.prog X.w X.xe _ ⟨.bl _,H,I,rfl,q⟩
theorem qL(hu:X.A.units+64<cLine):OpR X (compareOp .NotEq) (bCy X.K true):=by
 intro pins s σ H v u a b Q I ra rb h;obtain⟨x,y,rx,ry,hd,q⟩:=h;exact aZt I x y X.A v u a b rx ry ra rb (by omega) hd.2.1 hd.2.2 X.prog X.w X.xe _ ⟨.bl _,H,I,rfl,q⟩
theorem dB{K:Frag}:aCk K (bCy K false) dEq:=by
 intro A H x y d v u Q w rx ry e q;obtain⟨c,e⟩:=aW e;cases e;exact⟨x,y,rx.rep,ry.rep,c,q _ H (bL.refl _) (dC.mpr rfl)⟩
theorem qM{K:Frag}:aCk K (bCy K true) dNe:=by
 intro A H x y d v u Q w rx ry e q;obtain⟨c,e⟩:=aW e;cases e;exact⟨x,y,rx.rep,ry.rep,c,q _ H (bL.refl _) (dC.mpr rfl)⟩
def tyD:D->String
 |.non=>"NoneType"
 |.bl _=>"bool"
 |.int _=>"int"
 |.str _=>"str"
 |.tup _=>"tuple"
 |.lst _=>"list"
 |.dct _ _ _=>"dict"
 |.ins _ _ _=>""
 |.exn _ _ _=>""
 |.fn _=>""
structure IsT(T:String)(p:D->Bool):Prop where
 boot:bootBuiltins T=some (.type T)
 ans:∀(K:Frag)(d:D),aMk d=true->PySem.W.kitOne K (.type (tyD d)) (.type T)=some (p d)
theorem aZu{T:String}{p:D->Bool}(h:IsT T p):oM X (.builtin "isinstance") (λxs H Q=>∃v d,xs=[v,.ty T]/\aMk d=true/\Rep X.K H d v/\Q (.bl (p d)) H):=by
 intro pins s σ H xs us Q I r q;obtain⟨v,d,rfl,hbl,rd,q⟩:=q;obtain⟨u,u2,rfl,ru,ru2⟩:=r.two;have e2:u2=Value.type T:=ru2;subst e2;have fin:∀tk,EP X pins σ Q (.bool (p d)) {s with toks:=tk}:=λtk=>⟨.bl (p d),H,I.tok tk,rfl,q⟩
 have e:=h.ans X.K d hbl;cases d with
 |non=>have z:=tQ.mp rd;subst z;have z:u=Value.none:=ru;subst z;exact kia_one PySem.W.kitx_none I.kIn True.intro e (λz=>nomatch z) fin
 |bl x=>have z:=dC.mp rd;subst z;have z:u=Value.bool x:=ru;subst z;exact kia_one PySem.W.kitx_bool I.kIn True.intro e (λz=>nomatch z) fin
 |int x=>have z:=bT.mp rd;subst z;obtain⟨t,z⟩:∃t,u=Value.int x t:=ru;subst z;exact kia_one PySem.W.kitx_int I.kIn True.intro e (λz=>nomatch z) fin
 |str x=>have z:=eU.mp rd;subst z;obtain⟨t,z⟩:∃t,u=Value.str ⟨x.toArray⟩ t:=ru;subst z;exact kia_one PySem.W.kitx_str I.kIn True.intro e (λz=>nomatch z) fin
 |tup x=>
  obtain⟨l,vs,z,hq,_⟩:=iW rd;subst z;have z:u=Value.ref l:=ru;subst z;obtain⟨its,_,⟨o,h1,h2,_⟩,_⟩:=I.tuple hq;exact kia_one PySem.W.kitx_tuple I.kIn ⟨o,h1,h2⟩ e (λz=>nomatch z) fin
 |lst x=>
  obtain⟨l,vs,z,hq,_⟩:=iM.mp rd;subst z;have z:u=Value.ref l:=ru;subst z;obtain⟨its,_,⟨o,n,h1,h2,_⟩,_⟩:=I.list hq;exact kia_one PySem.W.kitx_list I.kIn ⟨o,h1,h2⟩ e (λz=>nomatch z) fin
 |dct t ks x=>
  obtain⟨l,vs,z,hq,_⟩:=yJ.mp rd;subst z;have z:u=Value.ref l:=ru;subst z;have hd:∃o,s.heap.get? l=some o/\o.ExactDict:=by
   rcases hq with ⟨_,kvs,hq,_⟩|⟨_,kvs,hq,_⟩
   .obtain⟨_,_,vs',_,m⟩:kvs.length<=sizeLine/\(l==sysModules)=false/\∃vs,KV kvs vs/\s.heap.DictOf (gB X.prog X.w) l vs:=I.hok l _ hq;obtain⟨o,es,n,h1,h2,_⟩:=m;exact⟨o,h1,h2⟩
   .obtain⟨_,_,xs,_,o,es,ep,h1,h2,_⟩:=I.hok l _ hq;exact⟨o,h1,h2⟩
  obtain⟨o,h1,h2⟩:=hd;exact kia_one PySem.W.kitx_dict I.kIn ⟨o,h1,h2.1⟩ e (λz=>nomatch z) fin
 |ins _ _ _=>exact nomatch hbl
 |exn _ _ _=>exact nomatch hbl
 |fn _=>exact nomatch hbl
theorem uJ{T:Str}{S:String}{p:D->Bool} (hT:IsT S p) (hm:X.mg "isinstance"=none) (hmT:X.mg T=none) (ha:PE X a (tP X.K B f)) (hST:bootBuiltins T=some (.type S):=by first|rfl|exact hT.boot) (hg:Gl X "isinstance":=by rfl) (hgT:Gl X T:=by rfl) (hnT:T≠"__name__":=by decide) (hdT:(T==("__debug__":Str))=false:=by decide)
  (hs:starEach [a,.Name T p1] X.env=(false,eval a X.env)::starEach [.Name T p1] X.env:=by rfl) (hs2:starEach [.Name T p1] X.env=(false,eval (.Name T p1) X.env)::starEach [] X.env:=by rfl) :
  PE X (.Call (.Name "isinstance" p0) [a,.Name T p1] [] pos) (tI X.K B (eB p f)):=by
 have hTy:PE X (.Name T p1) (tC (.ty S)):=bAo hgT hmT hST rfl hnT hdT;refine cX (tZ (aZu hT) hg hm boot_isinstance (dJ ha (dJ hTy jO hs2) hs) (he:=hs)) ?_
 rintro σ H Q ⟨A,st,d,rs,hd,q⟩;obtain⟨x,hx,h2⟩:=R.ok_of hd;obtain⟨hbl,h2⟩:=aW h2;cases h2;exact⟨A,st,x,rs,hx,λv H1 s1 r1=>⟨v,x,rfl,hbl,r1.rep,q _ H1 s1 (dC.mpr rfl)⟩⟩
theorem ty_str:IsT "str" aXn:=⟨rfl,λK d hb=>by cases d<;>first|(cases hb;done)|kernel_rfl⟩
theorem ty_bool:IsT "bool" bFn:=⟨rfl,λK d hb=>by cases d<;>first|(cases hb;done)|kernel_rfl⟩
theorem ty_int:IsT "int" isIn:=⟨rfl,λK d hb=>by cases d<;>first|(cases hb;done)|kernel_rfl⟩
theorem ty_tuple:IsT "tuple" bIj:=⟨rfl,λK d hb=>by cases d<;>first|(cases hb;done)|kernel_rfl⟩
theorem ty_list:IsT "list" aVi:=⟨rfl,λK d hb=>by cases d<;>first|(cases hb;done)|kernel_rfl⟩
end
end Pu
namespace Pu
open PySem PySem.Spec PyProof.Rows L2 PySem.SeqAt PySem.StrLaws
theorem aS1(x y:List Nat)(i:Nat):Builtin.Str.subAt ⟨x.toArray⟩ ⟨y.toArray⟩ i=((x.drop i).take y.length==y):=by
 rw[subAt_eq];simp[Str.length]
theorem aPr(s sub:Str)(hi:Nat):∀(l:List Nat)(st:Array Nat×Nat),1<=st.1.size->(forIn l st (occBody s sub hi 1)).run.fst=st.1
 |[],st,h=>rfl
 |a::l,st,h=>by
  rw[forIn_cons];unfold occBody;rw[if_neg (λz=>by have:=z.1.1.1;omega)]
  exact aPr s sub hi l (st.1,st.2) h
theorem aPs(s sub:Str)(hi:Nat):∀(l:List Nat)(free:Nat),(∀i∈l,free<=i)->
  (forIn l ((#[]:Array Nat),free) (occBody s sub hi 1)).run.fst.toList=(l.find? λi=>decide (i+sub.length<=hi)&&Builtin.Str.subAt s sub i).toList
 |[],free,_=>rfl
 |a::l,free,hf=>by
  rw[forIn_cons];have ha:free<=a:=hf a mem_cons_self
  by_cases hc:a+sub.length<=hi/\Builtin.Str.subAt s sub a=true
  .have e:(decide (a+sub.length<=hi)&&Builtin.Str.subAt s sub a)=true:=by rw[hc.2,decide_eq_true hc.1];rfl
   rw[List.find?_cons_of_pos (p:=λi=>decide (i+sub.length<=hi)&&Builtin.Str.subAt s sub i) e]
   have e2:occBody s sub hi 1 a ((#[]:Array Nat),free)=pure (ForInStep.yield ((#[]:Array Nat).push a,a+sub.length)):=by
    unfold occBody;exact if_pos ⟨⟨⟨by simp,ha⟩,hc.1⟩,hc.2⟩
   rw[e2];show (forIn l (((#[]:Array Nat).push a),a+sub.length) (occBody s sub hi 1)).run.fst.toList=_;rw[aPr s sub hi l _ (by simp)]
   rfl
  .have e:¬ (decide (a+sub.length<=hi)&&Builtin.Str.subAt s sub a)=true:=λz=>hc (by simpa using z)
   rw[List.find?_cons_of_neg (p:=λi=>decide (i+sub.length<=hi)&&Builtin.Str.subAt s sub i) e]
   have e2:occBody s sub hi 1 a ((#[]:Array Nat),free)=pure (ForInStep.yield ((#[]:Array Nat),free)):=by
    unfold occBody;exact if_neg λh=>hc ⟨h.1.2,h.2⟩
   rw[e2];exact aPs s sub hi l free λi hi'=>hf i (mem_cons_of_mem _ hi')
theorem aCc(x y:List Nat)(lo:Nat):Builtin.Str.occurrences ⟨x.toArray⟩ ⟨y.toArray⟩ lo (⟨x.toArray⟩:Str).length 1=(kY x y lo).toList:=by
 rw[occ_eq,aPs _ _ _ _ _ (λi hi=>by simp[List.mem_range']at hi;omega)]
 unfold kY;simp only[aS1,str_len]
theorem bCz(x y:List Nat):Txt.find ⟨x.toArray⟩ ⟨y.toArray⟩=aAg (kY x y 0):=by
 unfold Txt.find;rw[aCc];cases kY x y 0<;>rfl
theorem aZv(x y:List Nat)(i:Int)(h:0<=i):Txt.find3 ⟨x.toArray⟩ ⟨y.toArray⟩ i=aAg (kY x y i.toNat):=by
 have e:fromIndex (⟨x.toArray⟩:Str).length i=i.toNat:=by unfold fromIndex;rw[if_neg (by omega)];omega
 unfold Txt.find3;rw[e,aCc];cases kY x y i.toNat<;>rfl
theorem pD{α:Type}(p:α->Bool):∀x:List α,x.drop (x.takeWhile p).length=x.dropWhile p
 |[]=>rfl
 |a::x=>by
  cases h:p a with
  |true=>rw[List.takeWhile_cons_of_pos h,List.dropWhile_cons_of_pos h,length_cons,List.drop_succ_cons,pD p x]
  |false=>rw[List.takeWhile_cons_of_neg (by simp[h]),List.dropWhile_cons_of_neg (by simp[h])];rfl
theorem aCy(p:α->Bool)(x:List α):(x.takeWhile p).length+(x.dropWhile p).length=x.length:=by
 rw[<-length_append,List.takeWhile_append_dropWhile]
theorem aZw(x y:List Nat):Txt.stripChars ⟨x.toArray⟩ ⟨y.toArray⟩=⟨(vU x y).toArray⟩:=by
 have hp:(y.toArray.contains:Nat->Bool)=λc=>y.contains c:=by funext c;simp
 have key:Builtin.Str.strSub ⟨x.toArray⟩ (stripLo y.toArray.contains true ⟨x.toArray⟩) (stripHi y.toArray.contains true ⟨x.toArray⟩ (stripLo y.toArray.contains true ⟨x.toArray⟩))=⟨(vU x y).toArray⟩:=by
  unfold stripLo stripHi;rw[hp];simp only[if_true];rw[pD];unfold vU;generalize hq:(λc=>y.contains c)=q
  have l1:=aCy q x;have l2:=aCy q (x.dropWhile q).reverse;rw[List.length_reverse]at l2;unfold Builtin.Str.strSub;simp only[str_len];congr 1;apply ext';rw[Array.toList_extract];simp only[List.toList_toArray,List.extract_eq_take_drop];rw[pD];have e3:((x.dropWhile q).reverse.dropWhile q).reverse=(x.dropWhile q).take ((x.dropWhile q).length-((x.dropWhile q).reverse.takeWhile q).length):=by
   have:(x.dropWhile q).reverse.dropWhile q=(x.dropWhile q).reverse.drop ((x.dropWhile q).reverse.takeWhile q).length:=(pD q _).symm;rw[this,List.drop_reverse,List.reverse_reverse]
  rw[e3];congr 1;omega
 unfold Txt.stripChars Txt.stripBy
 by_cases h:stripSame y.toArray.contains true true ⟨x.toArray⟩=true
 .rw[if_pos h];unfold stripSame at h;rw[and_eq_true,beq_iff_eq,beq_iff_eq]at h;rw[h.2,h.1]at key;rw[<-key];unfold Builtin.Str.strSub;simp[str_len]
 .rw[if_neg h];exact key
section
variable {a b:Expr}
theorem bGu{id:String}{m:Mop} {q:V->List V->Hp->VK->Prop} (slot:Slot "str" name id) (hty:typeOf (.builtin id)=pure (.type "method_descriptor")) (hm:MtR X id q)
  (hk:∀x xs d,m x xs=.ok d->∃s,x=.str s) (sem:∀(A:List Addr)(H:Hp)(x d:D)(xs:List D)(v:V)(vs:List V)(Q:VK),Own A H->mK X.K A H x v->bM X.K (hide A H) xs vs->m x xs=.ok d->(∀w H',bL H H'->Rep X.K (hide A H') d w->Q w H')->q v vs H Q)
  (ho:PE X o (tP X.K B f)) (ha:PA X (e::es) (tA X.K B r))
  (hbase:attributeBase o name X.env (eval o X.env)=eval o X.env:=by rfl)
  (hfew:((backTo cpos (starEach (e::es) X.env)).all (λx=>!x.1)&&(backToKw cpos (keywordEach [] X.env)).all (λx=>x.1.isSome)
   && decide ((e::es).length+([]:List Keyword).length+(if ([]:List Keyword).isEmpty then 0 else 1)<30))=true:=by rfl)
  (hline:(apos.endLine==cpos.line)=true:=by rfl) (hs:starEach (e::es) X.env=(false,eval e X.env)::starEach es X.env:=by rfl) (hplain:(backTo cpos (starEach es X.env)).any (·.1)=false:=by rfl) :
  PE X (.Call (.Attribute o name apos) (e::es) [] cpos) (tI X.K B (eMt m f r)):=by
 refine cX (aSp PySem.F.plainAttrs_str slot hty hm ho ha hbase hfew hline hs hplain) ?_
 rintro σ H Q ⟨A,st,d,rs,hd,k⟩;obtain⟨x,hx,h2⟩:=R.ok_of hd;obtain⟨xs,hxs,h3⟩:=R.ok_of h2;obtain⟨s,rfl⟩:=hk x xs d h3;refine⟨A,st,_,rs,hx,λv H1 s1 r1=>⟨?_,A,st,xs,rs.mono s1,hxs,λvs H2 s2 r2=>?_⟩⟩
 .rw[r1.str];rfl
 .exact sem (A++B) H2 _ d xs v vs Q (rs.own.mono (s1.trans s2)) (r1.mono s2) r2 h3 λw H' s' r'=>k w H' (s1.trans (s2.trans s')) r'
theorem aPt{K:Frag} (h:bM K H [d] vs):∃v,vs=[v]/\Rep K H d v:=by
 obtain⟨v,r,rfl,h1,h2⟩:=bZ.mp h;rw[dI.mp h2];exact⟨v,rfl,h1⟩
theorem bJi{K:Frag} {e:D} (h:bM K H [d,e] vs):∃v u,vs=[v,u]/\Rep K H d v/\Rep K H e u:=by
 obtain⟨v,r,rfl,h1,h2⟩:=bZ.mp h;obtain⟨u,rfl,h3⟩:=aPt h2;exact⟨v,u,rfl,h1,h3⟩
theorem bD0:MtR X "str.find" (λx vs H Q=>∃(s:List Nat),x=.str ⟨s.toArray⟩/\((∃y:List Nat,vs=[.str ⟨y.toArray⟩]/\Q (.int (aAg (kY s y 0))) H)\/∃(y:List Nat)(i:Int),vs=[.str ⟨y.toArray⟩,.int i]/\0<=i/\Q (.int (aAg (kY s y i.toNat))) H)):=by
 intro pins s σ H x vs v us Q I rx rv h;obtain⟨z,rfl,h⟩:=h;obtain⟨t,rfl⟩:=rx;rcases h with ⟨y,rfl,q⟩|⟨y,i,rfl,hi,q⟩
 .obtain⟨u,rfl,t2,rfl⟩:=rv.one;exact SC.find ⟨.int _,H,I.tok _,⟨_,rfl⟩,by rw[bCz];exact q⟩
 .obtain⟨u,u2,rfl,⟨t2,rfl⟩,⟨t3,rfl⟩⟩:=rv.two;exact SC.find3 ⟨.int _,H,I.tok _,⟨_,rfl⟩,by rw[aZv _ _ _ hi];exact q⟩
theorem aZx:MtR X "str.index" (λx vs H Q=>∃(s y:List Nat)(i:Nat),x=.str ⟨s.toArray⟩/\vs=[.str ⟨y.toArray⟩]/\kY s y 0=some i/\Q (.int i) H):=by
 intro pins s σ H x vs v us Q I rx rv h;obtain⟨z,y,i,rfl,rfl,hi,q⟩:=h;obtain⟨t,rfl⟩:=rx;obtain⟨u,rfl,t2,rfl⟩:=rv.one;exact SC.index (i:=i) (rest:=[]) (by rw[aCc,hi];rfl) ⟨.int _,H,I.tok _,⟨_,rfl⟩,q⟩
theorem aZy:MtR X "str.strip" (λx vs H Q=>∃(s y:List Nat),x=.str ⟨s.toArray⟩/\vs=[.str ⟨y.toArray⟩]/\s.length<=sizeLine/\Q (.str ⟨(vU s y).toArray⟩) H):=by
 intro pins s σ H x vs v us Q I rx rv h;obtain⟨z,y,rfl,rfl,hz,q⟩:=h;obtain⟨t,rfl⟩:=rx;obtain⟨u,rfl,t2,rfl⟩:=rv.one;exact SC.stripChars (λt' k=>⟨.str ⟨(vU z y).toArray⟩,H,I.tok _,⟨_,by rw[aZw]⟩,q⟩) (by rw[str_len];exact hz)
end
end Pu
namespace Pu
open PySem PySem.Spec PyProof.Rows L2 PySem.SeqAt
section
variable{X:Cx}{B:List Addr}{a b e o:Expr}{f g:Ex}{pos:Pos}{r:Exs}{es:List Expr}{apos cpos:Pos}
theorem bGv(ho:PE X o (tP X.K B f))(ha:PA X (e::es) (tA X.K B r))(hbase:attributeBase o "find" X.env (eval o X.env)=eval o X.env:=by rfl)
  (hfew:((backTo cpos (starEach (e::es) X.env)).all (λx=>!x.1)&&(backToKw cpos (keywordEach [] X.env)).all (λx=>x.1.isSome)
   && decide ((e::es).length+([]:List Keyword).length+(if ([]:List Keyword).isEmpty then 0 else 1)<30))=true:=by rfl)
  (hline:(apos.endLine==cpos.line)=true:=by rfl) (hs:starEach (e::es) X.env=(false,eval e X.env)::starEach es X.env:=by rfl) (hplain:(backTo cpos (starEach es X.env)).any (·.1)=false:=by rfl) :
  PE X (.Call (.Attribute o "find" apos) (e::es) [] cpos) (tI X.K B (eMt aOf f r)):=by
 refine bGu (m:=aOf) PySem.F.slot_str_find PySem.F.type_str_find bD0 (λx xs d h=>?_) (λA H x d xs v vs Q w rx rxs h k=>?_) ho ha hbase hfew hline hs hplain
 .cases x<;>first|exact⟨_,rfl⟩|exact nomatch h
 .unfold aOf at h;split at h
  .cases h;obtain⟨u,rfl,ru⟩:=aPt rxs;exact⟨_,rx.str,.inl ⟨_,by rw[eU.mp ru],k _ H (bL.refl _) (bT.mpr rfl)⟩⟩
  .obtain⟨c,h⟩:=aW h;cases h;obtain⟨u,u2,rfl,ru,ru2⟩:=bJi rxs;exact⟨_,rx.str,.inr ⟨_,_,by rw[eU.mp ru,bT.mp ru2],c,k _ H (bL.refl _) (bT.mpr rfl)⟩⟩
  .cases h
theorem bD1(ho:PE X o (tP X.K B f))(ha:PA X (e::es) (tA X.K B r))(hbase:attributeBase o "index" X.env (eval o X.env)=eval o X.env:=by rfl)
  (hfew:((backTo cpos (starEach (e::es) X.env)).all (λx=>!x.1)&&(backToKw cpos (keywordEach [] X.env)).all (λx=>x.1.isSome)
   && decide ((e::es).length+([]:List Keyword).length+(if ([]:List Keyword).isEmpty then 0 else 1)<30))=true:=by rfl)
  (hline:(apos.endLine==cpos.line)=true:=by rfl) (hs:starEach (e::es) X.env=(false,eval e X.env)::starEach es X.env:=by rfl) (hplain:(backTo cpos (starEach es X.env)).any (·.1)=false:=by rfl) :
  PE X (.Call (.Attribute o "index" apos) (e::es) [] cpos) (tI X.K B (eMt aIc f r)):=by
 refine bGu (m:=aIc) PySem.F.slot_str_index PySem.F.type_str_index aZx (λx xs d h=>?_) (λA H x d xs v vs Q w rx rxs h k=>?_) ho ha hbase hfew hline hs hplain
 .cases x<;>first|exact⟨_,rfl⟩|exact nomatch h
 .unfold aIc at h;split at h
  .obtain⟨i,hi,h⟩:=R.ok_of h;cases h;obtain⟨u,rfl,ru⟩:=aPt rxs;exact⟨_,_,i,rx.str,by rw[eU.mp ru],yL hi,k _ H (bL.refl _) (bT.mpr rfl)⟩
  .cases h
theorem bD2(ho:PE X o (tP X.K B f))(ha:PA X (e::es) (tA X.K B r))(hbase:attributeBase o "strip" X.env (eval o X.env)=eval o X.env:=by rfl)
  (hfew:((backTo cpos (starEach (e::es) X.env)).all (λx=>!x.1)&&(backToKw cpos (keywordEach [] X.env)).all (λx=>x.1.isSome)
   && decide ((e::es).length+([]:List Keyword).length+(if ([]:List Keyword).isEmpty then 0 else 1)<30))=true:=by rfl)
  (hline:(apos.endLine==cpos.line)=true:=by rfl) (hs:starEach (e::es) X.env=(false,eval e X.env)::starEach es X.env:=by rfl) (hplain:(backTo cpos (starEach es X.env)).any (·.1)=false:=by rfl) :
  PE X (.Call (.Attribute o "strip" apos) (e::es) [] cpos) (tI X.K B (eMt aIe f r)):=by
 refine bGu (m:=aIe) PySem.F.slot_str_strip PySem.F.type_str_strip aZy (λx xs d h=>?_) (λA H x d xs v vs Q w rx rxs h k=>?_) ho ha hbase hfew hline hs hplain
 .cases x<;>first|exact⟨_,rfl⟩|exact nomatch h
 .unfold aIe at h;split at h
  .obtain⟨c,h⟩:=aW h;cases h;obtain⟨u,rfl,ru⟩:=aPt rxs;exact⟨_,_,rx.str,by rw[eU.mp ru],lim c,k _ H (bL.refl _) (eU.mpr rfl)⟩
  .cases h
theorem bGw(hm:X.mg "max"=none)(hc:X.calm=true)(ha:PE X a (tP X.K B f))(hb:PE X b (tP X.K B g))(hg:Gl X "max":=by rfl)(hs:starEach [a,b] X.env=(false,eval a X.env)::starEach [b] X.env:=by rfl)
  (hs2:starEach [b] X.env=(false,eval b X.env)::starEach [] X.env:=by rfl) (hpl:(backTo pos (starEach [b] X.env)).any (·.1)=false:=by rfl):PE X (.Call (.Name "max" p0) [a,b] [] pos) (tI X.K B (e2 aSr f g)):=by
 refine cX (tZ (aV4 hc) hg hm (by rfl) (dJ ha (dJ hb jO hs2) hs) (he:=hs) (hpl:=hpl)) ?_
 rintro σ H Q ⟨A,st,d,rs,hd,q⟩;obtain⟨x,hx,h2⟩:=R.ok_of hd;obtain⟨y,hy,h3⟩:=R.ok_of h2;refine⟨A,st,x,rs,hx,λv H1 s1 r1=>⟨A,st,y,rs.mono s1,hy,λu H2 s2 r2=>?_⟩⟩
 unfold aSr at h3;split at h3
 case h_2=>cases h3
 cases h3;exact⟨_,_,by rw[r1.int,r2.int],q _ H2 (s1.trans s2) (bT.mpr rfl)⟩
theorem bGx(hm:X.mg "min"=none)(hc:X.calm=true)(ha:PE X a (tP X.K B f))(hb:PE X b (tP X.K B g))(hg:Gl X "min":=by rfl)(hs:starEach [a,b] X.env=(false,eval a X.env)::starEach [b] X.env:=by rfl)
  (hs2:starEach [b] X.env=(false,eval b X.env)::starEach [] X.env:=by rfl) (hpl:(backTo pos (starEach [b] X.env)).any (·.1)=false:=by rfl):PE X (.Call (.Name "min" p0) [a,b] [] pos) (tI X.K B (e2 aXo f g)):=by
 refine cX (tZ (aV5 hc) hg hm (by rfl) (dJ ha (dJ hb jO hs2) hs) (he:=hs) (hpl:=hpl)) ?_
 rintro σ H Q ⟨A,st,d,rs,hd,q⟩;obtain⟨x,hx,h2⟩:=R.ok_of hd;obtain⟨y,hy,h3⟩:=R.ok_of h2;refine⟨A,st,x,rs,hx,λv H1 s1 r1=>⟨A,st,y,rs.mono s1,hy,λu H2 s2 r2=>?_⟩⟩
 unfold aXo at h3;split at h3
 case h_2=>cases h3
 cases h3;exact⟨_,_,by rw[r1.int,r2.int],q _ H2 (s1.trans s2) (bT.mpr rfl)⟩
theorem aLw(ha:PE X a (tP X.K B f)):PE X (.UnaryOp .USub a pos) (tI X.K B (e1 aOe f)):=by
 refine cX (bI2 bF9 ha) ?_
 rintro σ H Q ⟨A,st,d,rs,hd,q⟩;obtain⟨x,hx,h2⟩:=R.ok_of hd;refine⟨A,st,x,rs,hx,λv H1 s1 r1=>?_⟩
 cases x<;>first|(cases h2;done)|skip
 cases h2;exact⟨_,r1.int,q _ H1 s1 (bT.mpr rfl)⟩
def bJj(neg:Bool):R2:=λx y H Q=>(y=.non/\Q (.bl (if neg then !decide (x=.non) else decide (x=.non))) H)\/∃c d,x=.bl c/\y=.bl d/\Q (.bl (if neg then !(c==d) else (c==d))) H
theorem aGa:OpR X (compareOp .IsNot) (bJj true):=by
 intro pins s σ H x y v u Q I rx ry h;rcases h with h|⟨c,d,rfl,rfl,q⟩
 .exact bAw pins s σ H x y v u Q I rx ry h
 .cases rx;cases ry;exact isnot_bool ⟨.bl (!(c==d)),H,I,rfl,q⟩
theorem aGb{K:Frag}:aCk K (bJj true) aAi:=by
 intro A H x y d v u Q w rx ry e q;cases y<;>first|(cases x<;>(cases e;done))|skip
 .cases e;exact .inl ⟨ry.non,q _ H (bL.refl _) (dC.mpr (by rw[<-bCp rx];rfl))⟩
 .cases x<;>first|(cases e;done)|skip
  cases e;exact .inr ⟨_,_,rx.bl,ry.bl,q _ H (bL.refl _) (dC.mpr rfl)⟩
open Classical in
noncomputable def aCl(K:Frag)(H:Hp)(x:D)(u:Value):Bool:=if ∃d z,Rep K H d z/\RelV z u/\plain d=true/\eqD d x=true then true else false
theorem aUb(I:Inv X pins σ H s){x:D}{z:V}{u:Value}(r:Rep X.K H d z)(rz:RelV z u)(pd:plain d=true):aCl X.K H x u=eqD d x:=by
 unfold aCl;split
 .rename_i h;obtain⟨d',z',r',rz',pd',e⟩:=h;have:=RelV.inj rz rz';subst this;rw[Rep.inj I pd pd' r r',e]
 .rename_i h;cases hb:eqD d x with
  |false=>rfl
  |true=>exact(h ⟨d,z,r,rz,pd,hb⟩).elim
theorem aJv{pins:List (Addr×Obj)}{σ:LSt}{H:Hp}{s:Shared}(I:Inv X pins σ H s){x:D}:∀{ds:List D}{zs:List V}{us:List Value},bM X.K H ds zs->Vals zs us->fW ds=true->us.any (aCl X.K H x)=inD x ds
 |[],zs,us,r,v,_=>by
  have e:=dI.mp r;subst e;cases v;rfl
 |d::ds,zs,us,r,v,p=>by
  obtain⟨z,r',e,h1,h2⟩:=bZ.mp r;subst e;simp only[lA,and_eq_true]at p;cases v with
  |cons v vs=>
   rw[any_cons,aUb I h1 v p.1,aJv I h2 vs p.2];unfold inD;rw[any_cons]
theorem aJw{pins:List (Addr×Obj)}{σ:LSt}{H:Hp}{s:Shared}(I:Inv X pins σ H s){A:Around}{x:D}{zx:V}{ux:Value}(rx:Rep X.K H x zx)(vx:RelV zx ux)(px:plain x=true):∀{ds:List D}{zs:List V}{us:List Value},bM X.K H ds zs->Vals zs us->fW ds=true->A.units+mQ ds<cLine->∀u∈us,EqAt A s u ux (aCl X.K H x u)
 |[],zs,us,r,v,_,_=>by
  have e:=dI.mp r;subst e;cases v;exact λu hu=>nomatch hu
 |d::ds,zs,us,r,v,p,hd=>by
  obtain⟨z,r',e,h1,h2⟩:=bZ.mp r;subst e;simp only[lA,and_eq_true]at p;rw[aBy]at hd;cases v with
  |cons v vs=>
   intro u hu;rcases List.mem_cons.mp hu with rfl|hu
   .rw[aUb I h1 v p.1];exact aZr I d x A z zx _ ux h1 rx v vx (by omega) p.1 px
   .exact aJw I rx vx px h2 vs p.2 (by omega) u hu
def bD3(K:Frag)(neg:Bool):R2:=λv u H Q=>(∃a o,u=.ref a/\aCj H a v o/\Q (.bl (if neg then !o.isSome else o.isSome)) H)\/(∃x ds zs p,u=.ref p/\(SqL K H p zs\/SqT K H p zs)/\Rep K H x v/\bM K H ds zs/\mQ ds<=60/\plain x=true/\fW ds=true/\Q (.bl (if neg then !inD x ds else inD x ds)) H)\/
 ∃i j:List Nat,v=.str ⟨i.toArray⟩/\u=.str ⟨j.toArray⟩/\Q (.bl (if neg then !(kY j i 0).isSome else (kY j i 0).isSome)) H
theorem some_of(x y:List Nat):(!(Builtin.Str.occurrences ⟨x.toArray⟩ ⟨y.toArray⟩ 0 (⟨x.toArray⟩:Str).length 1).isEmpty)=(kY x y 0).isSome:=by
 rw[aCc];cases kY x y 0<;>rfl
theorem aS2(hu:X.A.units+64<cLine):OpR X (compareOp .In) (bD3 X.K false):=by
 intro pins s σ H v u a b Q I ra rb h;rcases h with ⟨p,o,rfl,g,q⟩|⟨x,ds,zs,p,rfl,hq,rx,rds,hd,px,pd,q⟩|⟨i,j,rfl,rfl,q⟩
 .cases rb;exact bKo (by omega) I g ra λs' I'=>⟨.bl _,H,I',rfl,q⟩
 .cases rb;have hin:X.A.in1.units+mQ ds<cLine:=by show X.A.units+1+mQ ds<cLine;omega
  rcases hq with hq|hq
  .obtain⟨its,r,pl,hz⟩:=I.list hq;refine SeqAt.in_listAt (aCl X.K H x) pl.isList (λw hw=>aJw I rx ra px rds r pd hin w (by simpa using hw)) ⟨.bl _,H,I,rfl,?_⟩
   rw[show its.toArray.any (aCl X.K H x)=its.any (aCl X.K H x) by simp,aJv I rds r pd]
   exact q
  .obtain⟨its,r,pl,hz⟩:=I.tuple hq;refine SeqAt.in_tupleAt (aCl X.K H x) pl (λw hw=>aJw I rx ra px rds r pd hin w (by simpa using hw)) ⟨.bl _,H,I,rfl,?_⟩
   rw[show its.toArray.any (aCl X.K H x)=its.any (aCl X.K H x) by simp,aJv I rds r pd]
   exact q
 .refine aV3 pins s σ H _ _ a b Q I ra rb ⟨_,_,rfl,rfl,?_⟩;rw[some_of];exact q
theorem aGc(hu:X.A.units+64<cLine):OpR X (compareOp .NotIn) (bD3 X.K true):=by
 intro pins s σ H v u a b Q I ra rb h;rcases h with ⟨p,o,rfl,g,q⟩|⟨x,ds,zs,p,rfl,hq,rx,rds,hd,px,pd,q⟩|⟨i,j,rfl,rfl,q⟩
 .cases rb;exact bBb (by omega) I g ra λs' I'=>⟨.bl _,H,I',rfl,q⟩
 .cases rb;have hin:X.A.in1.units+mQ ds<cLine:=by show X.A.units+1+mQ ds<cLine;omega
  rcases hq with hq|hq
  .obtain⟨its,r,pl,hz⟩:=I.list hq;refine SeqAt.notIn_listAt (aCl X.K H x) pl.isList (λw hw=>aJw I rx ra px rds r pd hin w (by simpa using hw)) ⟨.bl _,H,I,rfl,?_⟩
   rw[show its.toArray.any (aCl X.K H x)=its.any (aCl X.K H x) by simp,aJv I rds r pd]
   exact q
  .obtain⟨its,r,pl,hz⟩:=I.tuple hq;refine SeqAt.notIn_tupleAt (aCl X.K H x) pl (λw hw=>aJw I rx ra px rds r pd hin w (by simpa using hw)) ⟨.bl _,H,I,rfl,?_⟩
   rw[show its.toArray.any (aCl X.K H x)=its.any (aCl X.K H x) by simp,aJv I rds r pd]
   exact q
 .refine aMa pins s σ H _ _ a b Q I ra rb ⟨_,_,rfl,rfl,?_⟩;rw[some_of];exact q
theorem aS3{K:Frag}:aCk K (bD3 K false) dIn:=by
 intro A H x y d v u Q w rx ry e q;unfold dIn at e;split at e
 .obtain⟨c,e⟩:=aW e;cases e;rename_i t ks ds;have rxr:Rep K H x v:=rx.rep;obtain⟨a,o,e1,g,g1,_⟩:=aHw ry rxr c;exact .inl ⟨a,o,e1,g,by rw[g1];exact q _ H (bL.refl _) (dC.mpr rfl)⟩
 .obtain⟨c,e⟩:=aW e;cases e;obtain⟨p,zs,h1,h2,h3⟩:=ry.lst;exact .inr (.inl ⟨_,_,zs,p,h1,.inl h2,rx.rep,h3.mono (bN _ _),c.1,c.2.1,c.2.2,q _ H (bL.refl _) (dC.mpr rfl)⟩)
 .obtain⟨c,e⟩:=aW e;cases e;obtain⟨p,zs,h1,h2,h3⟩:=ry.tup;exact .inr (.inl ⟨_,_,zs,p,h1,.inr h2,rx.rep,h3.mono (bN _ _),c.1,c.2.1,c.2.2,q _ H (bL.refl _) (dC.mpr rfl)⟩)
 .cases e;exact .inr (.inr ⟨_,_,rx.str,ry.str,q _ H (bL.refl _) (dC.mpr rfl)⟩)
 .cases e
theorem aGd{K:Frag}:aCk K (bD3 K true) aAh:=by
 intro A H x y d v u Q w rx ry e q;unfold aAh at e;split at e
 .obtain⟨c,e⟩:=aW e;cases e;rename_i t ks ds;have rxr:Rep K H x v:=rx.rep;obtain⟨a,o,e1,g,g1,_⟩:=aHw ry rxr c;exact .inl ⟨a,o,e1,g,by rw[g1];exact q _ H (bL.refl _) (dC.mpr rfl)⟩
 .obtain⟨c,e⟩:=aW e;cases e;obtain⟨p,zs,h1,h2,h3⟩:=ry.lst;exact .inr (.inl ⟨_,_,zs,p,h1,.inl h2,rx.rep,h3.mono (bN _ _),c.1,c.2.1,c.2.2,q _ H (bL.refl _) (dC.mpr rfl)⟩)
 .obtain⟨c,e⟩:=aW e;cases e;obtain⟨p,zs,h1,h2,h3⟩:=ry.tup;exact .inr (.inl ⟨_,_,zs,p,h1,.inr h2,rx.rep,h3.mono (bN _ _),c.1,c.2.1,c.2.2,q _ H (bL.refl _) (dC.mpr rfl)⟩)
 .cases e;exact .inr (.inr ⟨_,_,rx.str,ry.str,q _ H (bL.refl _) (dC.mpr rfl)⟩)
 .cases e
end
end Pu
namespace Pu
open PySem PySem.Spec PyProof.Rows L2
section
variable{X:Cx}{B:List Addr}{a b e:Expr}{f g:Ex}{pos:Pos}
theorem aBa(i:Nat){x:Str} (he:PE X e (tI X.K B f)) (hN:X.N[i]?=some x:=by rfl) (hv:Vis X.env.scope x:=by first|exact Or.inl rfl|exact Or.inr (Or.inl rfl)|exact Or.inr (Or.inr rfl)) (hd:(x==("__debug__":Str))=false:=by decide)
  (hcd:(x==("__classdict__":Str))=false:=by decide) (hbase:attributeBase (.Name x p1) "append" X.env (eval (.Name x p1) X.env)=eval (.Name x p1) X.env:=by rfl)
  (hfew:((backTo cpos (starEach [e] X.env)).all (λx=>!x.1)&&(backToKw cpos (keywordEach [] X.env)).all (λx=>x.1.isSome)
   && decide (([e]:List Expr).length+([]:List Keyword).length+(if ([]:List Keyword).isEmpty then 0 else 1)<30))=true:=by rfl)
  (hline:(apos.endLine==cpos.line)=true:=by rfl) (hs:starEach [e] X.env=(false,eval e X.env)::starEach [] X.env:=by rfl)
  (hsw:swapsWith (.Call (.Attribute (.Name x p1) "append" apos) [e] [] cpos) none pos.line X.env=pure false:=by rfl) :
  PS X (.Expr (.Call (.Attribute (.Name x p1) "append" apos) [e] [] cpos) pos) (tS X.K B (aE1 i f)):=by
 refine lL (aM8 (aSp PySem.F.plainAttrs_list PySem.F.slot_list_append PySem.F.type_list_append aVb (vR hN hv hd hcd) (dJ he jO hs) hbase hfew hline hs rfl) hsw) ?_
 rintro Dn σ H ⟨A,st,r,rs,hr,p⟩;obtain⟨d,hd,h3⟩:=R.ok_of hr;split at h3
 .rename_i xs e1;obtain⟨c,h4⟩:=aW h3;cases h4;obtain⟨l,o,vs,e2,m,h1,ko,q,u⟩:=rs.lst i _ xs e1;have eo:o=.lst vs:=ko;subst eo;refine⟨.ref l,e2,.inl ⟨rfl,vs,SqL.of h1⟩,A,st,d,rs,hd,λv H' s rv=>?_⟩
  have ql:=q.length;refine⟨l,vs,v,rfl,rfl,s _ _ h1,by rw[ql];rw[rR]at c;exact Nat.lt_of_lt_of_le c (by decide),?_⟩
  obtain⟨w1,w2⟩:=(rs.mono s).write e1 e2 (k1:=.l) (ds:=xs++[d]) (vs':=vs++[v]) rfl ((q.mono (bL.hide s)).append (.cons rv .nil));exact p A _ _ ((Le.of s).trans w2) w1
 .cases h3
theorem aPu(i:Nat) {j:Expr} (hj:PE X j (tP X.K B g)) (he:PE X e (tI X.K B f)) (hN:X.N[i]?=some x:=by rfl) (hv:Vis X.env.scope x:=by first|exact Or.inl rfl|exact Or.inr (Or.inl rfl)|exact Or.inr (Or.inr rfl)) (hd:(x==("__debug__":Str))=false:=by decide)
  (hcd:(x==("__classdict__":Str))=false:=by decide)
  (ha:∀v,assign (.Subscript (.Name x p1) j p2) X.env v=(do
   let ov <- holding [v] (eval (.Name x p1) X.env);let iv <- holding [v,ov] (eval j X.env)
   standAt p2
   holding [v,ov,iv] (setItem ov iv v)
   release [v,ov,iv] []):=by intro _;rfl)
  (hs:swapsWithSole [.Subscript (.Name x p1) j p2] e pos.line X.env=pure false:=by rfl) (hw:swappedStores [.Subscript (.Name x p1) j p2] e X.env=pure none:=by rfl)
  (h1:(assignEach [.Subscript (.Name x p1) j p2] X.env).map (·.2)=[assign (.Subscript (.Name x p1) j p2) X.env]:=by rfl) :
  PS X (.Assign [.Subscript (.Name x p1) j p2] e pos) (tS X.K B (aOg i g f)):=by
 refine lL (aQo he (aX7 (vR hN hv hd hcd) hj set_list ha) hs hw h1) ?_
 rintro Dn σ H ⟨A,st,r,rs,hr,p⟩;obtain⟨d,hd,h3⟩:=R.ok_of hr;obtain⟨y,hy,h4⟩:=R.ok_of h3;obtain⟨k,rfl,h5⟩:=aFt h4;split at h5
 .rename_i xs e1;obtain⟨n,hn,h6⟩:=R.ok_of h5;cases h6;obtain⟨l,o,vs,e2,m,h1,ko,q,u⟩:=rs.lst i _ xs e1;have eo:o=.lst vs:=ko;subst eo;refine⟨A,st,d,rs,hd,λv H' s rv=>⟨.ref l,e2,A,st,_,rs.mono s,hy,λw H2 s2 rw2=>?_⟩⟩
  have ql:=q.length;have hk:L2.ixN vs.length k=some n:=by rw[ql,aPf];exact yL hn
  refine⟨l,vs,k,n,rfl,rw2.int,(s.trans s2) _ _ h1,hk,?_⟩;obtain⟨w1,w2⟩:=(rs.mono (s.trans s2)).write e1 e2 (k1:=.l) (ds:=xs.set n d) (vs':=vs.set n v) rfl (bM.set (rv.mono (bL.hide s2)) n (q.mono (bL.hide (s.trans s2))));exact p A _ _ ((Le.of (s.trans s2)).trans w2) w1
 .cases h5
theorem aUc(i:Nat) {dp:Pos} (hN:X.N.Nodup) (hi:X.N[i]?=some x:=by rfl) (hx:Loc X.env.scope x:=by first|exact Or.inl rfl|exact Or.inr rfl) (hs:swapsWith (.Dict [] [] dp) (some (.Name x pos')) pos.line X.env=pure false:=by rfl)
  (hf:X.fn x=true\/X.env.scope.names.lookup x=some .local:=by first|exact .inl rfl|exact .inr rfl|assumption):PS X (.Assign [.Name x pos'] (.Dict [] [] dp) pos) (tS X.K B (aXp i false)):=lL (aI7 hN hi hx aXj hs hf) (by
 rintro Dn σ H ⟨A,st,r,rs,hr,p⟩;cases hr;exact λa ha=>p (a::A) _ _ (aNc ha) (rs.setO (kk:=.d false []) i ha (.inl ⟨rfl,[],rfl,rfl,rfl⟩) .nil))
def bJk:V->V->V->Hp->(Hp->Prop)->Prop:=λo i v H Q=>∃p H',o=.ref p/\aMh H p i v H'/\Q H'
theorem set_dict(hu:X.A.units+64<cLine):bEw X bJk:=by
 intro pins s σ H o i v ov iv u Q I ro ri rv h;obtain⟨p,H',rfl,g,q⟩:=h;cases ro;exact aVg (by omega) I g ri rv λs' I'=>⟨H',I',q⟩
theorem aNj(hu:X.A.units+64<cLine)(i:Nat) {j:Expr} (hj:PE X j (tI X.K B g)) (he:PE X e (tI X.K B f)) (hN:X.N[i]?=some x:=by rfl) (hv:Vis X.env.scope x:=by first|exact Or.inl rfl|exact Or.inr (Or.inl rfl)|exact Or.inr (Or.inr rfl)) (hd:(x==("__debug__":Str))=false:=by decide)
  (hcd:(x==("__classdict__":Str))=false:=by decide)
  (ha:∀v,assign (.Subscript (.Name x p1) j p2) X.env v=(do
   let ov <- holding [v] (eval (.Name x p1) X.env);let iv <- holding [v,ov] (eval j X.env)
   standAt p2
   holding [v,ov,iv] (setItem ov iv v)
   release [v,ov,iv] []):=by intro _;rfl)
  (hs:swapsWithSole [.Subscript (.Name x p1) j p2] e pos.line X.env=pure false:=by rfl) (hw:swappedStores [.Subscript (.Name x p1) j p2] e X.env=pure none:=by rfl)
  (h1:(assignEach [.Subscript (.Name x p1) j p2] X.env).map (·.2)=[assign (.Subscript (.Name x p1) j p2) X.env]:=by rfl) :
  PS X (.Assign [.Subscript (.Name x p1) j p2] e pos) (tS X.K B (sDPut i g f)):=by
 refine lL (aQo he (aX7 (vR hN hv hd hcd) hj (set_dict hu) ha) hs hw h1) ?_
 rintro Dn σ H ⟨A,st,r,rs,hr,p⟩;obtain⟨d,hd,h3⟩:=R.ok_of hr;obtain⟨k,hk,h5⟩:=R.ok_of h3;split at h5
 .rename_i t ks ds e1;obtain⟨c,h6⟩:=aW h5;cases h6;obtain⟨l,o,vs,e2,m,h1,ko,q,u⟩:=rs.lst i _ _ e1;refine⟨A,st,d,rs,hd,λv H' s rv=>⟨.ref l,e2,A,st,k,rs.mono s,hk,λw H2 s2 rk=>?_⟩⟩
  have hl:H2 l=some o:=(s.trans s2) _ _ h1;have q2:=q.mono (bL.hide (s.trans s2));have rv2:=rv.mono (bL.hide s2);have rk2:Rep X.K H2 k w:=rk.mono (bN _ _);have hlen:ds.length<sizeLine:=by have:=c.2;rw[rR]at this;exact Nat.lt_of_lt_of_le this (by decide)
  have ql:=q.length;rcases ko with ⟨rfl,kvs,rfl,rfl,rfl⟩|⟨rfl,kvs,rfl,rfl,rfl⟩
  .obtain⟨k',e3,e4⟩:=aDl rk2 c.1;subst e3 e4;obtain⟨z1,z2⟩:=aU7 aNa k' v d rv2 kvs ds q2;refine⟨l,_,rfl,aMh.k hl (by rw[length_map]at ql;omega),?_⟩
   obtain⟨w1,w2⟩:=(rs.mono (s.trans s2)).write e1 e2 (k1:=.d false (zK (kvs.map λp=>pB p.1) (pB k'))) (.inl ⟨rfl,putK kvs k' v,rfl,z1,rfl⟩) z2
   exact p A _ _ ((Le.of (s.trans s2)).trans w2) w1
  .obtain⟨k',b,e3,e4,e5⟩:=aH5 rk2 c.1;subst e3 e4;obtain⟨z1,z2⟩:=aU7 (E:=λl=>D.tup (l.map pB)) aPi k' v d rv2 kvs ds q2
   refine⟨l,_,rfl,aMh.t hl e5 (by rw[length_map]at ql;omega),?_⟩
   obtain⟨w1,w2⟩:=(rs.mono (s.trans s2)).write e1 e2 (k1:=.d true (zK (kvs.map λp=>D.tup (p.1.map pB)) (.tup (k'.map pB)))) (.inr ⟨rfl,putK kvs k' v,rfl,z1,rfl⟩) z2
   exact p A _ _ ((Le.of (s.trans s2)).trans w2) w1
 .cases h5
theorem bJl(i:Nat){x:Str} (he:PE X e (tF X.K B f)) (hN:X.N[i]?=some x:=by rfl) (hv:Vis X.env.scope x:=by first|exact Or.inl rfl|exact Or.inr (Or.inl rfl)|exact Or.inr (Or.inr rfl)) (hd:(x==("__debug__":Str))=false:=by decide)
  (hcd:(x==("__classdict__":Str))=false:=by decide) (hbase:attributeBase (.Name x p1) "extend" X.env (eval (.Name x p1) X.env)=eval (.Name x p1) X.env:=by rfl)
  (hfew:((backTo cpos (starEach [e] X.env)).all (λx=>!x.1)&&(backToKw cpos (keywordEach [] X.env)).all (λx=>x.1.isSome)
   && decide (([e]:List Expr).length+([]:List Keyword).length+(if ([]:List Keyword).isEmpty then 0 else 1)<30))=true:=by rfl)
  (hline:(apos.endLine==cpos.line)=true:=by rfl) (hs:starEach [e] X.env=(false,eval e X.env)::starEach [] X.env:=by rfl)
  (hsw:swapsWith (.Call (.Attribute (.Name x p1) "extend" apos) [e] [] cpos) none pos.line X.env=pure false:=by rfl) :
  PS X (.Expr (.Call (.Attribute (.Name x p1) "extend" apos) [e] [] cpos) pos) (tS X.K B (bBf i f)):=by
 refine lL (aM8 (aSp PySem.F.plainAttrs_list PySem.F.slot_list_extend PySem.F.type_list_extend aVc (vR hN hv hd hcd) (dJ he jO hs) hbase hfew hline hs rfl) hsw) ?_
 rintro Dn σ H ⟨A,st,r,rs,hr,p⟩;obtain⟨d,hd,h3⟩:=R.ok_of hr;cases d<;>first|(cases h3;done)|skip
 rename_i ys;have h3':(match st[i]? with|some (some (.o .l xs))=>aY (xs.length+ys.length<=big) (R.ok (Fl.nx (st.set i (some (.o .l (xs++ys))))))|_=>.bad)=.ok r:=h3
 split at h3'
 .rename_i xs e1;obtain⟨c,h4⟩:=aW h3';cases h4;obtain⟨l,o,vs,e2,m,h1,ko,q,u⟩:=rs.lst i _ xs e1;have eo:o=.lst vs:=ko;subst eo;refine⟨.ref l,e2,.inl ⟨rfl,vs,SqL.of h1⟩,A,st,ys,rs,hd,λn zs H' s hn rz=>?_⟩
  have ql:=q.length;have zl:=rz.length;have hl:H' l=some (.lst vs):=s _ _ h1;have ne:l≠n:=bI hl hn;refine⟨l,n,vs,zs,rfl,rfl,by rw[bQ ne];exact hl,cD,by rw[ql,zl];exact lim c,?_⟩
  have s2:=s.trans (cH (o:=HO.lst zs) hn);obtain⟨w1,w2⟩:=(rs.mono s2).write e1 e2 (k1:=.l) (ds:=xs++ys) (vs':=vs++zs) rfl ((q.mono (bL.hide s2)).append (rz.mono (bL.hide (cH hn))));exact p A _ _ ((Le.of s2).trans w2) w1
 .cases h3'
end
section
open PySem.SeqAt
open PySem.AutoSeq1 (wpAny_loadPart')
open PySem.MeetsSeq PySem.MeetsSeq2 PySem.MeetsSeq3
inductive LexV (A:Around) (s:Shared):List Value->List Value->Bool->Prop where
 |nn:LexV A s [] [] false
 |nc {w:Value} {ws:List Value}:LexV A s [] (w::ws) true
 |cn {v:Value} {vs:List Value}:LexV A s (v::vs) [] false
 |eq {v w:Value} {vs ws:List Value} {b:Bool}:EqAt A s v w true->LexV A s vs ws b->LexV A s (v::vs) (w::ws) b
 |lt {v w:Value} {vs ws:List Value} {b:Bool}:EqAt A s v w false->(∀(prog:Program)(wd:World)(E Q:Value->Shared->Prop),Q (.bool b) s->wpAny (model prog wd) A (richCompare .Lt v w) Q E s)->LexV A s (v::vs) (w::ws) b
end
structure ClsAt(K:Frag)(c:String)(C:Addr):Prop where
 ns:nsIn K mainGlobals (Str.ofString c)=some (some (.ref C))
 cl:Cls K C
theorem yN{a b:String}(h:Str.ofString a=Str.ofString b):a=b:=by
 have h1:(Str.ofString a).cps=(Str.ofString b).cps:=by rw[h]
 rw[Str.ofString_eq_toList,Str.ofString_eq_toList]at h1;have h2:a.toList.map Char.toNat=b.toList.map Char.toNat:=by
  have:=congrArg Array.toList h1;simpa using this
 have inj:∀(x y:List Char),x.map Char.toNat=y.map Char.toNat->x=y:=by
  intro x
  induction x with
  |nil=>intro y h;cases y with|nil=>rfl|cons _ _=>simp at h
  |cons a x ih=>
   intro y h;cases y with
   |nil=>simp at h
   |cons b y=>
    rw[map_cons,map_cons]at h;injection h with h3 h4
    rw[ih y h4];congr 1;exact Char.ext (UInt32.toNat_inj.mp h3)
 exact String.toList_inj.mp (inj _ _ h2)
section
variable{K:Frag}
theorem aJx{f:String}:∀{ns:List String}{ds:List D} {fs:List (Str×V)} {d:D},fs.map (·.1)=ns.map Str.ofString->bM K H ds (fs.map (·.2))->(ns.zip ds).lookup f=some d->∃v,fs.lookup (Str.ofString f)=some v/\Rep K H d v
 |[],ds,fs,d,_,_,h=>by simp at h
 |n::ns,[],fs,d,_,_,h=>by simp at h
 |n::ns,d0::ds,[],d,e,_,h=>by simp at e
 |n::ns,d0::ds,(g,w)::fs,d,e,r,h=>by
  rw[map_cons,map_cons]at e;injection e with e1 e2
  obtain⟨v,r',e3,h1,h2⟩:=bZ.mp r;rw[map_cons]at e3;injection e3 with e4 e5
  subst e4 e5;have e1':g=Str.ofString n:=e1;subst e1';rw[zip_cons_cons,lookup_cons]at h;rw[lookup_cons]
  by_cases hf:f=n
  .subst hf;simp only[beq_self_eq_true]at h ⊢;cases h;exact⟨_,rfl,h1⟩
  .have hb:(f==n)=false:=beq_eq_false_iff_ne.mpr hf;have hb2:(Str.ofString f==Str.ofString n)=false:=beq_eq_false_iff_ne.mpr λz=>hf (yN z)
   rw[hb]at h;rw[hb2];exact aJx e2 h2 h
theorem lookup_none{f:String}:∀{ns:List String} {fs:List (Str×V)},fs.map (·.1)=ns.map Str.ofString->f∉ns->fs.lookup (Str.ofString f)=none
 |[],fs,e,_=>by cases fs with|nil=>rfl|cons _ _=>simp at e
 |n::ns,[],e,_=>rfl
 |n::ns,(g,w)::fs,e,h=>by
  rw[map_cons,map_cons]at e;injection e with e1 e2
  have e1':g=Str.ofString n:=e1;subst e1';rw[lookup_cons];have hb2:(Str.ofString f==Str.ofString n)=false:=beq_eq_false_iff_ne.mpr λz=>h (by rw[yN z];exact mem_cons_self)
  rw[hb2];exact lookup_none e2 λz=>h (mem_cons_of_mem _ z)
theorem aPv{f:String}{v:V}:∀{ns:List String} {fs:List (Str×V)},fs.map (·.1)=ns.map Str.ofString->f∉ns->aA7 (Str.ofString f) v fs=fs++[(Str.ofString f,v)]
 |[],fs,e,_=>by cases fs with|nil=>rfl|cons _ _=>simp at e
 |n::ns,[],e,_=>by simp at e
 |n::ns,(g,w)::fs,e,h=>by
  rw[map_cons,map_cons]at e;injection e with e1 e2
  have e1':g=Str.ofString n:=e1;subst e1';unfold aA7;rw[if_neg (λz=>h (by rw[yN z];exact mem_cons_self)),aPv e2 λz=>h (mem_cons_of_mem _ z)]
  rfl
end
section
variable{X:Cx}{B:List Addr}{a b e o:Expr}{f g:Ex}{pos:Pos}
theorem mK.ins{K:Frag}{A:List Addr}{H:Hp}{c:String}{ns:List String}{ds:List D}{v:V}(h:mK K A H (.ins c ns ds) v):∃p C dx fs,v=.ref p/\H p=some (.ins C dx fs)/\nsIn K mainGlobals (Str.ofString c)=some (some (.ref C))/\fs.map (·.1)=ns.map Str.ofString/\bM K (hide A H) ds (fs.map (·.2)):=by
 rcases h with h|⟨p,kk,o,ds',vs,e,e2,h,ko,r⟩
 .obtain⟨p,C,dx,fs,vs,e,q1,q2,q3,q4,r⟩:=aHv.mp h;subst q4;exact⟨p,C,dx,fs,e,bN _ _ _ _ q1,q2,q3,r⟩
 .cases kk<;>cases e;obtain⟨_,C,dx,fs,rfl,q2,q3,rfl⟩:=ko;exact⟨p,C,dx,fs,e2,h,q2,q3,r⟩
theorem sW{c f':String} (hc:ClsAt X.K c C) (hn:mJ X.K C (Str.ofString f')) (ho:PE X o (tP X.K B f)) (hb:attributeBase o (Str.ofString f') X.env (eval o X.env)=eval o X.env:=by rfl) :
  PE X (.Attribute o (Str.ofString f') pos) (tI X.K B (e1 (jJ c f') f)):=by
 refine cX (bFa ho hb) ?_
 rintro σ H Q ⟨A,st,d,rs,hd,q⟩;obtain⟨x,hx,h2⟩:=R.ok_of hd;refine⟨A,st,x,rs,hx,λv H1 s1 r1=>?_⟩
 cases x<;>first|(cases h2;done)|skip
 obtain⟨e1,h3⟩:=aW h2;subst e1;obtain⟨p,C',dx,fs,e2,h4,h5,h6,h7⟩:=r1.ins;have:C'=C:=by have z:=h5.symm.trans hc.ns;injection z with z;injection z with z;injection z
 subst this;obtain⟨w,h8,h9⟩:=aJx h6 h7 (yL h3);exact⟨p,C',dx,fs,w,e2,h4,hc.cl,hn,h8,q w H1 s1 h9⟩
structure MethOk(P:Program)(w:World)(K:Frag)(mg:Str->Option Value)(base:Heap)(c m:String)(k np:Nat)(dv:List D)(p:List D->R D):Prop where
 ex:∃(C fa:Addr)(fd:FuncData)(ps:List Str)(dvs:List V)(ds:List Value),ClsAt K c C/\Meth K C (Str.ofString m) fa/\FnOk P w K mg base CX0 k fa fd ps (spI K np p)/\Binds K fd ps ds/\Vals dvs ds/\∀H,bM K H dv dvs
 len:∀ds d,p ds=.ok d->ds.length=np
theorem jF{c m:String}{k:Nat} {pl:Sem Bool} (h:MethOk X.prog X.w X.K X.mg X.base c m k np dv p) (hr:Room j X.A) (hk:k<=j) (ho:PE X o (tI X.K B f)) (ha:PA X (e::es) (tA X.K B r))
  (hst:starEach (e::es) X.env=(false,eval e X.env)::starEach es X.env:=by rfl) (hpl:(backTo pos (starEach es X.env)).any (·.1)=false:=by rfl)
  (ht:eval (.Call (.Attribute o (Str.ofString m) apos) (e::es) [] pos) X.env=(do
   let ov <- eval o X.env
   standAt apos.atName
   let (f,first) <- holding [ov] (getMethod ov (Str.ofString m) pl)
   callWith pos f first (backTo pos (starEach (e::es) X.env)) (backToKw pos (keywordEach [] X.env))):=by rfl) :
  PE X (.Call (.Attribute o (Str.ofString m) apos) (e::es) [] pos) (tI X.K B (dY c m p dv f r)):=by
 obtain⟨C,fa,fd,ps,dvs,ds,hc,hm,F,bd,vd,rd⟩:=h.ex;refine cX (bB2 (pl:=pl) ho hc.cl hm F (hr.mono hk) bd vd aOa ha hst hpl ht) ?_
 rintro σ H Q ⟨A,st,d,rs,hd,q⟩;obtain⟨x,hx,h2⟩:=R.ok_of hd;obtain⟨xs,hxs,h3⟩:=R.ok_of h2;refine⟨A,st,x,rs,hx,λv H1 s1 r1=>?_⟩
 cases x<;>first|(cases h3;done)|skip
 obtain⟨⟨e1,hn⟩,h4⟩:=aW h3;subst e1;obtain⟨p',C',dx,fs,e2,h5,h6,h7,h8⟩:=mK.ins (.inl r1);have:C'=C:=by have z:=h6.symm.trans hc.ns;injection z with z;injection z with z;injection z
 subst this;refine⟨p',dx,fs,e2,h5,lookup_none h7 hn,A,st,xs,rs.mono s1,hxs,λvs H2 s2 r2=>?_⟩
 exact⟨A++B,_,d,rs.own.mono (s1.trans s2),.cons (r1.mono (bL.hide s2)) (r2.append (rd _)),h.len _ _ h4,h4,λw H' s' r'=>q w H' (s1.trans (s2.trans s')) r'⟩
def spM(K:Frag)(c:String)(np:Nat)(p:List D->R D):Sp:=λvs H Q _=>∃x ws A C dx ds d,vs=.ref x::ws/\H x=some (.ins C dx [])/\nsIn K mainGlobals (Str.ofString c)=some (some (.ref C))/\Own A H/\x∉A/\bM K (hide (x::A) H) ds ws/\ds.length=np/\p ds=.ok d/\
 ∀H',bL (hide [x] H) H'->Rep K (hide A H') d (.ref x)->Q .non H'
structure MakeOk(P:Program)(w:World)(K:Frag)(mg:Str->Option Value)(base:Heap)(c:String)(k np:Nat)(p:List D->R D):Prop where
 ex:∃(C fa:Addr)(fd:FuncData)(ps:List Str),ClsAt K c C/\Mk K C fa/\FnOk P w K mg base CX0 k fa fd ps (spM K c np p)/\Binds K fd ps []/\mg (Str.ofString c)=some (.ref C)
 len:∀ds d,p ds=.ok d->ds.length=np
theorem aZz{c:String}{k:Nat} (h:MakeOk X.prog X.w X.K X.mg X.base c k np p) (hr:Room j X.A) (hk:k+1<=j) (ha:PA X (e::es) (tA X.K B r)) (hg:Gl X (Str.ofString c):=by rfl) (hdb:(Str.ofString c==("__debug__":Str))=false:=by decide)
  (he:starEach (e::es) X.env=(false,eval e X.env)::starEach es X.env:=by rfl) (hpl:(backTo pos (starEach es X.env)).any (·.1)=false:=by rfl):PE X (.Call (.Name (Str.ofString c) p0) (e::es) [] pos) (tI X.K B (aV p r)):=by
 obtain⟨C,fa,fd,ps,hc,M,F,bd,hm⟩:=h.ex;refine cX (bB3 M F (hr.mono hk) hg hm bd .nil aOa ha hdb he hpl) ?_
 rintro σ H Q ⟨A,st,d,rs,hd,q⟩;obtain⟨xs,hx,h2⟩:=R.ok_of hd;refine⟨A,st,xs,rs,hx,λvs H1 s1 r1 x dx hx0 hdx hne=>?_⟩
 have w1:=rs.own.mono s1;have hxA:x∉A++B:=w1.free hx0;have e0:∀b u,H1 b=some u->upd (upd H1 dx (.own x)) x (.ins C dx []) b=some u:=λb u z=>by
  rw[bQ (bI z hx0),bQ (bI z hdx)];exact z
 refine⟨x,vs++[],A++B,C,dx,xs,d,rfl,cD,hc.ns,λb hb=>?_,hxA,?_,h.len _ _ h2,h2,λH' sm rd=>⟨rfl,q _ H' (λb u z=>?_) rd⟩⟩
 .obtain⟨u,z⟩:=Option.isSome_iff_exists.mp (w1 b hb);rw[e0 b u z];rfl
 .rw[append_nil];refine r1.mono λb u z=>?_
  have z1:=bN _ _ _ _ z;have hb:b∉A++B:=λy=>by rw[jU y]at z;cases z
  rw[cL (λy=>(List.mem_cons.mp y).elim (bI z1 hx0) hb)]
  exact e0 b u z1
 .have z1:=s1 _ _ z;exact sm b u (by rw[cL (by simpa using bI z1 hx0)];exact e0 b u z1)
theorem aWd{K:Frag} {ws:List V} {x dx:Addr} {c:String} (w:Own A H) (hxA:x∉A) (hx:H x=some (.ins C dx [])) (hns:nsIn K mainGlobals (Str.ofString c)=some (some (.ref C))) (r:bM K (hide (x::A) H) ds ws) :
  RS K A [x] H (some (Sl.o (.i x c []) [])::(ds.map (λd=>some (Sl.v d))++List.replicate (N.length-ds.length-1) none)) (L2.start N (.ref x::ws)):=by
 have hl:=r.length;have sh:L2.start N (.ref x::ws)=some (.ref x)::(ws.map some++List.replicate (N.length-ds.length-1) none):=by
  unfold L2.start;rw[map_cons,cons_append,length_cons,hl];congr 2
 rw[sh];have nov:∀(i:Nat)(s:Sl),(ds.map (λd=>some (Sl.v d))++List.replicate (N.length-ds.length-1) none)[i]?=some (some s)->∃d,ds[i]?=some d/\s=.v d:=λi s e=>by
  by_cases hi:i<ds.length
  .rw[List.getElem?_append_left (by simpa using hi),List.getElem?_map,List.getElem?_eq_getElem hi]at e
   simp at e;exact⟨ds[i],List.getElem?_eq_getElem hi,e.symm⟩
  .rw[List.getElem?_append_right (by simpa using hi),List.getElem?_replicate]at e
   split at e<;>simp at e
 refine⟨by simp[hl],λb hb=>?_,λb hb=>by rw[List.mem_singleton.mp hb];exact hxA,λi d e=>?_,λi k xs e=>?_⟩
 .rcases List.mem_append.mp hb with hb|hb
  .rw[List.mem_singleton.mp hb,hx];rfl
  .exact w b hb
 .cases i with
  |zero=>simp at e
  |succ i=>
   rw[getElem?_cons_succ]at e;obtain⟨d',e1,e2⟩:=nov i _ e;cases e2;obtain⟨v,hv,rv⟩:=r.get e1;refine⟨v,?_,rv⟩;have hi:i<ws.length:=(List.getElem?_eq_some_iff.mp hv).1;rw[getElem?_cons_succ,List.getElem?_append_left (by simpa using hi),List.getElem?_map,hv]
   rfl
 .cases i with
  |zero=>
   simp at e;obtain⟨rfl,rfl⟩:=e;refine⟨x,_,[],rfl,List.mem_singleton.mpr rfl,hx,⟨rfl,C,dx,[],rfl,hns,rfl,rfl⟩,.nil,λj k' ys ej _=>?_⟩
   cases j with
   |zero=>rfl
   |succ j=>
    rw[getElem?_cons_succ]at ej;obtain⟨_,_,e2⟩:=nov j _ ej;cases e2
  |succ i=>
   rw[getElem?_cons_succ]at e;obtain⟨_,_,e2⟩:=nov i _ e;cases e2
theorem bD4{K:Frag} {st:Stmt} {f:Addr} {k:Nat} (F:Fun K x qual st f fd) (S:FnScope N ps (aJ st)) (c:String) (np n:Nat) (bd:Bd) (hnp:ps.length=np+1) (hn:N.length=n)
  (hb:∀(cdv:Value)(A:Around)(outer:List Env)(s:Shared)(H:Hp)(E:XK)(B:List Addr),Room k (A.deeper (envOfC qual (aJ st) s.heap.objs.size f cdv))->
   PSs (aI8 CX0 P w K mg base N qual (aJ st) f cdv A outer s H E).nox (fK st) (tS K B bd)):FnOk P w K mg base CX0 (k+1) f fd ps (spM K c np (aMl c np n bd)):=by
 refine F.ok S (λvs H Q E h=>?_) (λcdv A outer s H vs Q E hr h=>?_)
 .obtain⟨y,ws,A,C,dx,ds,d,rfl,_,_,_,_,r,hl,_⟩:=h;rw[length_cons,r.length,hl,hnp]
 .obtain⟨y,ws,A',C,dx,ds,d,rfl,hy,hns,own,hyA,r,hl,hp,q⟩:=h;refine⟨tS K A' bd,hb cdv A outer s H E A' hr,?_⟩;obtain⟨_,h2⟩:=aW (aSs hp y);obtain⟨fl,hfl,h3⟩:=R.ok_of h2;have rs:=aWd (N:=N) (c:=c) own hyA hy hns r;rw[hl,hn]at rs;refine⟨[y],_,fl,rs,hfl,?_⟩;cases fl with
  |nx s1=>
   intro A1 σ1 H1 l rs1;have h3':(match (s1[0]?:Option (Option Sl)) with|some (some (.o (.i y' c' ns) xs))=>aY (y'=y) (R.ok (D.ins c' ns xs))|_=>.bad)=.ok d:=h3
   split at h3'
   .rename_i y' c' ns xs e1;obtain⟨rfl,h4⟩:=aW h3';cases h4;obtain⟨a,o,vs,e2,m,h5,ko,r5,_⟩:=rs1.lst 0 _ _ e1;have ea:a=y':=ko.1;subst ea;refine q H1 (bL.trans (show bL (hide [a] H) (hide A1 H1) from l) (bN _ _)) ?_
    have:=ko.rep (H:=hide A' H1) (ds:=xs) (by rw[cL (rs1.dis a m)];exact h5) (r5.mono (mC λb hb=>List.mem_append_right _ hb))
    exact this
   .cases h3'
  |rt d'=>cases h3
  |bk s1=>cases h3
  |ct s1=>cases h3
theorem bA0{c:String} (ds:List D) (d:D) (h:aMl c np n bd ds=.ok d):ds.length=np:=(aW (aSs h 0)).1
theorem aNk(i:Nat) {c f':String} {value:Expr} (hc:ClsAt X.K c C) (hn:mJ X.K C (Str.ofString f')) (he:PE X value (tI X.K B f)) (hN:X.N[i]?=some x:=by rfl) (hv:Vis X.env.scope x:=by first|exact Or.inl rfl|exact Or.inr (Or.inl rfl)|exact Or.inr (Or.inr rfl)) (hd:(x==("__debug__":Str))=false:=by decide)
  (hcd:(x==("__classdict__":Str))=false:=by decide) (hs:swapsWith value (some (.Attribute (.Name x p1) (Str.ofString f') p2)) pos.line X.env=pure false:=by rfl) :
  PS X (.Assign [.Attribute (.Name x p1) (Str.ofString f') p2] value pos) (tS X.K B (aL3 i c f' f)):=by
 refine lL (bFb (vR hN hv hd hcd) he hs) ?_
 rintro Dn σ H ⟨A,st,r,rs,hr,p⟩;obtain⟨d,hd,h3⟩:=R.ok_of hr;split at h3
 .rename_i n c' ns xs e1;obtain⟨⟨ec,hf,hlen⟩,h4⟩:=aW h3;subst ec;cases h4;obtain⟨l,o,vs,e2,m,h1,ko,q,u⟩:=rs.lst i _ _ e1;obtain⟨el,C',dx,fs,rfl,k1,k2,rfl⟩:=ko;have:C'=C:=by have z:=k1.symm.trans hc.ns;injection z with z;injection z with z;injection z
  subst this;refine⟨A,st,d,rs,hd,λy H1 s1 r1=>⟨.ref l,e2,l,C',dx,fs,rfl,s1 _ _ h1,hc.cl,hn,?_,?_⟩⟩
  .have:=congrArg List.length k2;rw[length_map,length_map]at this;omega
  .rw[aPv k2 hf];obtain⟨w1,w2⟩:=(rs.mono s1).write e1 e2 (k1:=.i n c' (ns++[f'])) (o':=.ins C' dx (fs++[(Str.ofString f',y)])) (ds:=xs++[d]) (vs':=fs.map (·.2)++[y]) ⟨el,C',dx,_,rfl,k1,by rw[List.map_append,List.map_append,k2];rfl,by rw[List.map_append];rfl⟩ ((q.mono (bL.hide s1)).append (.cons r1 .nil))
   exact p A _ _ ((Le.of s1).trans w2) w1
 .cases h3
theorem yO:PS X sm (tS X.K B vW):=λ_ _ _ _ _ _ ⟨_,_,_,_,h,_⟩=>nomatch h
end
section
variable {iter c:Expr} {t:Tg} {u:Ex}
theorem aLx{H3 H5:Hp}{s3 s5:Shared}{fp:List Addr}{p:Addr}{m5:Str->Option Value} (hN:X.N.Nodup) (hi:X.N[i]?=some x) (hx:Loc X.env.scope x)
  (hf:X.fn x=true\/X.env.scope.names.lookup x=some .local) (hC:s3.heap.objs.size<=C) (I3:Inv X pins σ H3 s3) (hfp:∀b∈fp,aDy X pins H3 b) (I5:Inv (cQ X scope C s3 H3 fp) [] τ H5 s5) (hn5:s5.heap.Ns C m5)
  (hQ:∀s',Inv X pins (σ.set i (some (.ref p))) H5 s'->Qf .none s'):compPost (model X.prog X.w) X.A X.xe (some (assign (.Name x px) X.env)) Qf (.ref p) C (.ok .next) s5:=by
 have I5':Inv X pins σ H5 {s5 with heap:=s5.heap}:=aHx I3 hfp hC I5 (.refl ..)
 have lt:∀b o,s3.heap.get? b=some o->C≠b:=λb o e z=>Nat.lt_irrefl _ (Nat.lt_of_lt_of_le (Heap.lt_size (z ▸ e)) hC)
 have hL:C≠X.env.locals:=λz=>Nat.lt_irrefl _ (Nat.lt_of_lt_of_le (z ▸ I3.lt) hC)
 have hc:∀y c,X.env.cells.lookup y=some c->c≠C:=λy c e=>by
  obtain⟨v,o,ho,_⟩:=I3.cell y c e;exact(lt c o ho).symm
 have hp:∀q∈X.pn++pins,q.1≠C:=λq hq=>(lt q.1 q.2 (I3.pin q hq).1).symm
 show wpAny _ X.A (assign (.Name x px) X.env (.ref p)) _ _ _;refine wpAny_assign_Name (aKv (v:=.ref p) I5' hN hi hx rfl (λs6 I6 ⟨a,hs,ha⟩=>?_) hf)
 have hCa:C≠a:=by
  rcases ha with z|z
  .rw[z];exact hL
  .exact(hc x a z).symm
 refine⟨m5,hn5.sameBut hs hCa,λh' hs'=>hQ _ ?_⟩
 exact I6.turned (t':=s6.toks) (λb o hb e=>(hs'.2 b hb).trans e) (show H5 C=none from I5.free) hL (.inr (Nat.le_trans I3.sz hC)) hc hp
theorem aNl(i:Nat){x:Str}{spos:Pos}(is:List Nat)(hsub:aJu is t)(S:CScope X scope is)(hi:L2.PI X tg iter (tIt X.K B it))(hg:∀(B:List Addr)(C:Addr)(s₀:Shared)(H₀:Hp)(fp:List Addr),PG (cQ X scope C s₀ H₀ fp) tg (tG X.K B t))
  (he:∀(B:List Addr)(C:Addr)(s₀:Shared)(H₀:Hp)(fp:List Addr),PE (cQ X scope C s₀ H₀ fp) elt (tI X.K B f)) (hc:X.calm=true) (hN:X.N.Nodup) (hi':X.N[i]?=some x:=by rfl) (hx:Loc X.env.scope x:=by first|exact Or.inl rfl|exact Or.inr rfl)
  (hsw:swapsWith (.ListComp elt [⟨tg,iter,[],0⟩] scope pos) (some (.Name x px)) spos.line X.env=pure true:=by rfl)
  (hf:X.fn x=true\/X.env.scope.names.lookup x=some .local:=by first|exact .inl rfl|exact .inr rfl|assumption) (hs:∀x,foldedSetIterable iter X.env x=pure x:=by intro _;rfl) :
  PS X (.Assign [.Name x px] (.ListComp elt [⟨tg,iter,[],0⟩] scope pos) spos) (tS X.K B (cB i (cY is t it dD f))):=by
 intro pins s σ H Dn I h;obtain⟨A,st,r,rs,hr,q⟩:=h;obtain⟨d,hd,h3⟩:=R.ok_of hr;cases h3;obtain⟨xs,hx',h2⟩:=R.ok_of hd;obtain⟨hl,h3⟩:=aW h2;obtain⟨ys,hy,h4⟩:=R.ok_of h3;cases h4;rw[exec_Assign_Name_used _ _ _ _ hsw];refine wpAny_bind (wpAny_standAt (wpAny_bind ?_));show wpAny _ X.A (do let _ <- comprehension (.ListComp elt [⟨tg,iter,[],0⟩] scope pos) scope X.env _ (newList []) false (eval iter X.env) (some (assign (.Name x px) X.env))) _ _ s
 refine wpAny_bind (wpAny_mono (Q:=λ_ s'=>SP X pins Dn .next s') ?_ (λ_ s' hq=>wpAny_pure (wpAny_pure hq)) λ_ _ e=>e)
 refine xH (use:=some (assign (.Name x px) X.env)) (Qf:=λ_ s'=>SP X pins Dn .next s') (Q:=λv H'=>Dn.nx (σ.set i (some v)) H') (tt:=aNg) (te:=tIx X.K f) (rest:=λenv it p=>eval elt env >>= λx=>call (.builtin "list.append") [p,x] >>= λ_=>again (.compLoop (.ListComp elt [⟨tg,iter,[],0⟩] scope pos) 0 it p env)) S hc hi (λC s₀ H₀ fp=>aZo λB=>hg B C s₀ H₀ fp) (λ_ _ _=>uH)
  (λC s₀ H₀ fp it p s Q h=>bJe (Y:=cQ X scope C s₀ H₀ fp) h) (λC s₀ H₀ fp it p τ H s pins vs N Q I h q=>bEj (Y:=cQ X scope C s₀ H₀ fp) rfl (aZn λB=>he B C s₀ H₀ fp) τ H s pins vs N Q I h (λQ Q' m h=>aB9 Q Q' m h) q) hs I
  (aPn hsub (λτ H Q ⟨B,A,st,k,rs,hk,q⟩=>?_) rs hx' hl hy λp vs H1 H' s1 hp s2 hv r=>aNh (Q:=λv H'=>Dn.nx (σ.set i (some v)) H') rs (λv H' sm rv=>q A _ H' (Le.of sm) ((rs.mono sm).set i rv)) s1 hp s2 hv r) λC p H5 s5 m5 s3 H3 fp τ hC I3 hfp I5 hn5 q5=>aLx hN hi' hx hf hC I3 hfp I5 hn5 λs' I'=>⟨_,_,I',q5⟩
 cases hk;exact q H (bL.refl _)
theorem aF6(i:Nat){x:Str}{spos:Pos}(is:List Nat)(hsub:aJu is t)(S:CScope X scope is)(hi:L2.PI X tg iter (tIt X.K B it))(hg:∀(B:List Addr)(C:Addr)(s₀:Shared)(H₀:Hp)(fp:List Addr),PG (cQ X scope C s₀ H₀ fp) tg (tG X.K B t))
  (ht:∀(B:List Addr)(C:Addr)(s₀:Shared)(H₀:Hp)(fp:List Addr),PT (cQ X scope C s₀ H₀ fp) c (tT X.K B u))
  (he:∀(B:List Addr)(C:Addr)(s₀:Shared)(H₀:Hp)(fp:List Addr),PE (cQ X scope C s₀ H₀ fp) elt (tI X.K B f)) (hc:X.calm=true) (hN:X.N.Nodup) (hi':X.N[i]?=some x:=by rfl) (hx:Loc X.env.scope x:=by first|exact Or.inl rfl|exact Or.inr rfl)
  (hsw:swapsWith (.ListComp elt [⟨tg,iter,[c],0⟩] scope pos) (some (.Name x px)) spos.line X.env=pure true:=by rfl)
  (hf:X.fn x=true\/X.env.scope.names.lookup x=some .local:=by first|exact .inl rfl|exact .inr rfl|assumption) (hs:∀x,foldedSetIterable iter X.env x=pure x:=by intro _;rfl) :
  PS X (.Assign [.Name x px] (.ListComp elt [⟨tg,iter,[c],0⟩] scope pos) spos) (tS X.K B (cB i (cY is t it u f))):=by
 intro pins s σ H Dn I h;obtain⟨A,st,r,rs,hr,q⟩:=h;obtain⟨d,hd,h3⟩:=R.ok_of hr;cases h3;obtain⟨xs,hx',h2⟩:=R.ok_of hd;obtain⟨hl,h3⟩:=aW h2;obtain⟨ys,hy,h4⟩:=R.ok_of h3;cases h4;rw[exec_Assign_Name_used _ _ _ _ hsw];refine wpAny_bind (wpAny_standAt (wpAny_bind ?_));show wpAny _ X.A (do let _ <- comprehension (.ListComp elt [⟨tg,iter,[c],0⟩] scope pos) scope X.env _ (newList []) false (eval iter X.env) (some (assign (.Name x px) X.env))) _ _ s
 refine wpAny_bind (wpAny_mono (Q:=λ_ s'=>SP X pins Dn .next s') ?_ (λ_ s' hq=>wpAny_pure (wpAny_pure hq)) λ_ _ e=>e)
 exact xH (use:=some (assign (.Name x px) X.env)) (Qf:=λ_ s'=>SP X pins Dn .next s') (Q:=λv H'=>Dn.nx (σ.set i (some v)) H') (tt:=tTx X.K u) (te:=tIx X.K f) (rest:=λenv it p=>isTrue c env (eval c env) >>= λok=>if ok=true then (eval elt env >>= λx=>call (.builtin "list.append") [p,x] >>= λ_=>again (.compLoop (.ListComp elt [⟨tg,iter,[c],0⟩] scope pos) 0 it p env)) else again (.compLoop (.ListComp elt [⟨tg,iter,[c],0⟩] scope pos) 0 it p env)) S hc hi (λC s₀ H₀ fp=>aZo λB=>hg B C s₀ H₀ fp) (λ_ _ _=>uH)
  (λC s₀ H₀ fp it p s Q h=>bGs (Y:=cQ X scope C s₀ H₀ fp) h) (λC s₀ H₀ fp it p τ H s pins vs N Q I h q=>aZp (Y:=cQ X scope C s₀ H₀ fp) rfl (aZn λB=>he B C s₀ H₀ fp) (bGt λB=>ht B C s₀ H₀ fp) τ H s pins vs N Q I h (λ_ Q Q' m h=>aB9 Q Q' m h) q) hs I
  (aPn hsub (λτ H Q h=>h) rs hx' hl hy λp vs H1 H' s1 hp s2 hv r=>aNh (Q:=λv H'=>Dn.nx (σ.set i (some v)) H') rs (λv H' sm rv=>q A _ H' (Le.of sm) ((rs.mono sm).set i rv)) s1 hp s2 hv r) λC p H5 s5 m5 s3 H3 fp τ hC I3 hfp I5 hn5 q5=>aLx hN hi' hx hf hC I3 hfp I5 hn5 λs' I'=>⟨_,_,I',q5⟩
end
structure FunD(K:Frag)(x qual:Str)(st:Stmt)(dV:Value)(f:Addr)(fd:FuncData):Prop where
 ex:∃(oc:Value)(od:Option Addr)(kV doc pm:Value)(an:Option Addr)(cdv ct:Value) (osl:Array (Option Value)),
  fd=fnOf x qual (jA st) (fK st) (aJ st) dV kV doc pm an cdv ct/\K.lookup f=some ⟨oc,od,.func fd,osl⟩/\codeIn K cdv qual=true
 kp:keepIn K (.ref f)=true
section
variable {K:Frag} {st:Stmt} {f:Addr} {k:Nat}
theorem aHz{od an:Option Addr} {kV doc pm cdv ct:Value} (l:K.lookup f=some ⟨oc,od,.func (fnOf x qual (jA st) (fK st) (aJ st) dV kV doc pm an cdv ct),osl⟩)
  (c:codeIn K cdv qual=true) (k:keepIn K (.ref f)=true):FunD K x qual st dV f (fnOf x qual (jA st) (fK st) (aJ st) dV kV doc pm an cdv ct):=⟨⟨oc,od,kV,doc,pm,an,cdv,ct,osl,rfl,l,c⟩,k⟩
theorem FunD.binds0(F:FunD K x qual st .none f fd)
  (h:∀(kV doc pm:Value)(an:Option Addr)(cdv ct:Value)(us:List Value),us.length=ps.length->bindArgs (fnOf x qual (jA st) (fK st) (aJ st) .none kV doc pm an cdv ct) ⟨us,[]⟩=pure (ps.zip us)):Binds K fd ps []:=by
 obtain⟨oc,od,kV,doc,pm,an,cdv,ct,osl,rfl,lk,hcd⟩:=F.ex;exact .all (h kV doc pm an cdv ct)
theorem FunD.okX{sp:Sp}(F:FunD K x qual st dV f fd)(S:FnScope N ps (aJ st))(len:∀vs H Q E,sp vs H Q E->vs.length=ps.length)
  (hbody:∀(cdv:Value)(A:Around)(outer:List Env)(s:Shared)(H:Hp)(vs:List V)(Q:VK)(E:XK),Room k (A.deeper (envOfC qual (aJ st) s.heap.objs.size f cdv))->sp vs H Q E->
   ∃t,PSs (aI8 CX0 P w K mg base N qual (aJ st) f cdv A outer s H E).nox (fK st) t/\t {nx:=λ_ H'=>Q .non H',rt:=Q} (L2.start N vs) H):FnOk P w K mg base CX0 (k+1) f fd ps sp:=by
 obtain⟨oc,od,kV,doc,pm,an,cdv,ct,osl,rfl,lk,hcd⟩:=F.ex;refine bDx lk hcd S len λA outer s H vs Q E hr hsp=>?_
 obtain⟨t,h,q⟩:=hbody cdv A outer s H vs Q E hr hsp;exact⟨t,h.nox,q⟩
theorem cG(F:FunD K x qual st dV f fd)(S:FnScope N ps (aJ st))(np n:Nat)(bd:Bd)(hnp:ps.length=np)(hn:N.length=n)
  (hb:∀(cdv:Value)(A:Around)(outer:List Env)(s:Shared)(H:Hp)(E:XK)(B:List Addr),Room k (A.deeper (envOfC qual (aJ st) s.heap.objs.size f cdv))->
   PSs (aI8 CX0 P w K mg base N qual (aJ st) f cdv A outer s H E).nox (fK st) (tS K B bd)):FnOk P w K mg base CX0 (k+1) f fd ps (spI K np (cJ np n bd)):=by
 refine F.okX S (λvs H Q E h=>?_) (λcdv A outer s H vs Q E hr h=>?_)
 .obtain⟨A,ds,d,own,r,hl,_⟩:=h;rw[r.length,hl,hnp]
 .obtain⟨B,ds,d,own,r,hl,hp,q⟩:=h;refine⟨tS K B bd,hb cdv A outer s H E B hr,?_⟩;obtain⟨_,h2⟩:=aW hp;obtain⟨fl,hfl,h3⟩:=R.ok_of h2;have rs:=aJq (N:=N) own r;rw[hl,hn]at rs;refine⟨[],_,fl,rs,hfl,?_⟩;have fin:∀{A':List Addr}{H':Hp},Le [] H A' H'->bL H H':=λ{A' H'} l=>by
   unfold Le at l;rw[xF]at l;exact l.trans (bN _ _)
  cases fl with
  |nx s1=>
   cases h3;exact λA' σ' H' l rs'=>q _ H' (fin l) (tQ.mpr rfl)
  |rt d'=>
   cases h3;exact λA' v H' l rv=>q v H' (fin l) (rv.mono (mC λa ha=>List.mem_append_right _ ha))
  |bk s1=>exact nomatch h3
  |ct s1=>exact nomatch h3
theorem MethOk.of{c m:String} {ds:List Value} (hc:ClsAt K c C) (hm:Meth K C (Str.ofString m) f) (F:FnOk P w K mg base CX0 k f fd ps (spI K np (cJ np n bd))) (b:Binds K fd ps ds) (v:Vals dvs ds) (r:∀H,bM K H dv dvs):MethOk P w K mg base c m k np dv (cJ np n bd):=
 ⟨⟨C,f,fd,ps,dvs,ds,hc,hm,F,b,v,r⟩,aF4⟩
end
end Pu
namespace Pu
open PySem PySem.Spec PyProof.Rows L2 PySem.SeqAt
section
variable {a b:Expr}
theorem aS4:oM X (.type "list") (λvs H Q=>∃l xs,vs=[.ref l]/\(SqL X.K H l xs\/SqT X.K H l xs)/\∀n,H n=none->Q (.ref n) (upd H n (.lst xs))):=by
 intro pins s σ H vs us Q I r h;obtain⟨l,xs,rfl,hl,q⟩:=h;obtain⟨u,rfl,ru⟩:=r.one;obtain rfl:u=Value.ref l:=ru;rcases hl with hl|hl
 .obtain⟨its,rv,⟨ob,n,e,hc,_,hd⟩,hz⟩:=I.list hl;refine call_list_seq l (T:="list") (.inl rfl) e hc hd (λh' c' k hn=>?_) (by rw[rv.length]at hz;simpa using hz)
  exact⟨.ref s.heap.objs.size,_,I.laid (o:=.lst xs) (t':=s.toks) k (Nat.le_refl _) ⟨hz,its,c',rv,hn⟩,rfl,q _ (I.hok.fresh (Nat.le_refl _))⟩
 .obtain⟨its,rv,⟨ob,e,hc,n,hd⟩,hz⟩:=I.tuple hl;refine call_list_seq l (T:="tuple") (.inr rfl) e hc hd (λh' c' k hn=>?_) (by rw[rv.length]at hz;simpa using hz)
  exact⟨.ref s.heap.objs.size,_,I.laid (o:=.lst xs) (t':=s.toks) k (Nat.le_refl _) ⟨hz,its,c',rv,hn⟩,rfl,q _ (I.hok.fresh (Nat.le_refl _))⟩
theorem aGe(hm:X.mg "list"=none)(ha:PE X a (tP X.K B f))(hg:Gl X "list":=by rfl)(hs:starEach [a] X.env=(false,eval a X.env)::starEach [] X.env:=by rfl):PE X (.Call (.Name "list" p0) [a] [] pos) (tI X.K B (e1 aGq f)):=by
 refine cX (aBx aS4 hg hm (by rfl) (dJ ha jO hs) (he:=hs)) ?_
 rintro σ H Q ⟨A,st,d,rs,hd,q⟩;obtain⟨x,hx,h2⟩:=R.ok_of hd;refine⟨A,st,x,rs,hx,λv H1 s1 r1=>?_⟩
 cases x<;>first|(cases h2;done)|skip
 .cases h2;obtain⟨l,vs,e,h3,r3⟩:=r1.tup;exact⟨l,vs,by rw[e],.inr h3,λn hn=>q _ _ (s1.trans (cH hn)) (jM (rs.own.mono s1) hn r3)⟩
 .cases h2;obtain⟨l,vs,e,h3,r3⟩:=r1.lst;exact⟨l,vs,by rw[e],.inl h3,λn hn=>q _ _ (s1.trans (cH hn)) (jM (rs.own.mono s1) hn r3)⟩
theorem aUd:∀{l:List Bool}{us:List Value},Vals (l.map V.bl) us->us=l.map Value.bool
 |[],_,.nil=>rfl
 |b::l,_,.cons r t=>by
  rw[aUd t];cases r;rfl
theorem aWe(hc:X.calm=true):oM X (.builtin "all") (λvs H Q=>∃(l:Addr)(bs:List Bool),vs=[.ref l]/\SqL X.K H l (bs.map V.bl)/\Q (.bl (bs.all id)) H):=by
 intro pins s σ H vs us Q I r h;obtain⟨l,bs,rfl,hl,q⟩:=h;obtain⟨u,rfl,ru⟩:=r.one;obtain rfl:u=Value.ref l:=ru;obtain⟨its,rv,⟨ob,n,e,hcl,_,hd⟩,hz⟩:=I.list hl;have ei:=aUd rv;have isl:s.heap.IsList l its.toArray:=⟨ob,e,hcl,n,hd⟩;have hlt:l<s.heap.objs.size:=Heap.lt_size e;refine call_all_walk (wpAny_pyIter_list isl ⟨s.heap.objs.size,_,_,_,_,_,λi=>bs[i]?.getD false,rfl,Walks.list (A:=X.A.in1) (I.ok.hd hc) _ l (Nat.ne_of_lt hlt) its.toArray,⟨⟨_,Heap.get?_push_size _ rfl,rfl,rfl⟩,isl.push _⟩,?_,λh' tk k=>?_⟩)
 .intro i v s' Q' E' hv hq;rw[ei]at hv;simp only[List.getElem?_toArray,List.getElem?_map,Option.map_eq_some_iff]at hv;obtain⟨b,hb,rfl⟩:=hv;have hq':Q' (bs[i]?.getD false) s':=hq;rw[hb]at hq';exact wpAny_pure hq'
 .refine⟨.bl (bs.all id),H,I.kept (λb u z=>k b u (λhb=>?_) (Heap.get?_push_of_some _ z)),?_,q⟩
  .have:=List.mem_singleton.mp hb;exact Nat.lt_irrefl _ (this ▸ Heap.lt_size z)
  .show Value.bool _=Value.bool _;congr 1;rw[Bool.eq_iff_iff,List.all_eq_true,List.all_eq_true];have hsz:its.toArray.size=bs.length:=by rw[ei];simp
   rw[hsz];constructor
   .intro h x hx;obtain⟨i,hi,rfl⟩:=List.mem_iff_getElem.mp hx;have:=h i (List.mem_range.mpr hi);rw[List.getElem?_eq_getElem hi]at this;exact this
   .intro h i hi;have hi':=List.mem_range.mp hi;rw[List.getElem?_eq_getElem hi'];exact h _ (List.getElem_mem hi')
theorem aUe{K:Frag}{H:Hp}:∀{l:List Bool}{vs:List V},bM K H (l.map D.bl) vs->vs=l.map V.bl
 |[],vs,h=>dI.mp h
 |b::l,vs,h=>by
  obtain⟨v,r,rfl,h1,h2⟩:=bZ.mp h;rw[aUe h2,dC.mp h1];rfl
theorem aUf(hm:X.mg "all"=none)(hc:X.calm=true)(ha:PE X a (tP X.K B f))(hg:Gl X "all":=by rfl)(hs:starEach [a] X.env=(false,eval a X.env)::starEach [] X.env:=by rfl):PE X (.Call (.Name "all" p0) [a] [] pos) (tI X.K B (e1 aHg f)):=by
 refine cX (tZ (aWe hc) hg hm (by rfl) (dJ ha jO hs) (he:=hs)) ?_
 rintro σ H Q ⟨A,st,d,rs,hd,q⟩;obtain⟨x,hx,h2⟩:=R.ok_of hd;refine⟨A,st,x,rs,hx,λv H1 s1 r1=>?_⟩
 cases x<;>first|(cases h2;done)|skip
 obtain⟨bs,h3,h4⟩:=R.ok_of h2;cases h4;obtain⟨l,vs,e,h5,r5⟩:=r1.lst;rw[aXw h3]at r5;rw[aUe r5]at h5;exact⟨l,bs,by rw[e],h5,q _ H1 s1 (dC.mpr rfl)⟩
theorem aPw:∀{l:List Int}{us:List Value},Vals (l.map V.int) us->∃ps:List (Int×Tok),us=ps.map (λp=>Value.int p.1 p.2)/\ps.map (·.1)=l
 |[],_,.nil=>⟨[],rfl,rfl⟩
 |b::l,_,.cons r t=>by
  obtain⟨ps,e,e2⟩:=aPw t;obtain⟨t,rfl⟩:=r;exact⟨(b,t)::ps,by rw[e];rfl,by rw[map_cons,e2]⟩
theorem aPx{ps:List (Int×Tok)} (hi:i<ps.length):numAt ps.toArray i=(ps.map (·.1))[i]'(by simpa using hi):=by
 unfold numAt;rw[List.getElem?_toArray,List.getElem?_eq_getElem hi];simp
theorem aWf(hc:X.calm=true):oM X (.builtin "max") (λvs H Q=>∃(l:Addr)(is:List Int),vs=[.ref l]/\SqL X.K H l (is.map V.int)/\0<is.length/\Q (.int (aMn is)) H):=by
 intro pins s σ H vs us Q I r h;obtain⟨l,is,rfl,hl,hp,q⟩:=h;obtain⟨u,rfl,ru⟩:=r.one;obtain rfl:u=Value.ref l:=ru;obtain⟨its,rv,⟨ob,n,e,hcl,_,hd⟩,hz⟩:=I.list hl;obtain⟨ps,ei,e2⟩:=aPw rv;have hlen:ps.length=is.length:=by rw[<-e2,length_map]
 have isl:s.heap.IsList l (intItems ps.toArray):=⟨ob,e,hcl,n,by rw[hd,ei];simp[intItems]⟩
 refine max_intList (I.ok.hd hc) isl (by simpa [hlen] using hp) λv h' tk hv k=>?_
 obtain⟨t,rfl⟩:=intItems_at hv;refine⟨.int (aMn is),H,I.kept k,⟨t,?_⟩,q⟩;congr 1;have hs:ps.toArray.size=ps.length:=rfl;rw[hs];obtain⟨h1,h2⟩:=argBest_gt (numAt ps.toArray) (ps.length-1);have hb:argBest (λi j=>decide (numAt ps.toArray i>numAt ps.toArray j)) (ps.length-1)<ps.length:=by omega
 refine(aT2 ?_ λx hx=>?_).symm
 .rw[aPx hb,<-e2];exact List.getElem_mem _
 .rw[<-e2]at hx;obtain⟨i,hi,rfl⟩:=List.mem_iff_getElem.mp hx;have hi':i<ps.length:=by simpa using hi
  rw[<-aPx hi'];exact h2 i (by omega)
theorem aPy{K:Frag}{H:Hp}:∀{l:List Int}{vs:List V},bM K H (l.map D.int) vs->vs=l.map V.int
 |[],vs,h=>dI.mp h
 |b::l,vs,h=>by
  obtain⟨v,r,rfl,h1,h2⟩:=bZ.mp h;rw[aPy h2,bT.mp h1];rfl
theorem bEl(hm:X.mg "max"=none)(hc:X.calm=true)(ha:PE X a (tP X.K B f))(hg:Gl X "max":=by rfl)(hs:starEach [a] X.env=(false,eval a X.env)::starEach [] X.env:=by rfl):PE X (.Call (.Name "max" p0) [a] [] pos) (tI X.K B (e1 aOi f)):=by
 refine cX (tZ (aWf hc) hg hm (by rfl) (dJ ha jO hs) (he:=hs)) ?_
 rintro σ H Q ⟨A,st,d,rs,hd,q⟩;obtain⟨x,hx,h2⟩:=R.ok_of hd;refine⟨A,st,x,rs,hx,λv H1 s1 r1=>?_⟩
 cases x<;>first|(cases h2;done)|skip
 obtain⟨is,h3,h4⟩:=R.ok_of h2;obtain⟨c,h4⟩:=aW h4;cases h4;obtain⟨l,vs,e,h5,r5⟩:=r1.lst;rw[aE6 h3]at r5;rw[aPy r5]at h5;exact⟨l,is,by rw[e],h5,c,q _ H1 s1 (bT.mpr rfl)⟩
end
end Pu
namespace Pu
open PySem PySem.Spec PyProof.Rows L2
abbrev XW:=D->L2.St->Hp->Prop
end Pu
variable{W:Pu.XW}
namespace Pu
open PySem PySem.Spec PyProof.Rows L2
section
variable {K:Frag} {f:Addr} {k:Nat}
theorem MakeOk.of{c:String} (hc:ClsAt K c C) (hm:Mk K C f) (F:FnOk P w K mg base CX0 k f fd ps (spM K c np (aMl c np n bd))) (b:Binds K fd ps []) (m:mg (Str.ofString c)=some (.ref C)):MakeOk P w K mg base c k np (aMl c np n bd):=
 ⟨⟨C,f,fd,ps,hc,hm,F,b,m⟩,bA0⟩
end
section
variable{P:List α->Prop}
theorem aUg(h:P [])(us:List α)(hl:us.length=0):P us:=by rw[List.length_eq_zero_iff.mp hl];exact h
theorem aCd(h:∀a us,us.length=n->P (a::us))(us:List α)(hl:us.length=n+1):P us:=by
 cases us with
 |nil=>cases hl
 |cons a us=>exact h a us (Nat.succ.inj hl)
theorem aNm(h:∀a,P [a])(us:List α)(hl:us.length=1):P us:=aCd (λa=>aUg (h a)) us hl
theorem aUh(h:∀a b,P [a,b])(us:List α)(hl:us.length=2):P us:=aCd (λa=>aNm (P:=λus=>P (a::us)) (h a)) us hl
theorem aI0(h:∀a b c,P [a,b,c])(us:List α)(hl:us.length=3):P us:=aCd (λa=>aUh (P:=λus=>P (a::us)) (h a)) us hl
theorem aUi(h:∀a b c d,P [a,b,c,d])(us:List α)(hl:us.length=4):P us:=aCd (λa=>aI0 (P:=λus=>P (a::us)) (h a)) us hl
theorem aUj(h:∀a b c d e,P [a,b,c,d,e])(us:List α)(hl:us.length=5):P us:=aCd (λa=>aUi (P:=λus=>P (a::us)) (h a)) us hl
theorem bD5(h:∀a b c d e f,P [a,b,c,d,e,f])(us:List α)(hl:us.length=6):P us:=aCd (λa=>aUj (P:=λus=>P (a::us)) (h a)) us hl
end
def Inn(K:Frag)(G H:Hp):List (List D)->List Addr->Prop
 |[],ps=>ps=[]
 |xs::xss,ps=>∃p r vs,ps=p::r/\H p=some (.lst vs)/\bM K G xs vs/\Inn K G H xss r
def tSF(K:Frag)(B:List Addr)(i:Nat)(b:Bd):TS:=λDn σ H=>∃A st st' xs,RS K B A H st σ/\b st=.ok (.nx st')/\st'[i]?=some (some (.o .l xs))/\∀A' a vs H',Le A H A' H'->a∈A'->H' a=some (.lst vs)->bM K (hide (A'++B) H') xs vs->Dn.rt (.ref a) H'
def spF(K:Frag)(np:Nat)(p:List D->R D):Sp:=λvs H Q _=>∃A ds xs,Own A H/\bM K (hide A H) ds vs/\ds.length=np/\p ds=.ok (.lst xs)/\∀a ws H',bL H H'->H a=none->H' a=some (.lst ws)->bM K (hide (a::A) H') xs ws->Q (.ref a) H'
section
variable {rest:List Stmt}
theorem aUk(h1:PS X sm (tS X.K B bd))(h2:PSs X rest (tSF X.K B i bd')):PSs X (sm::rest) (tSF X.K B i (bB bd bd')):=aCa (aI6 h1 h2) (by
 rintro Dn σ H ⟨A,st,st',xs,rs,hb,hi,q⟩;unfold bB aKi at hb;obtain⟨fl,hfl,h3⟩:=R.ok_of hb;refine⟨A,st,fl,rs,hfl,?_⟩;cases fl with
 |nx s1=>exact λA' σ' H' l rs'=>⟨A',s1,st',xs,rs',h3,hi,λA2 a vs H2 l2=>q A2 a vs H2 (l.trans l2)⟩
 |rt d=>cases h3
 |bk s1=>cases h3
 |ct s1=>cases h3)
theorem bGy(hN:X.N[i]?=some x:=by rfl)(hv:Vis X.env.scope x:=by first|exact Or.inl rfl|exact Or.inr (Or.inl rfl)|exact Or.inr (Or.inr rfl))(hd:(x==("__debug__":Str))=false:=by decide)(hcd:(x==("__classdict__":Str))=false:=by decide) :
  PSs X [.Return (some (.Name x p1)) pos] (tSF X.K B i cP):=aCa (aM7 (aQn (vR hN hv hd hcd))) (by
 rintro Dn σ H ⟨A,st,st',xs,rs,hb,hi,q⟩;cases hb;obtain⟨a,o,vs,e1,m,h1,ko,r,_⟩:=rs.lst i .l xs hi;have eo:o=.lst vs:=ko;subst eo;exact⟨.ref a,e1,q A a vs H Le.refl m h1 r⟩)
end
section
variable {K:Frag} {st:Stmt} {f:Addr} {k:Nat}
theorem bKx(F:FunD K x qual st dV f fd)(S:FnScope N ps (aJ st))(np n i:Nat)(bd:Bd)(hnp:ps.length=np)(hn:N.length=n)
  (hb:∀(cdv:Value)(A:Around)(outer:List Env)(s:Shared)(H:Hp)(E:XK)(B:List Addr),Room k (A.deeper (envOfC qual (aJ st) s.heap.objs.size f cdv))->
   PSs (aI8 CX0 P w K mg base N qual (aJ st) f cdv A outer s H E).nox (fK st) (tSF K B i bd)):FnOk P w K mg base CX0 (k+1) f fd ps (spF K np (cJ np n (aE7 bd i))):=by
 refine F.okX S (λvs H Q E h=>?_) (λcdv A outer s H vs Q E hr h=>?_)
 .obtain⟨A,ds,d,own,r,hl,_⟩:=h;rw[r.length,hl,hnp]
 .obtain⟨B,ds,xs,own,r,hl,hp,q⟩:=h;refine⟨tSF K B i bd,hb cdv A outer s H E B hr,?_⟩;obtain⟨_,h2⟩:=aW hp;obtain⟨fl,hfl,h3⟩:=R.ok_of h2;have rs:=aJq (N:=N) own r;rw[hl,hn]at rs;unfold aE7 at hfl;split at hfl
  .rename_i s1 hf1;unfold aXx at hfl;split at hfl
   .rename_i e1;cases hfl;cases h3;refine⟨[],_,s1,_,rs,hf1,e1,λA' a vs' H' l ha hv rv=>?_⟩
    have sm:bL H H':=by
     unfold Le at l;rw[xF]at l;exact l.trans (bN _ _)
    refine q a vs' H' sm ?_ hv (rv.mono (mC λb hb=>?_))
    .cases hH:H a with
     |none=>rfl
     |some o=>
      have z:=l a o (by rw[xF];exact hH)
      rw[jU ha]at z;cases z
    .rcases List.mem_cons.mp hb with rfl|hb
     .exact List.mem_append_left _ ha
     .exact List.mem_append_right _ hb
   .cases hfl
  .cases hfl
theorem aWg(h:cJ np n (aE7 bd i) ds=.ok d):∃xs,d=.lst xs:=by
 obtain⟨_,h2⟩:=aW h;obtain⟨fl,hfl,h3⟩:=R.ok_of h2;unfold aE7 at hfl;split at hfl
 .unfold aXx at hfl;split at hfl
  .cases hfl;cases h3;exact⟨_,rfl⟩
  .cases hfl
 .cases hfl
theorem aLy(hp:∀ds d,p ds=.ok d->∃xs,d=.lst xs) (F:FnOk P w K mg base CX0 k f fd ps (spF K np p)):FnOk P w K mg base CX0 k f fd ps (spI K np p):=by
 have up:∀vs H Q E,spI K np p vs H Q E->spF K np p vs H Q E:=by
  rintro vs H Q E ⟨A,ds,d,own,r,hl,he,q⟩;obtain⟨xs,rfl⟩:=hp ds d he;refine⟨A,ds,xs,own,r,hl,he,λa ws H' sm ha hv rv=>q _ H' sm (iM.mpr ⟨a,ws,rfl,SqL.of (by rw[cL (own.free ha)];exact hv),rv.mono (mC λb hb=>mem_cons_of_mem _ hb)⟩)⟩
 exact⟨λvs H Q E h=>F.len vs H Q E (up vs H Q E h),λA outer s H args us vs Q E hr e0 hb hv h=>F.run A outer s H args us vs Q E hr e0 hb hv (up vs H Q E h)⟩
end
structure MethOkF(P:Program)(w:World)(K:Frag)(mg:Str->Option Value)(base:Heap)(c m:String)(k np:Nat)(dv:List D)(p:List D->R D):Prop where
 ex:∃(C fa:Addr)(fd:FuncData)(ps:List Str)(dvs:List V)(ds:List Value),ClsAt K c C/\Meth K C (Str.ofString m) fa/\FnOk P w K mg base CX0 k fa fd ps (spF K np p)/\Binds K fd ps ds/\Vals dvs ds/\∀H,bM K H dv dvs
 len:∀ds d,p ds=.ok d->ds.length=np
 lst:∀ds d,p ds=.ok d->∃xs,d=.lst xs
theorem MethOkF.of{K:Frag} {k:Nat} {f:Addr} {c m:String} {ds:List Value} (hc:ClsAt K c C) (hm:Meth K C (Str.ofString m) f) (F:FnOk P w K mg base CX0 k f fd ps (spF K np (cJ np n (aE7 bd i)))) (b:Binds K fd ps ds) (v:Vals dvs ds) (r:∀H,bM K H dv dvs):MethOkF P w K mg base c m k np dv (cJ np n (aE7 bd i)):=
 ⟨⟨C,f,fd,ps,dvs,ds,hc,hm,F,b,v,r⟩,aF4,λ_ _ h=>aWg h⟩
theorem MethOkF.plain{K:Frag} {c m:String} {k:Nat} (h:MethOkF P w K mg base c m k np dv p):MethOk P w K mg base c m k np dv p:=by
 obtain⟨C,fa,fd,ps,dvs,ds,hc,hm,F,b,v,r⟩:=h.ex;exact⟨⟨C,fa,fd,ps,dvs,ds,hc,hm,aLy h.lst F,b,v,r⟩,h.len⟩
section
variable {a b:Expr}
theorem aPz:∀{ns:List Int}{us:List Value},Vals (ns.map V.int) us->IntsAre us ns
 |[],us,h=>by rw[h.zero];exact .nil
 |n::ns,us,h=>by
  cases h with
  |cons r t=>
   obtain⟨k,rfl⟩:=r;exact .cons n k (aPz t)
theorem aLz{K:Frag}{H:Hp}:∀{l:List Int}{vs:List V},bM K H (l.map D.int) vs->vs=l.map V.int
 |[],vs,h=>dI.mp h
 |i::l,vs,h=>by
  obtain⟨v,r,rfl,h1,h2⟩:=bZ.mp h;rw[bT.mp h1,aLz h2];rfl
end
def noH:Hp:=λ_=>none
theorem bD6:bL noH H:=λ_ _ h=>nomatch h
theorem bA1{K:Frag} (h:atom d=true) (r:Rep K H d v):Rep K noH d v:=by
 cases d<;>first|(cases h;done)|skip
 .exact tQ.mpr (tQ.mp r)
 .exact dC.mpr (dC.mp r)
 .exact bT.mpr (bT.mp r)
 .exact eU.mpr (eU.mp r)
def tC(K:Frag)(B:List Addr)(f:Ex):TE:=λσ H Q=>∃A st d xs,RS K B A H st σ/\f st=.ok d/\bFw d=.ok (.lst xs)/\∀P ps H',bL H H'->(∀p∈P::ps,H p=none)->(P::ps).Nodup->H' P=some (.lst (ps.map V.ref))->Inn K noH H' (xs.map unL) ps->Q (.ref P) H'
open Builtin
section
variable{prog:Program}{w:World}{A:Around}{E:Value->Shared->Prop}{s:Shared}
variable{z TI TO i1 i2 l:Addr}{fp:List Addr}{n k1 k2:Nat}{P:Nat->Value->Prop}{St:Nat->Heap->Prop}{ys:Array Value}{y a b:Value}
structure ZApart(z TI TO i1 i2 l:Addr)(fp:List Addr):Prop where
 TIz:TI≠z
 TOz:TO≠z
 i1z:i1≠z
 i2z:i2≠z
 TITO:TI≠TO
 TIi1:TI≠i1
 TIi2:TI≠i2
 TOi1:TO≠i1
 TOi2:TO≠i2
 i12:i1≠i2
 lz:l≠z
 lTO:l≠TO
 li1:l≠i1
 li2:l≠i2
 zf:z∉fp
 Tf:TO∉fp
 i2f:i2∉fp
theorem aS5{n l:Nat}(h:l<n):ZApart (n+4) (n+2) (n+3) n (n+1) l [n]:=by
 constructor
 .show n+2≠n+4;omega
 .show n+3≠n+4;omega
 .show n≠n+4;omega
 .show n+1≠n+4;omega
 .show n+2≠n+3;omega
 .show n+2≠n;omega
 .show n+2≠n+1;omega
 .show n+3≠n;omega
 .show n+3≠n+1;omega
 .show n≠n+1;omega
 .show l≠n+4;omega
 .show l≠n+3;omega
 .show l≠n;omega
 .show l≠n+1;omega
 .intro z;have:n+4=n:=List.mem_singleton.mp z;omega
 .intro z;have:n+3=n:=List.mem_singleton.mp z;omega
 .intro z;have:n+1=n:=List.mem_singleton.mp z;omega
theorem bA2(D1:Draws prog w A i1 fp n P St)(D:ZApart z TI TO i1 i2 l fp)
  (hz:IsZip s.heap z TI TO .none) (hTI:IsPair s.heap TI (.ref i1) (.ref i2)) (hTO:IsPair s.heap TO a b)
  (h1:St k1 s.heap) (hk1:k1<n) (h2:s.heap.IsListIter i2 l k2) (hl:s.heap.IsList l ys) (hy:ys[k2]?=some y)
  (hQ:∀h' tk x,P k1 x->IsZip h' z TI TO (rawInt s.heap.objs.size)->IsPair h' TO x y->St (k1+1) h'->h'.IsListIter i2 l (k2+1)->IsPair h' s.heap.objs.size x y->h'.objs.size=s.heap.objs.size+1->
   (∀c o,c≠z->c≠TO->c≠i1->c≠i2->s.heap.get? c=some o->h'.get? c=some o)->Q (.ref s.heap.objs.size) {s with heap:=h',toks:=tk}) :
  wpAny (model prog w) A (Builtin.«zip.__next__» ⟨[.ref z],[]⟩) (λfin s'=>∃v,fin=.done (.ret v)/\Q v s') E s:=by
 show wpAny _ _ (field (.ref z) 2 >>= _) _ _ _;refine wpAny_bind (wpAny_field hz rfl (x:=.bool false) rfl ?_);show wpAny _ _ (field (.ref z) 3 >>= _) _ _ _;refine wpAny_bind (wpAny_field hz rfl (x:=.ref TI) rfl ?_);refine wpAny_bind (wpAny_seqItems hTI rfl ?_);show wpAny _ _ (Builtin.SmallTypes.ownedTupleIsFree (.ref z) >>= _) _ _ _;refine wpAny_bind ?_
 unfold Builtin.SmallTypes.ownedTupleIsFree;refine wpAny_bind (wpAny_field hz rfl (x:=.none) rfl (wpAny_pure ?_));simp only[if_true];refine wpAny_bind (wpAny_rule ?_);refine wpAny_bind (wpAny_field hz rfl (x:=.ref TO) rfl ?_);refine wpAny_bind (wpAny_setField_rec hz (by simp) λh₁ hz₁ hs₁=>?_)
 replace hz₁:IsZip h₁ z TI TO .ellipsis:=hz₁
 refine wpAny_bind ?_
 simp only[List.zipIdx_cons,List.zipIdx_nil,forIn_cons,forIn_nil];refine wpAny_bind (wpAny_bind (wpAny_onRaise ?_));show wpAny _ _ (Builtin.SmallTypes.nextOf (.ref i1) >>= _) _ _ _;refine wpAny_bind (D1.item k1 {s with heap:=h₁} _ _ hk1 (D1.frame k1 s.heap h₁ h1 λb hb o e=>hs₁.extBut _ _ (λx=>D.zf (x ▸ hb)) e) λx h₂ tk hP h1₂ hs₂=>wpAny_pure ?_)
 have hs₂:Heap.SameBut i1 h₁ h₂:=hs₂;have hTO₂:IsPair h₂ TO a b:=hs₂.extBut _ _ D.TOi1 (hs₁.extBut _ _ D.TOz hTO);refine wpAny_bind (wpAny_seqItems hTO₂ rfl ?_);refine wpAny_bind (wpAny_updateSeq_pair hTO₂ λh₃ hTO₃ hs₃=>?_)
 replace hTO₃:IsPair h₃ TO x b:=hTO₃
 refine wpAny_bind (wpAny_letGo (wpAny_pure ?_));refine wpAny_bind (wpAny_bind (wpAny_onRaise ?_));show wpAny _ _ (Builtin.SmallTypes.nextOf (.ref i2) >>= _) _ _ _;refine wpAny_bind (wpAny_nextOf_list_item (((h2.extBut hs₁.extBut D.i2z).extBut hs₂.extBut D.i12.symm).extBut hs₃.extBut D.TOi2.symm)
  (((hl.extBut hs₁.extBut D.lz).extBut hs₂.extBut D.li1).extBut hs₃.extBut D.lTO) hy λh₄ h2₄ hs₄=>wpAny_pure ?_)
 have hTO₄:IsPair h₄ TO x b:=hs₄.extBut _ _ D.TOi2 hTO₃;refine wpAny_bind (wpAny_seqItems hTO₄ rfl ?_);refine wpAny_bind (wpAny_updateSeq_pair hTO₄ λh₅ hTO₅ hs₅=>?_)
 replace hTO₅:IsPair h₅ TO x y:=hTO₅
 refine wpAny_bind (wpAny_letGo (wpAny_pure (wpAny_pure ?_)));refine wpAny_bind (wpAny_seqItems hTO₅ rfl ?_);refine wpAny_bind (wpAny_newTuple ?_);have hs₃':Heap.SameBut TO h₂ h₃:=hs₃;have hs₄':Heap.SameBut i2 h₃ h₄:=hs₄;have hs₅':Heap.SameBut TO h₄ h₅:=hs₅;have hsz:h₅.objs.size=s.heap.objs.size:=by rw[hs₅'.1,hs₄'.1,hs₃'.1,hs₂.1,hs₁.1]
 have hz₅:IsZip h₅ z TI TO .ellipsis:=hs₅'.extBut _ _ D.TOz.symm (hs₄'.extBut _ _ D.i2z.symm (hs₃'.extBut _ _ D.TOz.symm (hs₂.extBut _ _ D.i1z.symm hz₁)));have hk₅:∀c o,c≠z->c≠TO->c≠i1->c≠i2->s.heap.get? c=some o->h₅.get? c=some o:=λc o c1 c2 c3 c4 e=>
  hs₅'.extBut _ _ c2 (hs₄'.extBut _ _ c4 (hs₃'.extBut _ _ c2 (hs₂.extBut _ _ c3 (hs₁.extBut _ _ c1 e))))
 have h1₅:St (k1+1) h₅:=D1.frame _ h₂ h₅ h1₂ λb hb o e=>hs₅'.extBut _ _ (λx=>D.Tf (x ▸ hb)) (hs₄'.extBut _ _ (λx=>D.i2f (x ▸ hb)) (hs₃'.extBut _ _ (λx=>D.Tf (x ▸ hb)) e))
 have h2₅:h₅.IsListIter i2 l (k2+1):=h2₄.extBut hs₅'.extBut D.TOi2.symm;have hzlt:z<h₅.objs.size:=Heap.lt_size hz₅;show wpAny _ _ (Builtin.SmallTypes.ownedTupleHandOut (.ref z) (.ref h₅.objs.size) >>= _) _ _ _;refine wpAny_bind ?_
 unfold Builtin.SmallTypes.ownedTupleHandOut;have hz₆:IsZip (h₅.push {cls:=.type "tuple",data:=.seq #[x,y]}) z TI TO .ellipsis:=Heap.get?_push_of_some _ hz₅;refine wpAny_bind (wpAny_setField_rec hz₆ (by simp) λh₇ hz₇ hs₇=>?_)
 replace hz₇:IsZip h₇ z TI TO (rawInt h₅.objs.size):=hz₇
 refine wpAny_setField_rec hz₇ (by simp) λh₈ hz₈ hs₈=>?_
 replace hz₈:IsZip h₈ z TI TO (rawInt h₅.objs.size):=hz₈
 have up:∀c o,c≠z->h₅.get? c=some o->h₈.get? c=some o:=λc o c1 e=>hs₈.extBut _ _ c1 (hs₇.extBut _ _ c1 (Heap.get?_push_of_some _ e))
 have hT₈:IsPair h₈ h₅.objs.size x y:=hs₈.extBut _ _ (Nat.ne_of_gt hzlt) (hs₇.extBut _ _ (Nat.ne_of_gt hzlt) (Heap.get?_push_size _ rfl));have hz8:h₈.objs.size=h₅.objs.size+1:=by rw[hs₈.1,hs₇.1,Heap.size_push]
 rw[hsz]at hz₈ hT₈ hz8;refine wpAny_pure ⟨_,rfl,?_⟩;show Q (.ref h₅.objs.size) _;rw[hsz];exact hQ h₈ _ x hP hz₈ (up _ _ D.TOz hTO₅) (D1.frame _ h₅ h₈ h1₅ λb hb o e=>up b o (λx=>D.zf (x ▸ hb)) e) (h2₅.at λo e=>up _ o D.i2z e) hT₈ hz8 λc o c1 c2 c3 c4 e=>up c o c1 (hk₅ c o c1 c2 c3 c4 e)
theorem bD7(D1:Draws prog w A i1 fp n P St)(hh:A.handled=none)(D:ZApart z TI TO i1 i2 l fp)
  (hz:IsZip s.heap z TI TO .none) (hTI:IsPair s.heap TI (.ref i1) (.ref i2)) (hTO:IsPair s.heap TO a b)
  (h1:St k1 s.heap) (h2:s.heap.IsListIter i2 l k2) (hl:s.heap.IsList l ys)
  (hend:(∀(s:Shared)(Q:Value->Shared->Prop)(E:Value->Shared->Prop),St k1 s.heap->(∀h' e,Heap.ExtBut i1 s.heap h'->(∃o,h'.get? e=some o/\o.cls=.type "StopIteration")->E (.ref e) {s with heap:=h'})->wpAny (model prog w) A (Builtin.SmallTypes.nextOf (.ref i1)) Q E s)\/(k1<n/\ys[k2]?=none)) {Q:Fin->Shared->Prop}
  (hE:∀h' e tk,(∀c o,c≠z->c≠TO->c≠i1->c≠i2->s.heap.get? c=some o->h'.get? c=some o)->(∃o,h'.get? e=some o/\o.cls=.type "StopIteration")->E (.ref e) {s with heap:=h',toks:=tk}) :
  wpAny (model prog w) A (Builtin.«zip.__next__» ⟨[.ref z],[]⟩) Q E s:=by
 show wpAny _ _ (field (.ref z) 2 >>= _) _ _ _;refine wpAny_bind (wpAny_field hz rfl (x:=.bool false) rfl ?_);show wpAny _ _ (field (.ref z) 3 >>= _) _ _ _;refine wpAny_bind (wpAny_field hz rfl (x:=.ref TI) rfl ?_);refine wpAny_bind (wpAny_seqItems hTI rfl ?_);show wpAny _ _ (Builtin.SmallTypes.ownedTupleIsFree (.ref z) >>= _) _ _ _;refine wpAny_bind ?_
 unfold Builtin.SmallTypes.ownedTupleIsFree;refine wpAny_bind (wpAny_field hz rfl (x:=.none) rfl (wpAny_pure ?_));simp only[if_true];refine wpAny_bind (wpAny_rule ?_);refine wpAny_bind (wpAny_field hz rfl (x:=.ref TO) rfl ?_);refine wpAny_bind (wpAny_setField_rec hz (by simp) λh₁ hz₁ hs₁=>?_)
 replace hz₁:IsZip h₁ z TI TO .ellipsis:=hz₁
 refine wpAny_bind ?_
 simp only[List.zipIdx_cons,List.zipIdx_nil,forIn_cons,forIn_nil];refine wpAny_bind (wpAny_bind (wpAny_onRaise ?_));show wpAny _ _ (Builtin.SmallTypes.nextOf (.ref i1) >>= _) _ _ _;have fr1:St k1 h₁:=D1.frame k1 s.heap h₁ h1 λb hb o e=>hs₁.extBut _ _ (λx=>D.zf (x ▸ hb)) e
 rcases hend with hend|⟨hkn,hy⟩
 .refine wpAny_bind (hend {s with heap:=h₁} _ _ fr1 λh₂ e hs₂ he=>?_)
  have hs₂:Heap.ExtBut i1 h₁ h₂:=hs₂;obtain⟨oe,hoe,hce⟩:=he;have hz₂:IsZip h₂ z TI TO .ellipsis:=hs₂ _ _ D.i1z.symm hz₁;have hez:e≠z:=λx=>by subst x;rw[hz₂]at hoe;cases hoe;simp at hce
  refine wpAny_setField_rec hz₂ (by simp) λh₃ _ hs₃=>hE h₃ e _ (λc o c1 _ c3 _ x=>hs₃.extBut _ _ c1 (hs₂ _ _ c3 (hs₁.extBut _ _ c1 x))) ⟨oe,hs₃.extBut _ _ hez hoe,hce⟩
 .refine wpAny_bind (D1.item k1 {s with heap:=h₁} _ _ hkn fr1 λx h₂ tk hP h1₂ hs₂=>wpAny_pure ?_)
  have hs₂:Heap.SameBut i1 h₁ h₂:=hs₂;have hTO₂:IsPair h₂ TO a b:=hs₂.extBut _ _ D.TOi1 (hs₁.extBut _ _ D.TOz hTO);refine wpAny_bind (wpAny_seqItems hTO₂ rfl ?_);refine wpAny_bind (wpAny_updateSeq_pair hTO₂ λh₃ hTO₃ hs₃=>?_)
  have hs₃':Heap.SameBut TO h₂ h₃:=hs₃;refine wpAny_bind (wpAny_letGo (wpAny_pure ?_));refine wpAny_bind (wpAny_bind (wpAny_onRaise ?_));show wpAny _ _ (Builtin.SmallTypes.nextOf (.ref i2) >>= _) _ _ _;refine wpAny_bind (wpAny_nextOf_list_end hh (((h2.extBut hs₁.extBut D.i2z).extBut hs₂.extBut D.i12.symm).extBut hs₃'.extBut D.TOi2.symm)
   (((hl.extBut hs₁.extBut D.lz).extBut hs₂.extBut D.li1).extBut hs₃'.extBut D.lTO) hy λh₄ e hs₄ he=>?_)
  have hs₄:Heap.ExtBut i2 h₃ h₄:=hs₄;obtain⟨oe,hoe,hce⟩:=he;have hz₄:IsZip h₄ z TI TO .ellipsis:=hs₄ _ _ D.i2z.symm (hs₃'.extBut _ _ D.TOz.symm (hs₂.extBut _ _ D.i1z.symm hz₁));have hez:e≠z:=λx=>by subst x;rw[hz₄]at hoe;cases hoe;simp at hce
  refine wpAny_setField_rec hz₄ (by simp) λh₅ _ hs₅=>hE h₅ e _ (λc o c1 c2 c3 c4 x=>hs₅.extBut _ _ c1 (hs₄ _ _ c4 (hs₃'.extBut _ _ c2 (hs₂.extBut _ _ c3 (hs₁.extBut _ _ c1 x))))) ⟨oe,hs₅.extBut _ _ hez hoe,hce⟩
end
section
variable{prog:Program}{w:World}{A:Around}{E:Value->Shared->Prop}{s:Shared}
abbrev zH1(h:Heap)(x:Str)(t:Tok):Heap:=h.push {cls:=.type (strIterType x),data:=.fields #[.str x t,.int 0 0]}
abbrev zH2(h:Heap)(x:Str)(t:Tok)(l:Addr):Heap:=(zH1 h x t).push {cls:=.type "list_iterator",data:=.fields #[.ref l,.int 0 0]}
abbrev zH3(h:Heap)(x:Str)(t:Tok)(l:Addr):Heap:=(zH2 h x t l).push {cls:=.type "tuple",data:=.seq #[.ref h.objs.size,.ref (zH1 h x t).objs.size]}
abbrev zH4(h:Heap)(x:Str)(t:Tok)(l:Addr):Heap:=(zH3 h x t l).push {cls:=.type "tuple",data:=.seq #[.none,.none]}
abbrev zH5(h:Heap)(x:Str)(t:Tok)(l:Addr):Heap:=(zH4 h x t l).push {cls:=.type "zip",data:=.fields #[.none,.bool false,.bool false,.ref (zH2 h x t l).objs.size,.ref (zH3 h x t l).objs.size]}
theorem aS6(x:Str)(t:Tok)(l:Addr)(ys:Array Value) :
  Meets (Builtin.«zip.__new__» ⟨[.type "zip",.str x t,.ref l],[]⟩) (λ_ R s=>s.heap.IsList l ys/\
   R (.ok (.ret (.ref (zH4 s.heap x t l).objs.size))) {s with heap:=zH5 s.heap x t l}):=
 .of_wp λprog w A R s h=>by
  obtain⟨hp,g,d,tk,os⟩:=s;obtain⟨hl,h⟩:=h;have hsub:=sub_zip;have hL:Heap.IsList (Shared.heap ⟨hp.push {cls:=.type (strIterType x),data:=.fields #[.str x t,.int 0 0]},g,d,tk,os⟩) l ys:=Heap.IsList.push hl _
  wp_walk using wpAny_pyIter_strU,wpAny_pyIter_list hL
  exact⟨_,rfl,h⟩
theorem aWh{t:Tok}{l:Addr}{ys:Array Value} (hl:s.heap.IsList l ys)
  (h:∀h',IsZip h' (s.heap.objs.size+4) (s.heap.objs.size+2) (s.heap.objs.size+3) .none->IsPair h' (s.heap.objs.size+2) (.ref s.heap.objs.size) (.ref (s.heap.objs.size+1))->
   IsPair h' (s.heap.objs.size+3) .none .none->h'.IsStrIter s.heap.objs.size (strIterType x) x t 0->h'.IsListIter (s.heap.objs.size+1) l 0->h'.objs.size=s.heap.objs.size+5->
   (∀c o,s.heap.get? c=some o->h'.get? c=some o)->Q (.ref (s.heap.objs.size+4)) {s with heap:=h'}) :
  wpAny (model prog w) A (call (.type "zip") [.str x t,.ref l]) Q E s:=by
 refine callType_new PySem.F.called_zip (by decide) (PySem.F.typeCall_zip_2 _ _) (PySem.F.newCall_zip_2 _ _) (λobj=>PySem.F.args_object_init_3 obj _ _) PySem.F.entry_zip_new
  (aS6 x t l ys) ⟨hl,?_⟩
 have z1:(zH1 s.heap x t).objs.size=s.heap.objs.size+1:=Heap.size_push ..;have z2:(zH2 s.heap x t l).objs.size=s.heap.objs.size+2:=by rw[Heap.size_push,z1]
 have z3:(zH3 s.heap x t l).objs.size=s.heap.objs.size+3:=by rw[Heap.size_push,z2]
 have z4:(zH4 s.heap x t l).objs.size=s.heap.objs.size+4:=by rw[Heap.size_push,z3]
 have z5:(zH5 s.heap x t l).objs.size=s.heap.objs.size+5:=by rw[Heap.size_push,z4]
 have g5:(zH5 s.heap x t l).get? (zH4 s.heap x t l).objs.size=some _:=Heap.get?_push_size _ rfl;have g4:(zH5 s.heap x t l).get? (zH3 s.heap x t l).objs.size=some _:=Heap.get?_push_of_some _ (Heap.get?_push_size _ rfl);have g3:(zH5 s.heap x t l).get? (zH2 s.heap x t l).objs.size=some _:=Heap.get?_push_of_some _ (Heap.get?_push_of_some _ (Heap.get?_push_size _ rfl));have g2:(zH5 s.heap x t l).get? (zH1 s.heap x t).objs.size=some _:=Heap.get?_push_of_some _ (Heap.get?_push_of_some _ (Heap.get?_push_of_some _ (Heap.get?_push_size _ rfl)));have g1:(zH5 s.heap x t l).get? s.heap.objs.size=some _:=Heap.get?_push_of_some _ (Heap.get?_push_of_some _ (Heap.get?_push_of_some _ (Heap.get?_push_of_some _ (Heap.get?_push_size _ rfl))));show _/\_;rw[z2,z3,z4]at g5;rw[z1,z2]at g3;rw[z3]at g4;rw[z1]at g2;rw[z4];exact⟨⟨_,g5,rfl⟩,h _ g5 g3 g4 ⟨_,g1,rfl,rfl⟩ ⟨_,g2,rfl,rfl⟩ z5 λc o x=>
  Heap.get?_push_of_some _ (Heap.get?_push_of_some _ (Heap.get?_push_of_some _ (Heap.get?_push_of_some _ (Heap.get?_push_of_some _ x))))⟩
theorem aM0(hh:A.handled=none)(it:Addr)(x:Str)(t:Tok){n:String}(hn:n="str_ascii_iterator"\/n="str_iterator") :
  Draws prog w A it [it] x.cps.size (λi v=>∃c u,x.cps[i]?=some c/\v=.str ⟨#[c]⟩ u) (λi h=>h.IsStrIter it n x t i):=by
 rcases hn with rfl|rfl
 .exact Draws.strAscii hh it x t
 .exact Draws.strWide hh it x t
theorem bD8(hh:A.handled=none){it:Addr} {t:Tok} {n:String} (hn:n="str_ascii_iterator"\/n="str_iterator") (st:s.heap.IsStrIter it n x t i) (hx:x.cps[i]?=none)
  (hE:∀h' e,Heap.ExtBut it s.heap h'->(∃o,h'.get? e=some o/\o.cls=.type "StopIteration")->E (.ref e) {s with heap:=h'}):wpAny (model prog w) A (Builtin.SmallTypes.nextOf (.ref it)) Q E s:=by
 rcases hn with rfl|rfl
 .exact wpAny_nextOf_ascii_end hh st hx hE
 .exact wpAny_nextOf_wide_end hh st hx hE
theorem aKm(x:Str):strIterType x="str_ascii_iterator"\/strIterType x="str_iterator":=by
 unfold strIterType;split<;>simp
end
def Itz(K:Frag)(z:List Nat)(a:Addr):It:=
 ⟨λi H=>i<z.length/\∃xs x,SqL K H a xs/\xs[i]?=some x,λi H x H'=>∃T c v,x=V.ref T/\H T=none/\z[i]?=some c/\H'=upd H T (.tup [.str ⟨#[c]⟩,v])/\∀xs,SqL K H a xs->xs[i]?=some v,λi H=>∃xs,SqL K H a xs/\(z.length<=i\/xs.length<=i)⟩
theorem bA3{K:Frag} {x1} {tp:Pos} {zs:List Nat} {t:Tok} {n:String} (hn:n="str_ascii_iterator"\/n="str_iterator") (a z TI TO i1 i2:Addr) (D:∀l,l=a->ZApart z TI TO i1 i2 l [i1]) :
  Turn P w K (.Tuple elts x1 tp) (Itz K zs a) [z,TI,TO,i1,i2] z (λi h=>IsZip h z TI TO .none/\IsPair h TI (.ref i1) (.ref i2)/\(∃u v,IsPair h TO u v)/\h.IsStrIter i1 n ⟨zs.toArray⟩ t i/\h.IsListIter i2 a i) where
 mem:=by simp
 obj:=λi h st b hb=>by
  obtain⟨hz,hTI,⟨u,v,hTO⟩,⟨o1,q1,c1,d1⟩,⟨o2,q2,c2,d2⟩⟩:=st;simp only[mem_cons,not_mem_nil,or_false]at hb;rcases hb with rfl|rfl|rfl|rfl|rfl
  .exact⟨_,hz,λv z=>by cases z⟩
  .exact⟨_,hTI,λv z=>by cases z⟩
  .exact⟨_,hTO,λv z=>by cases z⟩
  .exact⟨o1,q1,λv z=>by rw[d1]at z;cases z⟩
  .exact⟨o2,q2,λv z=>by rw[d2]at z;cases z⟩
 keep:=λi h h' st k=>by
  obtain⟨hz,hTI,⟨u,v,hTO⟩,⟨o1,q1,r1⟩,h2⟩:=st;exact⟨k z (by simp) _ hz,k TI (by simp) _ hTI,⟨u,v,k TO (by simp) _ hTO⟩,⟨o1,k i1 (by simp) _ q1,r1⟩,h2.at λo x=>k i2 (by simp) o x⟩
 item:=by
  intro X hP hw hK hc i pins s σ H E I hf st hg;subst hP hw hK;obtain⟨hz,hTI,⟨u0,v0,hTO⟩,h1,h2⟩:=st;obtain⟨hi,xs,x,hq,hx⟩:=hg;obtain⟨its,rv,p,_⟩:=I.list hq;obtain⟨u,hu,ru⟩:=rv.get hx;have D:=D a rfl;have fo:∀b∈[z,TI,TO,i1,i2],H b=none:=λb hb=>(hf b hb).1
  have hT:H s.heap.objs.size=none:=I.hok.fresh (Nat.le_refl _);have hzt:s.TypeIs (.ref z) "zip":=⟨_,hz,rfl⟩;have hh:=I.ok.hd hc;unfold pyNext;refine wpAny_bind (wpAny_attempt (wpAny_callSpecial?_slot (name:=Str.ofString "__next__") hzt PySem.F.slot_zip_next
   (wpAny_call_entry PySem.F.slot_zip_next hzt PySem.F.entry_zip_next
    (bA2 (aM0 (A:=X.A.in1) hh i1 ⟨zs.toArray⟩ t hn) D hz hTI hTO h1 (by simpa using hi) h2 p.isList (y:=u) (by simpa using hu) λh' tk v hP a1 a2 a3 a4 a5 a6 hk=>wpAny_pure ?_) (PySem.F.args_zip_next_1 _))))
  obtain⟨c,uu,hcc,rfl⟩:=hP;refine⟨_,rfl,wpAny_letOwnedTupleGo_zip (s:={s with heap:=h',toks:=tk}) a1 λh9 hz9 sb=>?_⟩
  have hkeep:∀b o,b≠z->b≠TO->b≠i1->b≠i2->s.heap.get? b=some o->h9.get? b=some o:=λb o e1 e2 e3 e4 q=>(sb.2 b e1).trans (hk b o e1 e2 e3 e4 q)
  have zlt:z≠s.heap.objs.size:=Nat.ne_of_lt (Heap.lt_size hz);have htup:h9.get? s.heap.objs.size=some {cls:=.type "tuple",data:=.seq #[.str ⟨#[c]⟩ uu,u]}:=(sb.2 _ zlt.symm).trans a5;have nT:∀b u',H b=some u'->b≠s.heap.objs.size:=λb u' q=>bI q hT
  have nx:∀b u',H b=some u'->b≠z/\b≠TO/\b≠i1/\b≠i2:=λb u' q=>⟨bI q (fo z (by simp)),bI q (fo TO (by simp)),bI q (fo i1 (by simp)),bI q (fo i2 (by simp))⟩
  have mx:∀b:Addr,b∉[z,TI,TO,i1,i2]->b≠z/\b≠TO/\b≠i1/\b≠i2:=λb hb=>⟨λq=>hb (by simp[q]),λq=>hb (by simp[q]),λq=>hb (by simp[q]),λq=>hb (by simp[q])⟩
  have inL:∀b o,s.heap.get? b=some o->b≠s.heap.objs.size:=λb o q=>Nat.ne_of_lt (Heap.lt_size q)
  have kp:∀b o,b∉[z,TI,TO,i1,i2]->s.heap.get? b=some o->h9.get? b=some o:=λb o hb q=>hkeep b o (mx b hb).1 (mx b hb).2.1 (mx b hb).2.2.1 (mx b hb).2.2.2 q
  have un:Un (frs X.stack) [z,TI,TO,i1,i2] H (upd H s.heap.objs.size (.tup [.str ⟨#[c]⟩,x])) s.heap h9:=by
   refine⟨λb o q n hb hx=>kp b o hx q,λb o q n hb hx=>⟨o.slots,kp b o hx q⟩,λb o q n hx=>by rw[bQ (inL b o q)];exact n,λb o q hx=>⟨o,kp b o hx q⟩,λb ys q=>by rw[bQ (nT b _ q)];exact q,λb o u' q=>by rw[bQ (nT b _ q)];exact q,λb ps q=>⟨#[],by rw[bQ (nT b _ q),Array.append_empty];exact q⟩⟩
  have hok:HOk X.prog X.w (upd H s.heap.objs.size (.tup [.str ⟨#[c]⟩,x])) h9:=λb u' q=>by
   by_cases hb:b=s.heap.objs.size
   .subst hb;rw[cD]at q;cases q;exact⟨show 2<=sizeLine by decide,[.str ⟨#[c]⟩ uu,u],.cons ⟨_,rfl⟩ (.cons ru .nil),_,htup,rfl,_,rfl⟩
   .rw[bQ hb]at q;refine(I.hok b u' q).stay (λc v hc' q'=>?_) (λc q'=>by rw[bQ (nT c _ q')];exact q') λc ys q'=>by rw[bQ (nT c _ q')];exact q'
    have:∃u'',H c=some u'':=by
     rcases hc' with z|z
     .exact⟨u',by rw[z];exact q⟩
     .exact⟨_,z⟩
    obtain⟨u'',hu''⟩:=this;obtain⟨e1,e2,e3,e4⟩:=nx c _ hu'';exact hkeep c v e1 e2 e3 e4 q'
  have I2:Inv X pins σ (upd H s.heap.objs.size (.tup [.str ⟨#[c]⟩,x])) {s with heap:=h9,toks:=tk}:=I.call (g':=s.gens) (t':=tk) (d':=s.drawn) (ch:=[z,TI,TO,i1,i2]) un hok I.bare λb hb=>by
   have fb:=hf b hb;exact⟨fb.2.2.2.1,fb.2.1,fb.2.2.2.2.1,fb.2.2.2.2.2⟩
  have up:∀b o,b≠z->h'.get? b=some o->h9.get? b=some o:=λb o e q=>(sb.2 b e).trans q
  refine⟨.ref s.heap.objs.size,_,I2,rfl,⟨_,c,x,rfl,hT,by simpa using hcc,rfl,λys hy=>by rw[I.list_inj hy hq];exact hx⟩,⟨hz9,up _ _ D.TIz (hk _ _ D.TIz D.TITO D.TIi1 D.TIi2 hTI),⟨_,_,up _ _ D.TOz a2⟩,?_,a4.at λo y=>up _ o D.i2z y⟩,λb hb=>?_⟩
  .obtain⟨o1,q1,r1⟩:=a3;exact⟨o1,up _ _ D.i1z q1,r1⟩
  .have hbs:∃o,s.heap.get? b=some o:=by
    simp only[mem_cons,not_mem_nil,or_false]at hb;obtain⟨o1,q1,_⟩:=h1;obtain⟨o2,q2,_⟩:=h2;rcases hb with rfl|rfl|rfl|rfl|rfl
    .exact⟨_,hz⟩
    .exact⟨_,hTI⟩
    .exact⟨_,hTO⟩
    .exact⟨_,q1⟩
    .exact⟨_,q2⟩
   obtain⟨o,q⟩:=hbs;rw[bQ (inL b o q)];exact fo b hb
 done:=by
  intro X hP hw hK hc i pins s σ H E I hf st hg;subst hP hw hK;obtain⟨hz,hTI,⟨u0,v0,hTO⟩,h1,h2⟩:=st;obtain⟨xs,hq,hx⟩:=hg;obtain⟨its,rv,p,_⟩:=I.list hq;have D:=D a rfl;have hzt:s.TypeIs (.ref z) "zip":=⟨_,hz,rfl⟩;have hh:=I.ok.hd hc;have hl:=rv.length;unfold pyNext;refine wpAny_bind (wpAny_attempt (wpAny_callSpecial?_slot (name:=Str.ofString "__next__") hzt PySem.F.slot_zip_next
   (wpAny_call_entry PySem.F.slot_zip_next hzt PySem.F.entry_zip_next
    (bD7 (aM0 (A:=X.A.in1) hh i1 ⟨zs.toArray⟩ t hn) hh D hz hTI hTO h1 h2 p.isList (by
     by_cases hi:zs.length<=i
     .refine .inl λs' Q E st hE=>bD8 (A:=X.A.in1) hh hn st (by simpa using hi) hE
     .exact .inr ⟨by simpa using hi,by simp;omega⟩) λh' e tk hk he=>?_) (PySem.F.args_zip_next_1 _))))
  obtain⟨o,ho,hce⟩:=he;refine wpAny_bind (wpAny_isInstance (T:="StopIteration") (b:=true) ⟨o,ho,hce⟩ isSubtype_stop ?_);refine wpAny_pure ⟨rfl,?_⟩;have fo:∀b∈[z,TI,TO,i1,i2],H b=none:=λb hb=>(hf b hb).1
  have mx:∀b:Addr,b∉[z,TI,TO,i1,i2]->b≠z/\b≠TO/\b≠i1/\b≠i2:=λb hb=>⟨λq=>hb (by simp[q]),λq=>hb (by simp[q]),λq=>hb (by simp[q]),λq=>hb (by simp[q])⟩
  have kp:∀b o,b∉[z,TI,TO,i1,i2]->s.heap.get? b=some o->h'.get? b=some o:=λb o hb q=>hk b o (mx b hb).1 (mx b hb).2.1 (mx b hb).2.2.1 (mx b hb).2.2.2 q
  have un:Un (frs X.stack) [z,TI,TO,i1,i2] H H s.heap h':=
   ⟨λb o q n hb hx=>kp b o hx q,λb o q n hb hx=>⟨o.slots,kp b o hx q⟩,λb o q n hx=>n,λb o q hx=>⟨o,kp b o hx q⟩,λb ys q=>q,λb o u' q=>q,λb ps q=>⟨#[],by rw[Array.append_empty];exact q⟩⟩
  have hok:HOk X.prog X.w H h':=λb u' q=>by
   refine(I.hok b u' q).stay (λc v hc' q'=>?_) (λc q'=>q') λc ys q'=>q'
   have:∃u'',H c=some u'':=by
    rcases hc' with z|z
    .exact⟨u',by rw[z];exact q⟩
    .exact⟨_,z⟩
   obtain⟨u'',hu''⟩:=this;exact hk c v (bI hu'' (fo z (by simp))) (bI hu'' (fo TO (by simp))) (bI hu'' (fo i1 (by simp))) (bI hu'' (fo i2 (by simp))) q'
  exact I.call (g':=s.gens) (t':=tk) (d':=s.drawn) (ch:=[z,TI,TO,i1,i2]) un hok I.bare λb hb=>by
   have fb:=hf b hb;exact⟨fb.2.2.2.1,fb.2.1,fb.2.2.2.2.1,fb.2.2.2.2.2⟩
 self:=λ_ _ _ _ _ st h=>wpAny_pyIter_zip st.1 h
theorem aQ0:∀(z:List Nat)(ds:List D),(aE8 z ds).length=min z.length ds.length
 |[],ds=>by simp[aE8]
 |c::z,[]=>by simp[aE8]
 |c::z,d::ds=>by rw[aE8,length_cons,length_cons,length_cons,aQ0];omega
theorem aQ1:∀(z:List Nat)(ds:List D)(i:Nat)(d:D),(aE8 z ds)[i]?=some d->∃c e,z[i]?=some c/\ds[i]?=some e/\d=.tup [.str [c],e]
 |[],ds,i,d,h=>by simp[aE8]at h
 |c::z,[],i,d,h=>by simp[aE8]at h
 |c::z,e::ds,0,d,h=>by
  rw[aE8]at h;simp at h;exact⟨c,e,rfl,rfl,h.symm⟩
 |c::z,e::ds,i+1,d,h=>by
  rw[aE8,getElem?_cons_succ]at h;obtain⟨c',e',h1,h2,h3⟩:=aQ1 z ds i d h;exact⟨c',e',by simpa using h1,by simpa using h2,h3⟩
section
variable {a b:Expr}
theorem bGz{K:Frag} {l:Addr} (hq:SqL K (hide (A++B) H) l vs) (r:bM K (hide (A++B) H) ds vs):aW8 K B A H (Itz K z l) (aE8 z ds):=by
 intro A' H' le own i;have hq':SqL K H' l vs:=(bN _ _).seq ((Le.app le).seq hq);refine⟨λd hd=>?_,λhl=>⟨vs,hq',?_⟩⟩
 .obtain⟨c,e,h1,h2,rfl⟩:=aQ1 z ds i d hd;obtain⟨v,hv,rv⟩:=r.get h2;refine⟨⟨(List.getElem?_eq_some_iff.mp h1).1,vs,v,hq',hv⟩,λx H3 y=>?_⟩
  obtain⟨T,c',v',rfl,hT,hc',rfl,h5⟩:=y;have hx:=h5 vs hq';rw[hv]at hx;cases hx;rw[h1]at hc';cases hc';exact⟨cH hT,aH4 own hT (.cons (eU.mpr rfl) (.cons (rv.mono (Le.app le)) .nil))⟩
 .rw[aQ0]at hl;rw[r.length];omega
theorem bH0{x1}{tp p:Pos}(hm:X.mg "zip"=none)(ha:PE X a (tI X.K B f))(hb:PE X b (tI X.K B g))(hg:Gl X "zip":=by rfl)(hs:starEach [a,b] X.env=(false,eval a X.env)::starEach [b] X.env:=by rfl)(hs2:starEach [b] X.env=[(false,eval b X.env)]:=by rfl):L2.PI X (.Tuple elts x1 tp) (.Call (.Name "zip" p) [a,b] [] pos) (tIt X.K B (bE2 f g)):=by
 intro pins s σ H Rq I ⟨A,st,ds,rs,hd,q⟩;obtain⟨x,hx,h2⟩:=R.ok_of hd;obtain⟨y,hy,h3⟩:=R.ok_of h2;split at h3
 rotate_left
 .cases h3
 rename_i zs ws;cases h3;refine Call_ (aDa I hg hm boot_zip (PyProof.Rows.callWith_type1 (thn ((dJ ha (dJ hb jO hs2) hs) pos pins s σ H (λvs H1=>∃v w,vs=[v,w]/\bL H H1/\Rep X.K (hide (A++B) H1) (.str zs) v/\Rep X.K (hide (A++B) H1) (.lst ws) w) I ⟨A,st,_,rs,hx,λv H1 s1 r1=>⟨A,st,_,rs.mono s1,hy,λw H2 s2 r2=>⟨v,w,rfl,s1.trans s2,r1.mono (bL.hide s2),r2⟩⟩⟩) λus s1 ⟨vs,H1,I1,r1,v,w,hv,sm,rv,rw'⟩=>?_) hs (by rw[hs2];rfl)))
 subst hv;obtain⟨u1,u2,rfl,ra,rb⟩:∃u1 u2,us=[u1,u2]/\L2.RelV v u1/\L2.RelV w u2:=by
  cases r1 with
  |cons ra rb=>
   cases rb with
   |cons rb rc=>
    cases rc;exact⟨_,_,rfl,ra,rb⟩
 obtain⟨l,ts,rfl,hq,rr⟩:=iM.mp rw';have ev:=eU.mp rv;subst ev;obtain⟨t,rfl⟩:=(show ∃t,u1=Value.str ⟨zs.toArray⟩ t from ra)
 have eu:u2=Value.ref l:=rb;subst eu;obtain⟨its,rvv,pl,hz⟩:=I1.list ((bN _ _).seq hq);have hlt:l<s1.heap.objs.size:=by
  obtain⟨o,e,_⟩:=pl.isList;exact Heap.lt_size e
 refine aWh pl.isList λh' hz' hTI hTO hit1 hit2 hsz hk=>?_
 refine wpAny_pyIter_zip hz' ⟨s1.heap.objs.size+4,[s1.heap.objs.size+4,s1.heap.objs.size+2,s1.heap.objs.size+3,s1.heap.objs.size,s1.heap.objs.size+1],_,Itz X.K zs l,H1,rfl,I1.kept (t':=s1.toks) hk,bA3 (t:=t) (aKm ⟨zs.toArray⟩) l (s1.heap.objs.size+4) (s1.heap.objs.size+2) (s1.heap.objs.size+3) s1.heap.objs.size (s1.heap.objs.size+1) (λl' e=>?_),⟨hz',hTI,⟨_,_,hTO⟩,hit1,hit2⟩,λb hb=>?_,q _ H1 sm (bGz hq rr)⟩
 .subst e;exact aS5 hlt
 .simp only[mem_cons,not_mem_nil,or_false]at hb;rcases hb with rfl|rfl|rfl|rfl|rfl<;>exact I1.fpOk (by simp) (I1.hok.fresh (by simp))
end
section
variable {a b:Expr} {q:Pos}
theorem bH1{ta:TA}(hm:X.mg "range"=none)(ha:PA X [a] ta)(hg:Gl X "range":=by rfl)(hs:starEach [a] X.env=[(false,eval a X.env)]:=by rfl) :
  PE X (.Call (.Name "range" p1) [a] [] q) (λσ H Q=>ta σ H λvs H1=>∃j:Int,vs=[.int j]/\∀r,H1 r=none->Q (.ref r) (upd H1 r (.rng 0 j))):=by
 intro pins s σ H Q I h;refine Call_ (aDa I hg hm boot_range (PyProof.Rows.callWith_type1 (thn (ha q pins s σ H _ I h) λus s1 ⟨vs,H1,I1,r1,j,e,qq⟩=>?_) hs rfl))
 subst e;cases r1 with
 |cons r rr=>
  cases rr;obtain⟨t,rfl⟩:=r;exact call_range_1 ⟨.ref s1.heap.objs.size,_,I1.laid (a:=s1.heap.objs.size) (o:=.rng 0 j) (λb o e=>Heap.get?_push_of_some _ e) (Nat.le_refl _) ⟨_,_,_,Heap.get?_push_size _ rfl⟩,rfl,qq _ (I1.hok.fresh (Nat.le_refl _))⟩
theorem aNn(hc:X.calm=true):oM X (.type "list") (λvs H Q=>∃r,∃j:Int,vs=[.ref r]/\H r=some (.rng 0 j)/\-10000000<=j/\j<=10000000/\∀n,H n=none->Q (.ref n) (upd H n (.lst ((List.range j.toNat).map λ(k:Nat)=>V.int (k:Int))))):=by
 intro pins s σ H vs us Q I r h;obtain⟨l,j,rfl,hl,h1,h2,q⟩:=h;obtain⟨u,rfl,ru⟩:=r.one;obtain rfl:u=Value.ref l:=ru;obtain⟨t,u,v,ho⟩:=(show ∃t u v,s.heap.get? l=some {cls:=.type "range",data:=.fields #[.int 0 t,.int j u,.int 1 v]} from I.hok l _ hl)
 have hn:Builtin.Range.rangeSize 0 j 1=(j.toNat:Nat):=by rw[rangeSize_one];split<;>omega
 refine call_list_range (I.ok.hd hc) ho (small_one (by omega) (by omega) (by omega) (by omega)) hn (by omega) λh' tk acc c' hk hs hi=>?_
 refine⟨.ref s.heap.objs.size,_,I.laid (o:=.lst ((List.range j.toNat).map λ(k:Nat)=>V.int (k:Int))) (t':=tk) hk (Nat.le_refl _) ⟨?_,acc.toList,c',?_,by simpa using hs⟩,rfl,q _ (I.hok.fresh (Nat.le_refl _))⟩
 .rw[length_map,length_range,sizeLine_eq];omega
 .obtain⟨h3,h4⟩:=hi;have key:∀(n:Nat)(xs:List Value),xs.length=n->(∀(k:Nat) w,xs[k]?=some w->∃t,w=.int (0+(k:Int)*1) t)->Vals ((List.range n).map λ(k:Nat)=>V.int (k:Int)) xs:=by
   intro n
   induction n with
   |zero=>intro xs hx _;rw[List.length_eq_zero_iff.mp hx];exact .nil
   |succ n ih=>
    intro xs hx hp;obtain⟨ys,y,rfl⟩:∃ys y,xs=ys++[y]:=by
     rcases List.eq_nil_or_concat xs with e|⟨ys,y,e⟩
     .rw[e]at hx;simp at hx
     .exact⟨ys,y,by rw[e,List.concat_eq_append]⟩
    have hy:ys.length=n:=by simpa using hx
    rw[List.range_succ,List.map_append];refine(ih ys hy λk w hk=>?_).append (.cons ?_ .nil)
    .exact hp k w (by rw[List.getElem?_append_left (List.getElem?_eq_some_iff.mp hk).1];exact hk)
    .obtain⟨t,e⟩:=hp n y (by rw[List.getElem?_append_right (by omega),hy];simp)
     exact⟨t,by rw[e];simp⟩
  exact key _ _ (by simpa using h3) λk w hk=>by
   obtain⟨t,e⟩:=h4 k w (by simpa using hk)
   exact⟨t,e⟩
theorem aS7{K:Frag} (n:Nat):bM K H (kJ 0 n) ((List.range n).map λ(k:Nat)=>V.int (k:Int)):=by
 unfold kJ;generalize List.range n=l
 induction l with
 |nil=>exact .nil
 |cons x l ih=>exact .cons (bT.mpr (by rw[Int.zero_add])) ih
theorem aQ2(hm:X.mg "list"=none)(hr:X.mg "range"=none)(hc:X.calm=true)(ha:PE X a (tP X.K B f))(hg:Gl X "list":=by rfl)(hg2:Gl X "range":=by rfl)(hs:starEach [a] X.env=(false,eval a X.env)::starEach [] X.env:=by rfl)(hs2:starEach [Expr.Call (.Name "range" p1) [a] [] q] X.env=(false,eval (.Call (.Name "range" p1) [a] [] q) X.env)::starEach [] X.env:=by rfl) :
  PE X (.Call (.Name "list" p0) [.Call (.Name "range" p1) [a] [] q] [] pos) (tI X.K B (e1 aE9 f)):=by
 refine cX (aBx (aNn hc) hg hm (by rfl) (dJ (bH1 hr (dJ ha jO hs) hg2 hs) jO hs2) (he:=hs2)) ?_
 rintro σ H Q ⟨A,st,d,rs,hd,qq⟩;obtain⟨x,hx,h2⟩:=R.ok_of hd;refine⟨A,st,x,rs,hx,λv H1 s1 r1=>?_⟩
 cases x<;>first|(cases h2;done)|skip
 rename_i j;obtain⟨c,h3⟩:=aW h2;cases h3;rw[rR]at c;refine⟨j,by rw[r1.int],λr hr=>⟨r,j,rfl,cD,by omega,by omega,λn hn=>?_⟩⟩
 have w1:=rs.own.mono (s1.trans (cH (o:=.rng 0 j) hr));exact qq _ _ (s1.trans ((cH hr).trans (cH hn))) (jM w1 hn (aS7 _))
theorem bD9(i:Nat) {dp:Pos} (hk:PE X a (tI X.K B g)) (hv:PE X b (tI X.K B f)) (hN:X.N.Nodup) (hi:X.N[i]?=some x:=by rfl) (hx:Loc X.env.scope x:=by first|exact Or.inl rfl|exact Or.inr rfl) (hs:swapsWith (.Dict [some a] [b] dp) (some (.Name x pos')) pos.line X.env=pure false:=by rfl)
  (hf:X.fn x=true\/X.env.scope.names.lookup x=some .local:=by first|exact .inl rfl|exact .inr rfl|assumption):PS X (.Assign [.Name x pos'] (.Dict [some a] [b] dp) pos) (tS X.K B (aR7 i g f)):=lL (aI7 hN hi hx (bBd (aXk hk hv bBc) rfl rfl (by simp) (show 1<=15 by omega)) hs hf) (by
 rintro Dn σ H ⟨A,st,r,rs,hr,p⟩;obtain⟨k,hk,h2⟩:=R.ok_of hr;obtain⟨d,hd,h3⟩:=R.ok_of h2;obtain⟨⟨c1,c2⟩,h4⟩:=aW h3;cases h4;intro a ha;refine⟨A,st,k,rs.mono (cH ha),hk,λu H1 s1 r1=>⟨A,st,d,(rs.mono (cH ha)).mono s1,hd,λv H2 s2 r2=>?_⟩⟩
 have e2:H2 a=some (.dK []):=s2 _ _ (s1 _ _ cD);obtain⟨kk,ek,ev⟩:∃kk:Key,pB kk=k/\u=kV kk:=by
  cases k<;>first|(cases c1;done)|skip
  .exact⟨.inl _,rfl,bT.mp r1⟩
  .refine⟨.inr ⟨_⟩,?_,eU.mp r1⟩;simp[pB]
 refine⟨e2,[(kk,v)],by rw[ev];rfl,(show 1<=15 by omega),?_⟩
 let G:Hp:=λb=>if b=a then none else H2 b
 have sG:bL H G:=λb o z=>by
  have hb:b≠a:=bI z ha;show (if b=a then none else H2 b)=_
  rw[if_neg hb];exact s2 _ _ (s1 _ _ (by rw[bQ hb];exact z))
 have gN:G a=none:=if_pos rfl;have eG:upd H2 a (.dK (aFs [] [(kk,v)]))=upd G a (.dK [(kk,v)]):=by
  funext b
  by_cases hb:b=a
  .subst hb;rw[cD,cD];rfl
  .rw[bQ hb,bQ hb];exact(if_neg hb).symm
 rw[eG];exact p (a::A) _ _ ((Le.of sG).trans (aNc gN)) ((rs.mono sG).setO (kk:=.d false [k]) i gN (.inl ⟨rfl,[(kk,v)],rfl,by rw[<-ek];rfl,rfl⟩) (.cons ((bA1 c2 r2).mono bD6) .nil)))
end
theorem bitAnd_nn{i j:Int}(h1:0<=i)(h2:0<=j):Builtin.bitAnd i j=((i.toNat&&&j.toNat:Nat):Int):=by
 unfold Builtin.bitAnd;rw[decide_eq_true h1,decide_eq_true h2]
theorem bA4{i j:Int}(h1:0<=i)(h2:0<=j):Builtin.bitOr i j=((i.toNat|||j.toNat:Nat):Int):=by
 unfold Builtin.bitOr Builtin.bitAnd;have a1:¬ 0<=Builtin.bitNot i:=by unfold Builtin.bitNot;omega
 have a2:¬ 0<=Builtin.bitNot j:=by unfold Builtin.bitNot;omega
 rw[decide_eq_false a1,decide_eq_false a2];have e1:Builtin.bitNot (Builtin.bitNot i)=i:=by unfold Builtin.bitNot;omega
 have e2:Builtin.bitNot (Builtin.bitNot j)=j:=by unfold Builtin.bitNot;omega
 show Builtin.bitNot (Builtin.bitNot _)=_;rw[e1,e2];unfold Builtin.bitNot;omega
section
variable {a b:Expr}
theorem aUl(ha:PE X a (tP X.K B f))(hb:PE X b (tP X.K B g)):PE X (.BinOp a .LShift b pos) (tI X.K B (e2 aKj f g)):=
 aKk bF6 (aJi (g:=λi j=>.int (i*2^j.toNat)) (λ_ _ _=>bT.mpr rfl) λx y d e=>by
  unfold aKj at e;split at e
  .obtain⟨c,e⟩:=aW e;cases e;exact⟨_,_,rfl,rfl,c,rfl⟩
  .cases e) ha hb
theorem aUm(ha:PE X a (tP X.K B f))(hb:PE X b (tP X.K B g)):PE X (.BinOp a .RShift b pos) (tI X.K B (e2 aFv f g)):=
 aKk bF7 (aJi (g:=λi j=>.int (i/2^j.toNat)) (λ_ _ _=>bT.mpr rfl) λx y d e=>by
  unfold aFv at e;split at e
  .obtain⟨c,e⟩:=aW e;cases e;exact⟨_,_,rfl,rfl,c,rfl⟩
  .cases e) ha hb
theorem qO(ha:PE X a (tP X.K B f))(hb:PE X b (tP X.K B g)):PE X (.BinOp a .BitAnd b pos) (tI X.K B (e2 uA f g)):=
 aKk bF8 (yK (g:=λi j=>.int (Builtin.bitAnd i j)) (λ_ _ _=>bT.mpr rfl) λx y d e=>by
  unfold uA at e;split at e
  .obtain⟨c,e⟩:=aW e;cases e;exact⟨_,_,rfl,rfl,by rw[bitAnd_nn c.1 c.2]⟩
  .cases e) ha hb
theorem aM1(ha:PE X a (tP X.K B f))(hb:PE X b (tP X.K B g)):PE X (.BinOp a .BitOr b pos) (tI X.K B (e2 dOr f g)):=
 aKk bI4 (yK (g:=λi j=>.int (Builtin.bitOr i j)) (λ_ _ _=>bT.mpr rfl) λx y d e=>by
  unfold dOr at e;split at e
  .obtain⟨c,e⟩:=aW e;cases e;exact⟨_,_,rfl,rfl,by rw[bA4 c.1 c.2]⟩
  .cases e) ha hb
theorem aJy{K:Frag}{H:Hp}:∀{l:List Int}{vs:List V},bM K H (l.map D.int) vs->vs=l.map V.int
 |[],vs,h=>dI.mp h
 |i::l,vs,h=>by
  obtain⟨v,r,rfl,h1,h2⟩:=bZ.mp h;rw[bT.mp h1,aJy h2];rfl
theorem vals_ints:∀{l:List Int}{us:List Value},Vals (l.map V.int) us->∀(j:Nat)(h:j<us.length),∃i t,l[j]?=some i/\us[j]=.int i t
 |[],us,r,j,h=>by cases r;simp at h
 |i::l,us,r,j,h=>by
  cases r with
  |cons ra rb=>
   obtain⟨t,rfl⟩:=ra;cases j with
   |zero=>exact⟨i,t,rfl,rfl⟩
   |succ j=>
    obtain⟨i',t',h1,h2⟩:=vals_ints rb j (by simpa using h)
    exact⟨i',t',by simpa using h1,by simpa using h2⟩
theorem aWi:MtR X "list.index" (λx vs H Q=>∃(p:Addr)(l:List Int)(k:Int)(n:Nat),x=V.ref p/\vs=[.int k]/\SqL X.K H p (l.map V.int)/\l.findIdx? (λi=>i==k)=some n/\l.length<=10000000/\Q (.int (n:Int)) H):=by
 intro pins s σ H x vs v us Q I rx rv h;obtain⟨p,l,k,n,rfl,rfl,hq,hn,hl,q⟩:=h;obtain⟨u,rfl,ru⟩:=rv.one;obtain⟨t,rfl⟩:=(show ∃t,u=Value.int k t from ru)
 have ep:v=Value.ref p:=rx;subst ep;obtain⟨its,rr,⟨⟨cls,dd,data,sl⟩,n0,ho,hc,_,hd⟩,hz⟩:=I.list hq;have hlen:=rr.length;rw[length_map]at hlen;obtain⟨h1,h2,h3⟩:=List.findIdx?_eq_some_iff_getElem.mp hn;dsimp only at hc hd;subst hc hd;have hnu:n<its.length:=by omega
 refine call_meets PySem.F.slot_list_index ⟨_,ho,rfl⟩ PySem.F.entry_list_index (PySem.F.args_list_index_2 _ _) (PySem.SeqAt.list_indexAt p its.toArray n0 dd sl (.int k t) (λy=>match y with|.int i _=>i==k|_=>false) n (by simpa using hnu) (by omega) ?_ λm hm hmn=>?_) ⟨ho,λy hy=>?_,?_⟩
 .obtain⟨i,t',e1,e2⟩:=vals_ints rr n hnu;rw[List.getElem_toArray,e2];rw[List.getElem?_eq_getElem h1]at e1;cases e1;exact h2
 .have hm':m<its.length:=by simpa using hm
  obtain⟨i,t',e1,e2⟩:=vals_ints rr m hm';rw[List.getElem_toArray,e2];rw[List.getElem?_eq_getElem (by omega)]at e1
  cases e1;have:=h3 m hmn;simpa using this
 .obtain⟨m,hm,rfl⟩:=List.mem_iff_getElem.mp (show y∈its by simpa using hy)
  obtain⟨i,t',e1,e2⟩:=vals_ints rr m hm;rw[e2];exact(PySem.MeetsSeq.EqGives.int i k t' t).at _ _
 .exact⟨.int (n:Int),H,I.tok _,⟨_,rfl⟩,q⟩
theorem bA5(ho:PE X o (tP X.K B f))(ha:PA X [e] (tA X.K B r))(hbase:attributeBase o "index" X.env (eval o X.env)=eval o X.env:=by rfl)
  (hfew:((backTo cpos (starEach [e] X.env)).all (λx=>!x.1)&&(backToKw cpos (keywordEach [] X.env)).all (λx=>x.1.isSome)
   && decide (([e]:List Expr).length+([]:List Keyword).length+(if ([]:List Keyword).isEmpty then 0 else 1)<30))=true:=by rfl)
  (hline:(apos.endLine==cpos.line)=true:=by rfl) (hs:starEach [e] X.env=(false,eval e X.env)::starEach [] X.env:=by rfl) :
  PE X (.Call (.Attribute o "index" apos) [e] [] cpos) (tI X.K B (eMt aT3 f r)):=by
 refine cX (aSp PySem.F.plainAttrs_list PySem.F.slot_list_index PySem.F.type_list_index aWi ho ha hbase hfew hline hs rfl) ?_
 rintro σ H Q ⟨A,st,d,rs,hd,k⟩;obtain⟨x,hx,h2⟩:=R.ok_of hd;obtain⟨xs,hxs,h3⟩:=R.ok_of h2;unfold aT3 at h3;split at h3
 .rename_i ys j;obtain⟨l,hl,h4⟩:=R.ok_of h3;obtain⟨n,hn,h5⟩:=R.ok_of h4;obtain⟨c,h6⟩:=aW h5;cases h6;have ey:=aE6 hl;subst ey;refine⟨A,st,_,rs,hx,λv H1 s1 r1=>?_⟩
  obtain⟨p,vs,e1,hq,rr⟩:=r1.lst;have ev:=aJy rr;subst ev;refine⟨by rw[e1];exact .inl ⟨rfl,_,hq⟩,A,st,_,rs.mono s1,hxs,λws H2 s2 r2=>?_⟩
  obtain⟨w,rfl,rw'⟩:=aPt r2;rw[rR,length_map]at c;exact⟨p,l,j,n,e1,by rw[bT.mp rw'],s2.seq hq,yL hn,c,k _ H2 (s1.trans s2) (bT.mpr rfl)⟩
 .cases h3
theorem bDa:MtR X "int.bit_length" (λx vs H Q=>∃i:Int,x=.int i/\vs=[]/\Q (.int ((Builtin.Int.intBits i:Nat):Int)) H):=by
 intro pins s σ H x vs v us Q I rx rv h;obtain⟨i,rfl,rfl,q⟩:=h;obtain⟨t,rfl⟩:=(show ∃t,v=Value.int i t from rx)
 have hus:=rv.zero;subst hus;exact call_int_bit_length ⟨.int _,H,I.tok _,⟨_,rfl⟩,q⟩
theorem bDb(i:Int):Builtin.Int.intBits i=sO i:=by
 unfold Builtin.Int.intBits sO
 by_cases h:i=0
 .rw[if_pos h,if_pos (by rw[h];rfl)]
 .rw[if_neg h,if_neg (by simpa using h)]
theorem bH2(ho:PE X o (tP X.K B f))(hbase:attributeBase o "bit_length" X.env (eval o X.env)=eval o X.env:=by rfl)(hline:(apos.endLine==cpos.line)=true:=by rfl) :
  PE X (.Call (.Attribute o "bit_length" apos) [] [] cpos) (tI X.K B (e1 aHq f)):=by
 refine cX (aR1 PySem.F.plainAttrs_int PySem.F.slot_int_bit_length PySem.F.type_int_bit_length bDa ho hbase hline) ?_
 rintro σ H Q ⟨A,st,d,rs,hd,k⟩;obtain⟨x,hx,h2⟩:=R.ok_of hd;cases x<;>first|(cases h2;done)|skip
 cases h2;refine⟨A,st,_,rs,hx,λv H1 s1 r1=>⟨by rw[r1.int];rfl,_,r1.int,rfl,?_⟩⟩
 rw[bDb];exact k _ H1 s1 (bT.mpr rfl)
end
section
open PySem.SeqAt
open PySem.AutoSeq1 (wpAny_loadPart')
open PySem.MeetsSeq PySem.MeetsSeq2 PySem.MeetsSeq3
inductive LexW (A:Around) (s:Shared):List Value->List Value->Bool->Prop where
 |nn:LexW A s [] [] true
 |nc {w:Value} {ws:List Value}:LexW A s [] (w::ws) true
 |cn {v:Value} {vs:List Value}:LexW A s (v::vs) [] false
 |eq {v w:Value} {vs ws:List Value} {b:Bool}:EqAt A s v w true->LexW A s vs ws b->LexW A s (v::vs) (w::ws) b
 |lt {v w:Value} {vs ws:List Value} {b:Bool}:EqAt A s v w false->(∀(prog:Program)(wd:World)(E Q:Value->Shared->Prop),Q (.bool b) s->wpAny (model prog wd) A (richCompare .LtE v w) Q E s)->LexW A s (v::vs) (w::ws) b
end
theorem bH3{k:Key}{u:Value}(h:aI5 k u=true):L2.RelV (kV k) u:=by
 rcases gQ h with ⟨i,t,rfl,rfl⟩|⟨x,t,rfl,rfl⟩
 .exact⟨t,rfl⟩
 .exact⟨t,rfl⟩
section
variable {a:Expr}
theorem bH4{kvs:List (Key×V)}{vs:List (Key×Value)}(r:KV kvs vs):vs.length=kvs.length:=by
 unfold KV at r
 induction r with
 |nil=>rfl
 |cons _ _ ih=>simp[ih]
end
end Pu
namespace Pu
section
open PySem PySem.Spec PyProof.Rows L2
variable {a b:Expr}
theorem aI1{K:Frag}:aCk K (rI0 λi j=>.bl (decide (i<j))) aMo:=yK (g:=λi j=>.bl (decide (i<j))) (λ_ _ _=>dC.mpr rfl) λx y d e=>by
 unfold aMo at e;split at e
 .cases e;exact⟨_,_,rfl,rfl,rfl⟩
 .cases e
theorem bA6{i j:Int}(c:(-18446744073709551616<i/\i<18446744073709551616)\/(-18446744073709551616<j/\j<18446744073709551616)):aX9 i j:=by
 unfold aX9;omega
theorem aDn(ha:PE X a (tP X.K B f))(hb:PE X b (tP X.K B g)):PE X (.BinOp a .Mult b pos) (tI X.K B (e2 uV f g)):=by
 refine aKk bF3 ?_ ha hb;intro A H x y d v u Q w rx ry e q;unfold uV at e;split at e
 .obtain⟨c,e⟩:=aW e;cases e;exact⟨_,_,rx.int,ry.int,bA6 c,q _ H (bL.refl _) (bT.mpr rfl)⟩
 .cases e
end
end Pu
namespace Pu
open PySem PySem.Spec PyProof.Rows L2
theorem bKy{K:Frag} {p:Addr} (s1:bL H H1) (hp:H1 p=none) (s2:bL H1 H') (hv:H' p=some (.lst vs)) (r:bM K (hide (A++p::B) H') ds vs):∃G,bL H G/\G p=none/\upd G p (.lst vs)=H'/\bM K (hide (A++B) G) ds vs:=by
 let G:Hp:=λb=>if b=p then none else H' b
 have gN:G p=none:=if_pos rfl;refine⟨G,λb o z=>?_,gN,?_,r.mono λb o z=>?_⟩
 .have hb:b≠p:=bI (s1 _ _ z) hp;show (if b=p then none else H' b)=_
  rw[if_neg hb];exact s2 _ _ (s1 _ _ z)
 .funext b
  by_cases hb:b=p
  .subst hb;rw[cD,hv]
  .rw[bQ hb];exact if_neg hb
 .have hb:b∉A++p::B:=λw=>by rw[jU w]at z;cases z
  have z1:=bN _ _ _ _ z;rw[cL λw=>hb (mem_mid.mpr (.inr w))]
  show (if b=p then none else H' b)=_
  rw[if_neg λw=>hb (mem_mid.mpr (.inl w))]
  exact z1
def aQ3(v d:Addr):HO:=.ext λh=>h.IsItemsView v d
section
variable {σ:List (Option V)}
theorem bA7(I:Inv X pins σ H s)(k:∀b u,s.heap.get? b=some u->h'.get? b=some u)(sm:bL H H')(hn:∀b,b<s.heap.objs.size->H' b=H b)(new:∀a o,H a=none->H' a=some o->mG X.prog X.w H' h' a o):Inv X pins σ H' {s with heap:=h',toks:=t'}:=by
 refine I.un ⟨λb u q _ _ _=>k b u q,λb u q _ _ _=>⟨u.slots,k b u q⟩,λb u q n _=>by rw[hn b (Heap.lt_size q)];exact n,λb u q _=>⟨u,k b u q⟩,λb xs q=>sm _ _ q,λb u xs q=>sm _ _ q,λb ps q=>⟨#[],by rw[sm _ _ q];simp⟩⟩ λa o e=>?_
 cases hH:H a with
 |none=>exact new a o hH e
 |some u=>
  have z:=sm a u hH;rw[e]at z;cases z;exact(I.hok a _ hH).stay (λb v _ q=>k b v q) (λb q=>sm _ _ q) λb xs q=>sm _ _ q
theorem bA8:MtR X "dict.items" (λx vs H Q=>∃(d:Addr) (kvs:List (Key×V)),x=.ref d/\vs=[]/\H d=some (.dK kvs)/\∀n,H n=none->Q (.ref n) (upd H n (aQ3 n d))):=by
 intro pins s σ H x vs v us Q I rx rv h;obtain⟨d,kvs,rfl,rfl,hd,q⟩:=h;cases rx;have hus:=rv.zero;subst hus;obtain⟨hz,hs,xs,kv,hD⟩:=aSq I.hok hd;refine call_meetsIn PySem.F.slot_dict_items hD.typeIs PySem.F.entry_dict_items (PySem.F.args_dict_items_1 _) (meets_dict_items (gB X.prog X.w) d hs) ⟨⟨xs,hD⟩,?_⟩;have e:(s.heap.push {cls:=.type "dict_items",data:=.fields #[.ref d]}).get? s.heap.objs.size=some {cls:=.type "dict_items",data:=.fields #[.ref d]}:=Heap.get?_push_size _ rfl;exact⟨.ref s.heap.objs.size,_,I.laid (o:=aQ3 s.heap.objs.size d) (t':=s.toks) (λb u q=>Heap.get?_push_of_some _ q) (Nat.le_refl _) ⟨⟨_,e,rfl,rfl⟩,⟨_,e⟩,λh1 h2 ⟨o,ho,hc,hd⟩ k=>⟨o,k o ho,hc,hd⟩⟩,rfl,q _ (I.hok.fresh (Nat.le_refl _))⟩
theorem aS8:∀{kvs:List (Key×V)} {vs:List (Key×Value)} {j:Nat} {k:Key} {x:Value},KV kvs vs->vs[j]?=some (k,x)->∃p,kvs[j]?=some p/\p.1=k/\RelV p.2 x
 |_,_,j,k,x,.nil,e=>by simp at e
 |_,_,0,k,x,.cons h _,e=>by
  simp at e;subst e;exact⟨_,rfl,h.1,h.2⟩
 |_,_,j+1,k,x,.cons _ t,e=>by
  obtain⟨p,e1,e2⟩:=aS8 (j:=j) (k:=k) (x:=x) t (by simpa using e)
  exact⟨p,by simpa using e1,e2⟩
theorem aS9(hc:X.calm=true):oM X (.type "list") (λvs H Q=>∃(v d:Addr) (kvs:List (Key×V)),vs=[.ref v]/\H v=some (aQ3 v d)/\H d=some (.dK kvs)/\
  ∀(n:Addr)(ps:List Addr)(H':Hp),bL H H'->H' n=none->ps.length=kvs.length->(∀a∈ps,H a=none)->(∀(j:Nat)(a:Addr),ps[j]?=some a->∃p,kvs[j]?=some p/\H' a=some (.tup [kV p.1,p.2]))->Q (.ref n) (upd H' n (.lst (ps.map V.ref)))):=by
 intro pins s σ H vs us Q I r h;obtain⟨v,d,kvs,rfl,hv,hd,q⟩:=h;obtain⟨u,rfl,ru⟩:=r.one;obtain rfl:u=Value.ref v:=ru;obtain⟨hz,hs,xs,kv,hD⟩:=aSq I.hok hd;have hlen:=bH4 kv;obtain⟨ep,hat⟩:=hD.dictAt;obtain⟨hview,_,_⟩:=I.hok v _ hv;refine PySem.W.kdx_call (knd:=gB X.prog X.w) (I.ok.hd hc) hview hat (by omega) λh' tk acc c as hk hS hl hG hacc=>?_
 have nd:as.Nodup:=hG.rise.imp Nat.ne_of_lt;have lo:∀a∈as,s.heap.objs.size<a:=hG.above;have nn:∀a∈as,H a=none:=λa ha=>I.hok.fresh (Nat.le_of_lt (lo a ha))
 let G:Hp:=λb=>if b∈as then (kvs[as.idxOf b]?).map (λp=>.tup [kV p.1,p.2]) else H b
 have sG:bL H G:=λb o e=>by
  show (if b∈as then _ else H b)=_
  rw[if_neg λz=>by rw[nn b z]at e;cases e]
  exact e
 have gN:G s.heap.objs.size=none:=by
  show (if _∈as then _ else H _)=_
  rw[if_neg λz=>Nat.lt_irrefl _ (lo _ z)]
  exact I.hok.fresh (Nat.le_refl _)
 have gA:∀(j:Nat)(a:Addr),as[j]?=some a->∃p,kvs[j]?=some p/\G a=some (.tup [kV p.1,p.2]):=λj a e=>by
  obtain⟨key,k,x,e1,e2,e3⟩:=hG.pairs j a e;obtain⟨p,e4,e5,e6⟩:=aS8 kv e1;refine⟨p,e4,?_⟩;show (if a∈as then _ else H a)=_
  rw[if_pos (List.mem_of_getElem? e)];obtain⟨hj,ej⟩:=List.getElem?_eq_some_iff.mp e;rw[<-ej,nd.idxOf_getElem j hj,e4];rfl
 refine⟨.ref s.heap.objs.size,_,bA7 (H':=upd G s.heap.objs.size (.lst (as.map V.ref))) (t':=tk) I hk (sG.trans (cH gN)) (λb hb=>?_) (λa o ha e=>?_),rfl,q _ as G sG gN (by rw[hl];exact hlen) nn gA⟩
 .rw[bQ (Nat.ne_of_lt hb)];show (if b∈as then _ else H b)=_
  rw[if_neg λz=>Nat.lt_irrefl _ (Nat.lt_trans hb (lo _ z))]
 .by_cases hb:a=s.heap.objs.size
  .subst hb;rw[cD]at e;cases e;refine⟨by rw[length_map,hl];omega,acc.toList,c,?_,by simpa using hS⟩
   rw[hacc];clear hacc hG nd lo nn gA sG gN hl G
   induction as with
   |nil=>exact .nil
   |cons a as ih=>exact .cons rfl ih
  .rw[bQ hb]at e;have ha':a∈as:=by
    refine Classical.byContradiction λz=>?_
    have e':(if a∈as then (kvs[as.idxOf a]?).map (λp=>HO.tup [kV p.1,p.2]) else H a)=some o:=e
    rw[if_neg z,ha]at e';cases e'
   obtain⟨j,hj⟩:=List.mem_iff_getElem?.mp ha';obtain⟨p,e1,e2⟩:=gA j a hj;obtain⟨key,k,x,f1,f2,f3⟩:=hG.pairs j a hj;obtain⟨p',g1,g2,g3⟩:=aS8 kv f1;rw[e1]at g1;cases g1;rw[e2]at e;cases e;refine⟨by rw[sizeLine_eq];show 2<=16777216;decide,[key,x],.cons ?_ (.cons g3 .nil),_,f3,?_⟩
   .rw[g2];exact bH3 f2
   .exact⟨rfl,_,rfl⟩
theorem aJz{K:Frag}{H:Hp}:∀(kvs:List (Key×V)) (ds:List D) (ps:List Addr),bM K H ds (kvs.map (·.2))->ps.length=kvs.length->(∀(j:Nat)(a:Addr),ps[j]?=some a->∃p,kvs[j]?=some p/\H a=some (.tup [kV p.1,p.2]))->bM K H (List.zipWith (λk d=>.tup [k,d]) (kvs.map λp=>pB p.1) ds) (ps.map V.ref)
 |[],ds,ps,_,hl,_=>by
  rw[List.length_eq_zero_iff.mp hl];exact .nil
 |p::kvs,[],ps,r,_,_=>by
  have:=r.length;simp at this
 |p::kvs,d::ds,[],_,hl,_=>by simp at hl
 |p::kvs,d::ds,a::ps,r,hl,h=>by
  obtain⟨v,rest,e,r1,r2⟩:=bZ.mp r;cases e;obtain⟨p',e1,e2⟩:=h 0 a rfl;cases e1;refine .cons (aB7.mpr ⟨a,_,rfl,e2,.cons ?_ (.cons r1 .nil)⟩) (aJz kvs ds ps r2 (by simpa using hl) λj b hj=>?_)
  .obtain⟨k,v⟩:=p;cases k with
   |inl i=>exact bT.mpr rfl
   |inr x=>exact eU.mpr (by simp[kV])
  .obtain⟨p',e1,e2⟩:=h (j+1) b (by simpa using hj)
   exact⟨p',by simpa using e1,e2⟩
end
section
variable{X:Cx}{B:List Addr}{a e:Expr}{es:List Expr}{f:Ex}{pos p0 apos cpos:Pos}{sm:Stmt}{rest:List Stmt}{bd bd':Bd}{r:Exs}
theorem bDc(hm:X.mg "list"=none)(hc:X.calm=true)(ha:PE X a (tI X.K B f))(hg:Gl X "list":=by rfl)(hbase:attributeBase a "items" X.env (eval a X.env)=eval a X.env:=by rfl)(hline:(apos.endLine==cpos.line)=true:=by rfl)
  (hs:starEach [.Call (.Attribute a "items" apos) [] [] cpos] X.env=(false,eval (.Call (.Attribute a "items" apos) [] [] cpos) X.env)::starEach [] X.env:=by rfl):PE X (.Call (.Name "list" p0) [.Call (.Attribute a "items" apos) [] [] cpos] [] pos) (tF X.K B (e1 aIh f)):=by
 refine cX (aBx (aS9 hc) hg hm (by rfl) (dJ (aR1 PySem.F.plainAttrs_dict PySem.F.slot_dict_items PySem.F.type_dict_items bA8 ha hbase hline) jO hs) (he:=hs)) ?_
 rintro σ H Q ⟨A,st,ds,rs,hd,q⟩;obtain⟨x,hx,h2⟩:=R.ok_of hd;refine⟨A,st,x,rs,hx,λv H1 s1 r1=>?_⟩
 unfold aIh at h2;split at h2
 .obtain⟨c,h3⟩:=aW h2;cases h3;obtain⟨p,vs,rfl,h4,r4⟩:=yJ.mp r1;rcases h4 with ⟨_,kvs,h5,rfl,rfl⟩|⟨h5,_⟩
  .have h6:=bN _ _ _ _ h5;refine⟨.inr (.inr (.inl ⟨rfl,.inl ⟨kvs,h6⟩⟩)),p,kvs,rfl,rfl,h6,λn hn=>⟨n,p,kvs,rfl,cD,by rw[bQ (bI h6 hn)];exact h6,λm ps H' s2 hm' hl hps hp=>?_⟩⟩
   have s3:=(cH (o:=aQ3 n p) hn).trans s2;refine q m _ H' (s1.trans s3) hm' (aJz kvs _ ps (r4.mono (bL.hide s3)) hl λj b hj=>?_)
   obtain⟨p',e1,e2⟩:=hp j b hj;have hb:=hps b (List.mem_of_getElem? hj);exact⟨p',e1,by rw[cL ((rs.own.mono (s1.trans (cH (o:=aQ3 n p) hn))).free hb)];exact e2⟩
  .cases h5
 .cases h2
def tSR(K:Frag)(B:List Addr)(b:Bd)(f:Ex):TS:=λDn σ H=>∃A st st' xs,RS K B A H st σ/\b st=.ok (.nx st')/\f st'=.ok (.lst xs)/\∀A' a vs H',Le A H A' H'->a∈A'->H' a=some (.lst vs)->bM K (hide (A'++B) H') xs vs->Dn.rt (.ref a) H'
theorem aUn(h1:PS X sm (tS X.K B bd))(h2:PSs X rest (tSR X.K B bd' f)):PSs X (sm::rest) (tSR X.K B (bB bd bd') f):=aCa (aI6 h1 h2) (by
 rintro Dn σ H ⟨A,st,st',xs,rs,hb,hi,q⟩;unfold bB aKi at hb;obtain⟨fl,hfl,h3⟩:=R.ok_of hb;refine⟨A,st,fl,rs,hfl,?_⟩;cases fl with
 |nx s1=>exact λA' σ' H' l rs'=>⟨A',s1,st',xs,rs',h3,hi,λA2 a vs H2 l2=>q A2 a vs H2 (l.trans l2)⟩
 |rt d=>cases h3
 |bk s1=>cases h3
 |ct s1=>cases h3)
theorem bA9(he:PE X e (tF X.K B f)):PSs X [.Return (some e) pos] (tSR X.K B cP f):=aCa (aM7 (aQn he)) (by
 rintro Dn σ H ⟨A,st,st',xs,rs,hb,hf,q⟩;cases hb;exact⟨A,st,xs,rs,hf,λp vs H' s hp r=>q (p::A) p vs (upd H' p (.lst vs)) ((Le.of s).trans (aNc hp)) mem_cons_self cD (r.mono (aF1 hp))⟩)
end
section
variable {K:Frag} {st:Stmt} {f:Addr} {k:Nat}
theorem bJm(F:FunD K x qual st dV f fd)(S:FnScope N ps (aJ st))(np n:Nat)(bd:Bd)(g:Ex)(hnp:ps.length=np)(hn:N.length=n)
  (hb:∀(cdv:Value)(A:Around)(outer:List Env)(s:Shared)(H:Hp)(E:XK)(B:List Addr),Room k (A.deeper (envOfC qual (aJ st) s.heap.objs.size f cdv))->
   PSs (aI8 CX0 P w K mg base N qual (aJ st) f cdv A outer s H E).nox (fK st) (tSR K B bd g)):FnOk P w K mg base CX0 (k+1) f fd ps (spF K np (cJ np n (uU bd g))):=by
 refine F.okX S (λvs H Q E h=>?_) (λcdv A outer s H vs Q E hr h=>?_)
 .obtain⟨A,ds,d,own,r,hl,_⟩:=h;rw[r.length,hl,hnp]
 .obtain⟨B,ds,xs,own,r,hl,hp,q⟩:=h;refine⟨tSR K B bd g,hb cdv A outer s H E B hr,?_⟩;obtain⟨_,h2⟩:=aW hp;obtain⟨fl,hfl,h3⟩:=R.ok_of h2;have rs:=aJq (N:=N) own r;rw[hl,hn]at rs;unfold uU at hfl;split at hfl
  .rename_i s1 hf1;obtain⟨d,hd,h4⟩:=R.ok_of hfl;split at h4
   .cases h4;cases h3;refine⟨[],_,s1,_,rs,hf1,hd,λA' a vs' H' l ha hv rv=>?_⟩
    have sm:bL H H':=by
     unfold Le at l;rw[xF]at l;exact l.trans (bN _ _)
    refine q a vs' H' sm ?_ hv (rv.mono (mC λb hb=>?_))
    .cases hH:H a with
     |none=>rfl
     |some o=>
      have z:=l a o (by rw[xF];exact hH)
      rw[jU ha]at z;cases z
    .rcases List.mem_cons.mp hb with rfl|hb
     .exact List.mem_append_left _ ha
     .exact List.mem_append_right _ hb
   .cases h4
  .cases hfl
theorem aWj(ds:List D)(d:D)(h:cJ np n (uU bd g) ds=.ok d):∃xs,d=.lst xs:=by
 obtain⟨_,h2⟩:=aW h;obtain⟨fl,hfl,h3⟩:=R.ok_of h2;unfold uU at hfl;split at hfl
 .obtain⟨d,hd,h4⟩:=R.ok_of hfl;split at h4
  .cases h4;cases h3;exact⟨_,rfl⟩
  .cases h4
 .cases hfl
end
structure DefOkF(P:Program)(w:World)(K:Frag)(mg:Str->Option Value)(base:Heap)(x:Str)(k np:Nat)(p:List D->R D):Prop where
 ex:∃(fa:Addr)(fd:FuncData)(ps:List Str),FnOk P w K mg base CX0 k fa fd ps (spF K np p)/\mg x=some (.ref fa)/\keepIn K (.ref fa)=true/\Binds K fd ps []
 len:∀ds d,p ds=.ok d->ds.length=np
 lst:∀ds d,p ds=.ok d->∃xs,d=.lst xs
theorem DefOkF.of{K:Frag} {k:Nat} (h:FnOk P w K mg base CX0 k fa fd ps (spF K np (cJ np n (uU bd g)))) (m:mg x=some (.ref fa))
  (kp:keepIn K (.ref fa)=true) (b:Binds K fd ps []):DefOkF P w K mg base x k np (cJ np n (uU bd g)):=⟨⟨fa,fd,ps,h,m,kp,b⟩,aF4,aWj⟩
theorem DefOkF.plain{K:Frag} {k:Nat} (h:DefOkF P w K mg base x k np p):DefOk P w K mg base x k np p:=by
 obtain⟨fa,fd,ps,F,m,kp,bd⟩:=h.ex;exact⟨⟨fa,fd,ps,aLy h.lst F,m,kp,bd⟩,h.len⟩
section
theorem bDd{k:Nat} (h:DefOkF X.prog X.w X.K X.mg X.base x k np p) (hr:Room j X.A) (hk:k<=j) (ha:PA X (e::es) (tA X.K B r)) (hg:Gl X x:=by rfl) (hdb:(x==("__debug__":Str))=false:=by decide)
  (he:starEach (e::es) X.env=(false,eval e X.env)::starEach es X.env:=by rfl) (hpl:(backTo pos (starEach es X.env)).any (·.1)=false:=by rfl):PE X (.Call (.Name x p0) (e::es) [] pos) (tF X.K B (aV p r)):=by
 obtain⟨fa,fd,ps,F,m,kp,bd⟩:=h.ex;refine cX (aMc F (hr.mono hk) hg m kp bd .nil aOa ha hdb he hpl) ?_
 rintro σ H Q ⟨A,st,d,rs,hd,q⟩;obtain⟨xs,hx,h2⟩:=R.ok_of hd;refine⟨A,st,xs,rs,hx,λvs H1 s1 r1=>?_⟩
 show spF X.K np p (vs++[]) H1 Q E0;rw[append_nil];refine⟨A++B,xs,d,rs.own.mono s1,r1,h.len _ _ h2,h2,λa ws H' s' ha' hv rv=>?_⟩
 have e0:upd (hide [a] H') a (.lst ws)=H':=by
  funext b
  by_cases hb:b=a
  .subst hb;rw[cD];exact hv.symm
  .rw[bQ hb,cL (by simpa using hb)]
 have z:=q a ws (hide [a] H') (λb u hz=>?_) (jU (by simp)) ?_
 .rw[e0]at z;exact z
 .have hz2:=s1 _ _ hz;rw[cL (by simpa using bI hz2 ha')]
  exact s' _ _ hz2
 .refine rv.mono λb u hz=>?_
  have hb:b∉a::(A++B):=λy=>by rw[jU y]at hz;cases hz
  rw[cL λy=>hb (mem_cons_of_mem _ y),cL (by simpa using λy=>hb (by rw[y];exact mem_cons_self))]
  exact bN _ _ _ _ hz
end
structure DA(K:Frag)(n:Str)(st:Stmt):Prop where
 ex:∃(f:Addr)(fd:FuncData),nsIn K mainGlobals n=some (some (.ref f))/\FunD K n n st .none f fd
section
variable{P:Program}{w:World}{K:Frag}{h base:Heap}{mg:Str->Option Value}{n:Str}{st:Stmt}{f:Addr}{ps:List Str}{k np m:Nat}{p:List D->R D}{bd:Bd}{g:Ex}
theorem cW{od an:Option Addr} {kV doc pm cdv ct:Value} (a:nsIn K mainGlobals n=some (some (.ref f))) (l:K.lookup f=some ⟨oc,od,.func (fnOf n n (jA st) (fK st) (aJ st) .none kV doc pm an cdv ct),osl⟩)
  (c:codeIn K cdv n=true) (k:keepIn K (.ref f)=true):DA K n st:=⟨⟨f,_,a,aHz l c k⟩⟩
structure Ct(P:Program)(w:World)(K:Frag)(mg:Str->Option Value)(base h:Heap):Prop where
 X:K.In h
 G:h.Ns mainGlobals mg
def Bn(n:Str)(st:Stmt)(ps:List Str):Prop:=∀(kV doc pm:Value)(an:Option Addr)(cdv ct:Value)(us:List Value),us.length=ps.length->bindArgs (fnOf n n (jA st) (fK st) (aJ st) .none kV doc pm an cdv ct) ⟨us,[]⟩=pure (ps.zip us)
structure BnA(n q:Str)(st:Stmt)(ps:List Str):Prop where
 ok:∀(kV doc pm:Value)(an:Option Addr)(cdv ct:Value)(us:List Value),us.length=ps.length->bindArgs (fnOf n q (jA st) (fK st) (aJ st) .none kV doc pm an cdv ct) ⟨us,[]⟩=pure (ps.zip us):=by first|exact λ_ _ _ _ _ _=>aUg rfl|exact λ_ _ _ _ _ _=>aNm λ_=>rfl|exact λ_ _ _ _ _ _=>aUh λ_ _=>rfl|exact λ_ _ _ _ _ _=>aI0 λ_ _ _=>rfl|exact λ_ _ _ _ _ _=>aUi λ_ _ _ _=>rfl|exact λ_ _ _ _ _ _=>aUj λ_ _ _ _ _=>rfl|exact λ_ _ _ _ _ _=>bD5 λ_ _ _ _ _ _=>rfl
theorem DA.use(D:DA K n st)(C:Ct P w K mg base h)(b:Bn n st ps):∃(f:Addr)(fd:FuncData),FunD K n n st .none f fd/\mg n=some (.ref f)/\Binds K fd ps []:=by
 obtain⟨f,fd,a,F⟩:=D.ex;exact⟨f,fd,F,mg_of C.X C.G a,F.binds0 b⟩
theorem DA.ok(D:DA K n st)(C:Ct P w K mg base h)(r:∀{f:Addr}{fd:FuncData},FunD K n n st .none f fd->FnOk P w K mg base CX0 k f fd ps (spI K np (cJ np m bd)))(b:BnA n n st ps:=by exact {}):DefOk P w K mg base n k np (cJ np m bd):=by
 obtain⟨f,fd,F,a,z⟩:=D.use C b.ok;exact .of (r F) a F.kp z aF4
theorem DA.okF(D:DA K n st)(C:Ct P w K mg base h)(r:∀{f:Addr}{fd:FuncData},FunD K n n st .none f fd->FnOk P w K mg base CX0 k f fd ps (spF K np (cJ np m (uU bd g))))(b:BnA n n st ps:=by exact {}):DefOkF P w K mg base n k np (cJ np m (uU bd g)):=by
 obtain⟨f,fd,F,a,z⟩:=D.use C b.ok;exact .of (r F) a F.kp z
structure MA(K:Frag)(C:Addr)(m:String)(n q:Str)(st:Stmt):Prop where
 ex:∃(f:Addr)(fd:FuncData),Meth K C (Str.ofString m) f/\FunD K n q st .none f fd
theorem aH6{m:String}{q:Str} {od an:Option Addr} {kV doc pm cdv ct:Value} (a:findIn K (.ref C) (Str.ofString m)=some (some (.ref f))) (e:isFn K (.ref f)=true) (l:K.lookup f=some ⟨oc,od,.func (fnOf n q (jA st) (fK st) (aJ st) .none kV doc pm an cdv ct),osl⟩)
  (c:codeIn K cdv q=true) (k:keepIn K (.ref f)=true):MA K C m n q st:=⟨⟨f,_,⟨a,e,k⟩,aHz l c k⟩⟩
theorem MA.ok{C:Addr}{c m:String}{q:Str}{j:Nat}(D:MA K C m n q st)(_:Ct P w K mg base h)(hc:ClsAt K c C)(r:∀{f:Addr}{fd:FuncData},FunD K n q st .none f fd->FnOk P w K mg base CX0 k f fd ps (spI K np (cJ np j bd)))(b:BnA n q st ps:=by exact {}):MethOk P w K mg base c m k np [] (cJ np j bd):=by
 obtain⟨f,fd,M,F⟩:=D.ex;exact MethOk.of (dvs:=[]) hc M (r F) (F.binds0 b.ok) .nil λ_=>.nil
end
end Pu
namespace Pu
open PySem
structure TI(b:Bool)(t:SetTable):Prop where
 rise:t.place.toList.Pairwise (· < ·)
 dum:t.dummies = #[]
 led:t.led=b
theorem aK0(xs:Array Nat)(j:Nat)(hr:xs.toList.Pairwise (· < ·)):∀(fuel lo hi:Nat),hi-lo<=fuel->lo<=hi->hi<=xs.size->(∀(i:Nat)(a:Nat),i<lo->xs[i]?=some a->a<j)->(∀(i:Nat)(a:Nat),hi<=i->xs[i]?=some a->j<=a)->
  (∀(i:Nat)(a:Nat),i<SetTable.below.go xs j fuel lo hi->xs[i]?=some a->a<j)/\(∀(i:Nat)(a:Nat),SetTable.below.go xs j fuel lo hi<=i->xs[i]?=some a->j<=a)/\SetTable.below.go xs j fuel lo hi<=xs.size
 |0,lo,hi,hf,hl,hs,h1,h2=>by
  have e:lo=hi:=by omega
  subst e;exact⟨h1,h2,hs⟩
 |fuel+1,lo,hi,hf,hl,hs,h1,h2=>by
  unfold SetTable.below.go;have up:∀(i k:Nat)(a b:Nat),i<k->xs[i]?=some a->xs[k]?=some b->a<b:=λi k a b hik ha hb=>by
   rw[<-getElem?_toList]at ha hb;obtain⟨hi',ei⟩:=List.getElem?_eq_some_iff.mp ha;obtain⟨hk',ek⟩:=List.getElem?_eq_some_iff.mp hb;have:=List.pairwise_iff_getElem.mp hr i k hi' hk' hik;rw[ei,ek]at this;exact this
  by_cases hlt:lo<hi
  .rw[if_pos hlt];have hm:(lo+hi)/2<xs.size:=by omega
   have hx:xs[(lo+hi)/2]?=some xs[(lo+hi)/2]:=Array.getElem?_eq_getElem hm;have hg:xs.getD ((lo+hi)/2) j=xs[(lo+hi)/2]:=by rw[getD_eq_getD_getElem?,hx];rfl
   dsimp only;rw[hg]
   by_cases hc:xs[(lo+hi)/2] < j
   .rw[if_pos hc];refine aK0 xs j hr fuel _ _ (by omega) (by omega) hs (λi a hi' ha=>?_) h2
    by_cases he:i=(lo+hi)/2
    .subst he;rw[hx]at ha;cases ha;exact hc
    .exact Nat.lt_trans (up i _ a _ (by omega) ha hx) hc
   .rw[if_neg hc];refine aK0 xs j hr fuel _ _ (by omega) (by omega) (by omega) h1 λi a hi' ha=>?_
    by_cases he:i=(lo+hi)/2
    .subst he;rw[hx]at ha;cases ha;omega
    .have:=up _ i _ a (by omega) hx ha;omega
  .rw[if_neg hlt];have e:lo=hi:=by omega
   subst e;exact⟨h1,h2,hs⟩
theorem aK1(xs:Array Nat)(j:Nat)(hr:xs.toList.Pairwise (· < ·)):(∀(i:Nat)(a:Nat),i<SetTable.below xs j->xs[i]?=some a->a<j)/\(∀(i:Nat)(a:Nat),SetTable.below xs j<=i->xs[i]?=some a->j<=a)/\SetTable.below xs j<=xs.size:=
 aK0 xs j hr xs.size 0 xs.size (by omega) (zero_le _) (Nat.le_refl _) (λi a h=>absurd h (not_lt_zero _)) λi a h ha=>by
  have:=(Array.getElem?_eq_some_iff.mp ha).1;omega
theorem aQ4(xs:Array Nat)(j:Nat)(hr:xs.toList.Pairwise (· < ·))(hn:xs[SetTable.below xs j]?≠some j):(SetTable.insertAt xs (SetTable.below xs j) j).toList.Pairwise (· < ·):=by
 obtain⟨h1,h2,h3⟩:=aK1 xs j hr;have e:(SetTable.insertAt xs (SetTable.below xs j) j).toList=xs.toList.take (SetTable.below xs j)++j::xs.toList.drop (SetTable.below xs j):=by
  unfold SetTable.insertAt;simp only[Array.toList_append,toList_push,Array.toList_extract];simp[List.extract_eq_drop_take,List.append_assoc];rw[List.take_of_length_le (by simp)]
 rw[e,List.pairwise_append];have ge:∀a∈xs.toList.drop (SetTable.below xs j),j<a:=λa ha=>by
  obtain⟨k,hk⟩:=List.mem_iff_getElem?.mp ha;rw[List.getElem?_drop,getElem?_toList]at hk;have:=h2 _ a (Nat.le_add_right _ _) hk;rcases Nat.lt_or_eq_of_le this with h|h
  .exact h
  .subst h;exfalso;have hb:SetTable.below xs j<xs.size:=by have:=(Array.getElem?_eq_some_iff.mp hk).1;omega
   have hx:xs[SetTable.below xs j]?=some xs[SetTable.below xs j]:=Array.getElem?_eq_getElem hb;have g1:=h2 _ _ (Nat.le_refl _) hx
   by_cases hz:k=0
   .subst hz;rw[Nat.add_zero]at hk;exact hn hk
   .have hk':=(Array.getElem?_eq_some_iff.mp hk);have:=List.pairwise_iff_getElem.mp hr (SetTable.below xs j) (SetTable.below xs j+k) (by simpa using hb) (by simpa using hk'.1) (by omega)
    rw[Array.getElem_toList,Array.getElem_toList,hk'.2]at this;omega
 refine⟨hr.sublist (List.take_sublist _ _),List.pairwise_cons.mpr ⟨ge,hr.sublist (List.drop_sublist _ _)⟩,λa ha b hb=>?_⟩
 have la:a<j:=by
  obtain⟨k,hk⟩:=List.mem_iff_getElem?.mp ha;rw[List.getElem?_take]at hk;split at hk
  .rename_i hlt;rw[getElem?_toList]at hk;exact h1 k a hlt hk
  .cases hk
 rcases List.mem_cons.mp hb with rfl|hb
 .exact la
 .exact Nat.lt_trans la (ge b hb)
theorem aUo(j:Nat):SetTable.has #[] j=false:=rfl
theorem aQ5(t:SetTable)(hashAt:Nat->Int)(h:Int)(hd:t.dummies = #[]):∀(fuel:Nat)(p:SetTable.Probe)(j:Nat)(d:Option Nat),SetTable.probe.go t hashAt h fuel p=some (.empty j d)->t.slot j=.empty/\d=p.dummy
 |0,p,j,d,e=>by cases e
 |fuel+1,p,j,d,e=>by
  unfold SetTable.probe.go at e;cases hs:t.slot p.j with
  |empty=>rw[hs]at e;cases e;exact⟨hs,rfl⟩
  |dummy=>
   exfalso;unfold SetTable.slot at hs;dsimp only at hs;split at hs
   .cases hs
   .rw[hd,aUo]at hs;cases hs
  |live i=>
   rw[hs]at e;dsimp only at e;have adv:(t.advance p).dummy=p.dummy:=by
    unfold SetTable.advance;split<;>rfl
   split at e
   .cases e
   .obtain⟨a,b⟩:=aQ5 t hashAt h hd fuel _ j d e;exact⟨a,b.trans adv⟩
theorem aWk{t:SetTable}{h:Int} {w:Bool} (hd:t.dummies = #[]) (e:t.freeSlot h=some (j,w)):t.slot j=.empty:=by
 unfold SetTable.freeSlot at e;split at e
 .rename_i j' d hp;obtain⟨a,b⟩:=aQ5 t _ h hd _ _ _ _ hp;have:d=none:=b;subst this;cases e;exact a
 .cases e
theorem aWl{t:SetTable} (h:t.slot j=.empty):t.place[SetTable.below t.place j]?≠some j:=λe=>by
 unfold SetTable.slot at h;dsimp only at h;rw[if_pos (by rw[e];exact beq_self_eq_true _)]at h
 cases h
theorem TI.put{b:Bool}{t:SetTable}{j:Nat}(x:TI b t)(h:t.slot j=.empty):TI b (t.put j).1:=by
 refine⟨aQ4 t.place j x.rise (aWl h),?_,x.led⟩;show (if SetTable.has t.dummies j then _ else t.dummies)=_
 rw[x.dum,aUo];rfl
theorem aSa(n:Nat):(Array.range n).toList.Pairwise (· < ·):=by
 rw[Array.toList_range];exact List.pairwise_lt_range
theorem TI.stand{t:SetTable}(x:TI b t)(n:Nat):TI b (t.standIn n):=⟨aSa n,rfl,x.led⟩
theorem TI.orStand{t:SetTable}(x:TI b t)(n:Nat):TI b (t.orStandIn n):=by
 unfold SetTable.orStandIn;split
 .exact x
 .exact x.stand n
theorem TI.lay{t:SetTable}(x:TI b t)(es:Array (Int×Value))(h:Int)(v:Value):TI b (layNew t es h v).2.1:=by
 unfold layNew;split
 .rename_i j w e;exact(x.put (aWk x.dum e)).orStand _
 .exact x.stand _
theorem TI.relay{t:SetTable}(x:TI b t)(es:Array (Int×Value))(n:Nat):TI b (relayAll t es n).2.1:=by
 unfold relayAll;split
 .rename_i t' order e;have y:TI b t':=by
   unfold SetTable.relaid SetTable.laid at e;obtain⟨owner,_,e2⟩:=Option.bind_eq_some_iff.mp e;cases e2;refine⟨?_,rfl,x.led⟩;show ((List.map (λx:Nat×Nat=>x.1) (List.filterMap (λj=>Option.map (λx=>(j,x)) (owner.getD j Option.none)) (List.range (SetTable.sizeAbove n-1+1)))).toArray).toList.Pairwise (· < ·)
   rw[List.toList_toArray,List.map_filterMap];refine(List.pairwise_lt_range (n:=_)).filterMap _ λa a' haa c hc c' hc'=>?_
   have h1:c=a:=by
    cases ho:(owner.getD a none) with
    |none=>rw[ho]at hc;cases hc
    |some k=>rw[ho]at hc;cases hc;rfl
   have h2:c'=a':=by
    cases ho:(owner.getD a' none) with
    |none=>rw[ho]at hc';cases hc'
    |some k=>rw[ho]at hc';cases hc';rfl
   rw[h1,h2];exact haa
  dsimp only;split
  .exact y
  .exact x.stand _
 .exact x.stand _
theorem TI.fresh(b:Bool):TI b (.fresh 0 0 b):=⟨List.Pairwise.nil,rfl,rfl⟩
theorem aQ6(t:SetTable)(es:Array (Int×Value))(h:Int)(v:Value):(layNew t es h v).1.toList.Perm (es.toList++[(h,v)]):=by
 have p:=layNew_perm t es h v;rw[toList_push]at p;exact p
def numOf:Value->Int
 |.int n _=>n
 |_=>0
def aWm(e:Int×Value):Prop:=∃(n:Int)(t:Tok),e=(hashInt n,.int n t)
structure SetIs(b:Bool)(a:Addr)(ns:List Int)(es:Array (Int×Value))(ep:Nat)(t:SetTable)(h:Heap):Prop where
 obj:h.get? a=some {cls:=.type "set",dict:=none,data:=.set es ep t,slots := #[]}
 fit:t.fits es.size=true
 ti:TI b t
 perm:(es.toList.map λe=>numOf e.2).Perm ns
 nums:∀e∈es.toList,aWm e
theorem SetIs.keep{es:Array (Int×Value)} {t:SetTable} (x:SetIs b a ns es ep t h) (k:∀o,h.get? a=some o->h'.get? a=some o):SetIs b a ns es ep t h':=
 ⟨k _ x.obj,x.fit,x.ti,x.perm,x.nums⟩
theorem SetIs.size{b:Bool}{a:Addr}{ns:List Int}{es:Array (Int×Value)}{ep:Nat}{t:SetTable}{h:Heap}(x:SetIs b a ns es ep t h):es.size=ns.length:=by
 have:=x.perm.length_eq;simpa using this
theorem SetIs.put{ns':List Int}{es es':Array (Int×Value)} {t t':SetTable} (x:SetIs b a ns es ep t h) (fit:t'.fits es'.size=true) (ti:TI b t') (perm:(es'.toList.map λe=>numOf e.2).Perm ns') (nums:∀e∈es'.toList,aWm e) :
  SetIs b a ns' es' (ep+1) t' (h.update a (Obj.putSet es' t')):=by
 refine⟨?_,fit,ti,perm,nums⟩;rw[Heap.get?_update_self (Obj.putSet es' t') x.obj rfl];rfl
def aNo(ns:List Int)(k:Int):List Int:=if ns.any (· == k) then ns else ns++[k]
theorem bDe(ns:List Int)(k:Int):(aNo ns k).length<=ns.length+1:=by
 unfold aNo;split
 .exact le_succ _
 .simp
section
variable {A:Around}
theorem bDf{es:List (Int×Value)}(nums:∀e∈es,aWm e):ElemsOf (intKind prog w) es:=λe he=>by
 obtain⟨n,t,rfl⟩:=nums e he;exact⟨⟨n,intKind_is prog w n t,rfl⟩,rfl⟩
theorem bDg{es:List (Int×Value)} (nums:∀e∈es,aWm e) (perm:(es.map λe=>numOf e.2).Perm ns) (k:Int):(es.findIdx? (λe=>(intKind prog w).is k e.2)).isSome=ns.any (· == k):=by
 rw[List.findIdx?_isSome,Bool.eq_iff_iff,List.any_eq_true,List.any_eq_true];constructor
 .rintro⟨e,he,hp⟩;obtain⟨n,t,rfl⟩:=nums e he;have en:n=k:=(intKind prog w).inj _ n k (intKind_is prog w n t) hp;exact⟨n,perm.mem_iff.mp (List.mem_map.mpr ⟨_,he,rfl⟩),beq_iff_eq.mpr en⟩
 .rintro⟨n,hn,hp⟩;obtain⟨e,he,hv⟩:=List.mem_map.mp (perm.mem_iff.mpr hn);obtain⟨n',t,rfl⟩:=nums e he;have e1:n'=n:=hv;have e2:n=k:=beq_iff_eq.mp hp;refine⟨_,he,?_⟩;rw[<-e2,<-e1];exact intKind_is prog w n' t
theorem aNp{Q:Unit->Shared->Prop}(c:Bool)(q:Q () s):wpAny (model prog w) A (match c with|true=>rule "set.scan.the-table-gave-way"|false=>pure ()) Q E s:=by
 cases c with
 |true=>exact wpAny_rule q
 |false=>exact wpAny_pure q
theorem store_ok{ns':List Int}{es es':Array (Int×Value)}{ep:Nat}{t t':SetTable}{d:Bool}{R:Option Bool->Shared->Prop}{g:Bool->Sem Unit}
  (hg:∀(c:Bool)(s₁:Shared)(Q:Unit->Shared->Prop),Q () s₁->wpAny (model prog w) A (g c) Q E s₁) (x:SetIs b a ns es ep t s.heap)
  (few:es'.size<scanBound) (fit:t'.fits es'.size=true) (ti:TI b t') (perm:(es'.toList.map λe=>numOf e.2).Perm ns') (nums:∀e∈es'.toList,aWm e)
  (r:∀(h':Heap) (es:Array (Int×Value)) (ep:Nat) (t:SetTable),Heap.SameBut a s.heap h'->SetIs b a ns' es ep t h'->R (some true) {s with heap:=h'}) :
  wpAny (model prog w) A (storeSet a es' t' >>= λ_=>if (!d&&t'.tooFull)=true then g (relayAll t' es' (SetTable.grown es'.size)).2.2 >>= λ_=>storeSet a (relayAll t' es' (SetTable.grown es'.size)).1 (relayAll t' es' (SetTable.grown es'.size)).2.1 >>= λ_=>pure (some true) else pure (some true)) R E s:=by
 have y:=x.put fit ti perm nums;have o1:=Heap.SameBut.update s.heap a (Obj.putSet es' t');refine wpAny_bind (wpAny_storeSet_of x.obj rfl ?_ (fits_of_scanBound few))
 by_cases hc:(!d&&t'.tooFull)=true
 .rw[if_pos hc];have p:=relayAll_perm t' es' (SetTable.grown es'.size);have sz:(relayAll t' es' (SetTable.grown es'.size)).1.size=es'.size:=by simpa using p.length_eq
  have z:=y.put (relayAll_fits t' es' (SetTable.grown es'.size)) (ti.relay es' _) ((p.map _).trans perm) λe he=>nums e (p.mem_iff.mp he)
  exact wpAny_bind (hg _ _ _ (wpAny_bind (wpAny_storeSet_of y.obj rfl (wpAny_pure (r _ _ _ _ (o1.trans (Heap.SameBut.update _ a _)) z)) (fits_of_scanBound (by rw[sz];exact few)))))
 .rw[if_neg hc];exact wpAny_pure (r _ _ _ _ o1 y)
theorem bH5{es:Array (Int×Value)}{ep:Nat}{t:SetTable}{k:Int}{tk:Tok}{Q:Bool->Shared->Prop}(x:SetIs b a ns es ep t s.heap)(few:ns.length+1<scanBound)
  (q:∀(c:Bool)(h':Heap) (es:Array (Int×Value)) (ep:Nat) (t:SetTable),Heap.SameBut a s.heap h'->SetIs b a (aNo ns k) es ep t h'->Q c {s with heap:=h'}) :
  wpAny (model prog w) A (setAddHashed a (.int k tk) (hashInt k)) Q E s:=by
 have el:ElemsOf (intKind prog w) es.toList:=bDf x.nums;have fz:es.size<scanBound:=by rw[x.size];omega
 have fk:=bDg (prog:=prog) (w:=w) x.nums x.perm k;have nadd:∀e∈(layNew t es (hashInt k) (.int k tk)).1.toList,aWm e:=λe he=>by
  rcases List.mem_append.mp ((aQ6 t es _ _).mem_iff.mp he) with he|he
  .exact x.nums e he
  .exact⟨k,tk,List.mem_singleton.mp he⟩
 have padd:((layNew t es (hashInt k) (.int k tk)).1.toList.map λe=>numOf e.2).Perm (ns++[k]):=by
  have:=(aQ6 t es (hashInt k) (.int k tk)).map λe=>numOf e.2
  rw[List.map_append]at this;exact this.trans (x.perm.append_right _)
 have sadd:(layNew t es (hashInt k) (.int k tk)).1.size<scanBound:=by
  have:=padd.length_eq;simp at this;omega
 unfold setAddHashed setAddHashedIn;refine wpAny_holding (wpAny_bind (wpAny_setState_of x.obj rfl x.fit ?_));dsimp only;rw[if_pos (byScan_of rfl fz el)];unfold setAddByScan;refine wpAny_bind (wpAny_bind (wpAny_rule (wpAny_bind (wpAny_setScan_of (knd:=intKind prog w) (intKind_is prog w k tk) x.obj rfl x.fit el ?_))));cases hr:es.toList.findIdx? (λe=>(intKind prog w).is k e.2) with
 |some j=>
  rw[hr]at fk;have:aNo ns k=ns:=if_pos fk.symm;rw[this]at q;exact wpAny_pure (wpAny_pure (q false s.heap es ep t (Heap.SameBut.refl a s.heap) x))
 |none=>
  rw[hr]at fk;have:aNo ns k=ns++[k]:=by unfold aNo;rw[<-fk];rfl
  rw[this]at q;have tl:=x.ti.lay es (hashInt k) (.int k tk);have fl:=layNew_fits t es (hashInt k) (.int k tk);generalize layNew t es (hashInt k) (.int k tk)=L at padd nadd sadd tl fl ⊢;obtain⟨es1,t1,d,gv⟩:=L;dsimp only at padd nadd sadd tl fl ⊢;refine wpAny_bind (aNp _ ?_)
  by_cases hp:t1.plain=true
  .rw[if_pos hp];refine wpAny_bind ?_
   rw[hashByValue_scannable 8 rfl];exact wpAny_pure (store_ok (λc s₁ Q' h'=>aNp c h') x sadd fl tl padd nadd λh' es ep t sb y=>wpAny_pure (q true h' es ep t sb y))
  .rw[if_neg hp];exact wpAny_bind (wpAny_pure (store_ok (λc s₁ Q' h'=>aNp c h') x sadd fl tl padd nadd λh' es ep t sb y=>wpAny_pure (q true h' es ep t sb y)))
end
end Pu
namespace Pu
open PySem PyProof.Rows
section
variable{prog:Program}{w:World}{A:Around}{E:Value->Shared->Prop}{s:Shared}
def aNq(val:Nat->Int):Nat->List Int
 |0=>[]
 |i+1=>aNo (aNq val i) (val i)
theorem aUp(val:Nat->Int):∀i,(aNq val i).length<=i
 |0=>Nat.le_refl _
 |i+1=>Nat.le_trans (bDe _ _) (Nat.succ_le_succ (aUp val i))
def jG(b:Bool)(a:Addr)(ns:List Int)(h:Heap):Prop:=∃es ep t,SetIs b a ns es ep t h
theorem jG.keep{b:Bool}{a:Addr}{ns:List Int}{h h':Heap}(x:jG b a ns h)(k:∀o,h.get? a=some o->h'.get? a=some o):jG b a ns h':=
 let ⟨es,ep,t,y⟩:=x
 ⟨es,ep,t,y.keep k⟩
theorem bH6{k:Int}{t:Tok}{Q:Bool->Shared->Prop}(x:jG b a ns s.heap)(few:ns.length+1<scanBound)
  (q:∀(c:Bool)(h':Heap),Heap.SameBut a s.heap h'->jG b a (aNo ns k) h'->Q c {s with heap:=h',toks:=s.toks+1}) :
  wpAny (model prog w) A (setAdd a (.int k t)) Q E s:=by
 obtain⟨es,ep,tb,y⟩:=x;unfold setAdd;refine wpAny_holding (wpAny_bind ((intKind prog w).pyHash (k:=k) (intKind_is prog w k t) ?_));exact bH5 (s:={s with toks:=s.toks+1}) y few λc h' es' ep' t' sb z=>q c h' sb ⟨es',ep',t',z⟩
variable{I:Addr}{fp wr:List Addr}{G:Array GenState->Array GenState->Prop}{n:Nat}{P:Nat->Value->Prop}{St:Nat->Shared->Prop}
theorem bDh(W:WalksS prog w A.in1 I fp wr G n P St){R:Result->Shared->Prop}(a:Addr)(b:Bool)(out:a∉fp)(val:Nat->Int)(isN:∀i v,P i v->∃t,v=.int (val i) t)(few:n+1<scanBound) :
  ∀(m i:Nat)(s:Shared),i+m=n->St i s->jG b a (aNq val i) s.heap->
   (∀s',Moved (a::wr) G s s'->jG b a (aNq val n) s'.heap->R (.ok (.ret .none)) s')->
   codeAny (model prog w) A (.builtin "set.update.loop" ⟨[.ref a,.ref I],[]⟩) R s:=by
 have nw:a∉wr:=λh=>out (W.sub _ h)
 have up:∀c∈wr,c∈a::wr:=λc hc=>mem_cons_of_mem _ hc
 intro m
 induction m with
 |zero=>
  intro i s e st x r;rw[Nat.add_zero]at e;subst e;refine codeAny_builtin F.entry_set_update_loop ?_
  rw[Around.under_plainId F.plain_set_update_loop _];show wpAny _ A.in1 (pyNext (.ref I) >>= _) _ _ s;exact wpAny_bind (W.done s _ _ st λs' mv=>wpAny_pure (r s' (mv.mono up) (x.keep λo ho=>mv.heap a o nw ho)))
 |succ m ih=>
  intro i s e st x r;refine codeAny_builtin F.entry_set_update_loop ?_
  rw[Around.under_plainId F.plain_set_update_loop _];show wpAny _ A.in1 (pyNext (.ref I) >>= _) _ _ s;refine wpAny_bind (W.item i s _ _ (by omega) st λv s' pv st' mv=>?_)
  obtain⟨t,rfl⟩:=isN i v pv;have fw:(aNq val i).length+1<scanBound:=by have:=aUp val i;omega
  refine wpAny_bind (wpAny_holding (bH6 (x.keep λo ho=>mv.heap a o nw ho) fw λc h' sb y=>wpAny_pure ⟨plainId_quiet F.plain_set_update_loop _,?_⟩))
  have other:∀c,c≠a->h'.get? c=s'.heap.get? c:=λc hc=>sb.2 c hc
  refine ih (i+1) _ (by omega) (W.frame _ s' _ _ st' (le_succ _) λc hc o ho=>?_) y λs2 mv2 z=>?_
  .rw[other c λh=>out (h ▸ hc)]
   exact ho
  .refine r s2 (Moved.trans W.gtrans ((mv.mono up).then_heap (le_succ _) λc o hc ho=>?_) mv2) z
   rw[other c λh=>hc (h ▸ mem_cons_self)]
   exact ho
end
section
variable{prog:Program}{w:World}{A:Around}{E:Value->Shared->Prop}{s:Shared}
def xJ(w:World):Bool:=w.params.followText "set-order"
def uK(w:World):Obj:={cls:=.type "set",dict:=none,data:=.set #[] 0 (.fresh 0 0 (!xJ w)),slots := #[]}
theorem bDi(a:Value) (q:Q (.ref s.heap.objs.size) {s with heap:=s.heap.push (uK w)}) :
  codeAny (model prog w) A (.call (.builtin "set.__new__") ⟨[.type "set",a],[]⟩) (wants Q E) s:=by
 refine codeAny_of_tree (?_:wpAny _ A.in1 (checkBuiltinCall "set.__new__" ⟨[.type "set",a],[]⟩ >>= λ_=>again (.builtin "set.__new__" ⟨[.type "set",a],[]⟩)) _ _ s)
 refine wpAny_bind (wpAny_of_eq (F.newCall_set_1 a) (wpAny_pure ⟨plainId_quiet F.plain_set_new _,codeAny_builtin F.entry_set_new ?_⟩));rw[Around.under_plainId F.plain_set_new _];unfold Builtin.«set.__new__» Builtin.Frozenset.newClass;have sub:=sub_set_self;obtain⟨hp,g,d,tk,os⟩:=s;dsimp only
 wp_walk
 refine wpAny_askSetting (wpAny_pure ?_);dsimp only;simp only[newObj];exact wpAny_bind (wpAny_alloc (wpAny_pure (wpAny_pure q)))
theorem aWn(w:World) (o:h.get? a=some (uK w)):jG (!xJ w) a [] h:=
 ⟨#[],0,_,o,rfl,TI.fresh _,List.Perm.nil,λe he=>nomatch he⟩
theorem bDj{l:Addr} {R:Result->Shared->Prop} (hh:A.handled=none) (o:s.heap.get? a=some (uK w)) (ne:l≠a) (hl:s.heap.IsList l items) (isN:IntsAre items.toList ns) (few:items.size+1<scanBound)
  (r:∀(h':Heap)(tk:Nat),jG (!xJ w) a (aNq (λi=>ns.getD i 0) items.size) h'->(∀b o,b≠a->s.heap.get? b=some o->h'.get? b=some o)->R (.ok (.ret .none)) {s with heap:=h',toks:=tk}) :
  wpAny (model prog w) A.in1 (Builtin.«set.__init__» ⟨[.ref a,.ref l],[]⟩) (λfin s'=>match fin with|.done f=>R (.ok f) s'|.again c'=>c'.quiet=true/\codeAny (model prog w) A c' R s') (λe s'=>R (.error e) s') s:=by
 have hT:s.TypeIs (.ref a) "set":=⟨_,o,rfl⟩;obtain⟨ol,hol,hcl,nl,hdl⟩:=id hl;obtain⟨cl,di,da,sl⟩:=ol;dsimp only at hcl hdl;subst hcl;subst hdl;have o':s.heap.get? a=some {cls:=.type "set",dict:=none,data:=.set #[] 0 (.fresh 0 0 (!xJ w)),slots := #[]}:=o;have h1:=F.sub_list_set;have h2:=F.sub_list_frozenset;have h3:(Value.type "list" == Value.type "dict")=false:=by decide
 unfold Builtin.«set.__init__» noKeywords Builtin.Frozenset.updateFrom;generalize hp:pyIter=it
 wp_walk
 subst hp;refine wpAny_pyIter_list hl (wpAny_bind (wpAny_runValue ?_));have ia:a≠s.heap.objs.size:=Nat.ne_of_lt (Heap.lt_size o);have il:l≠s.heap.objs.size:=Nat.ne_of_lt (Heap.lt_size hol);have out:a∉[s.heap.objs.size,l]:=by
  intro h;rcases List.mem_cons.mp h with h|h
  .exact ia h
  .exact ne (List.mem_singleton.mp h).symm
 refine bDh ((Walks.list (by simp[hh]) _ l il items).toS) a (!xJ w) out (λi=>ns.getD i 0) (λi v hv=>IntsAre.int_at isN i v (by rw[getElem?_toList];exact hv)) few items.size 0 _ (Nat.zero_add _)
  ⟨⟨_,Heap.get?_push_size _ rfl,rfl,rfl⟩,hl.push _⟩ (aWn w (Heap.get?_push_of_some _ o)) λs' mv x=>?_
 rw[Moved.eq_with mv];refine wpAny_pure (wpAny_pure (r s'.heap s'.toks x λb o hb ho=>mv.heap b o (λhm=>?_) (Heap.get?_push_of_some _ ho)))
 rcases List.mem_cons.mp hm with h|h
 .exact hb h
 .exact absurd (List.mem_singleton.mp h) (Nat.ne_of_lt (Heap.lt_size ho))
theorem bDk{l:Addr} (hh:A.handled=none) (hl:s.heap.IsList l items) (isN:IntsAre items.toList ns) (few:items.size+1<scanBound)
  (q:∀(h':Heap)(tk:Nat),jG (!xJ w) s.heap.objs.size (aNq (λi=>ns.getD i 0) items.size) h'->(∀b o,s.heap.get? b=some o->h'.get? b=some o)->Q (.ref s.heap.objs.size) {s with heap:=h',toks:=tk}) :
  wpAny (model prog w) A (call (.type "set") [.ref l]) Q E s:=by
 obtain⟨c,tl,hmro⟩:=F.called_set.mro;have g1:=F.called_set.made;have g2:=F.called_set.sub;have g3:=F.called_set.notType;have g4:=F.called_set.canCreate;have g5:=F.typeCall_set_1 (.ref l);refine wpAny_call (codeAny_of_tree (?_:wpAny _ _ (callAny (.type "set") _) _ _ _));refine wpAny_pure ⟨Code.quiet_builtin _ (by decide+kernel),codeAny_builtin F.entry_type_call ?_⟩
 rw[Around.under_plain (weight_type_call_type "set" [.ref l] []) rfl]
 repeat (any_goals (first|assumption|wp_step))
 refine codeAny_mono (bDi (.ref l) (E:=E) (Q:=λv s₁=>v=.ref s.heap.objs.size/\s₁={s with heap:=s.heap.push (uK w)}) ⟨rfl,rfl⟩) λres s₁ hres=>?_
 match res,hres with
 |.error e,he=>exact he
 |.ok (.ret v),⟨hv,hs⟩=>
  subst hv;subst hs;have ob:(s.heap.push (uK w)).get? s.heap.objs.size=some (uK w):=Heap.get?_push_size _ rfl;have hT:Shared.TypeIs {s with heap:=s.heap.push (uK w)} (.ref s.heap.objs.size) "set":=⟨_,ob,rfl⟩
  have g6:=F.called_set.init.lookup;have g7:=F.called_set.init.bind (.ref s.heap.objs.size)
  repeat (any_goals (first|assumption|wp_step))
  have ne:l≠s.heap.objs.size:=let ⟨_,h,_⟩:=hl;Nat.ne_of_lt (Heap.lt_size h);refine codeAny_mono (codeAny_call_builtin (R:=wants (λr s₂=>r=.none/\Q (.ref s.heap.objs.size) s₂) E) F.called_set.init.plain F.entry_set_init (check_set_init_1 hT
   (bDj (by simp[hh]) ob ne (hl.push _) isN few λh' tk x k=>⟨rfl,q h' tk x λb o ho=>k b o (Nat.ne_of_lt (Heap.lt_size ho)) (Heap.get?_push_of_some _ ho)⟩))) λr₂ s₂ hr₂=>?_
  match r₂,hr₂ with
  |.error e,he=>exact he
  |.ok (.ret _),⟨h0,hq⟩=>
   subst h0
   repeat (any_goals (first|assumption|wp_step))
end
theorem aDo{α:Type}:∀(xs:List α)(i:Nat)(x:α),xs[i]?=some x->(x::xs.eraseIdx i).Perm xs
 |[],_,_,h=>nomatch h
 |y::xs,0,x,h=>by cases h;exact List.Perm.refl _
 |y::xs,i+1,x,h=>by
  have:=aDo xs i x (by simpa using h)
  exact(List.Perm.swap y x _).trans (this.cons y)
theorem aM2{α:Type}(next:Nat->Nat):∀(n k:Nat)(left:List α)(out:Array α),left.length=n->(pickOrder.go next n k left out).toList.Perm (out.toList++left)
 |0,k,left,out,h=>by
  cases left with
  |nil=>rw[append_nil];exact List.Perm.refl _
  |cons _ _=>cases h
 |n+1,k,left,out,h=>by
  unfold pickOrder.go;have hl:next k%left.length<left.length:=mod_lt _ (by omega)
  have e:left[next k%left.length]?=some left[next k%left.length]:=List.getElem?_eq_getElem hl
  rw[e];dsimp only;refine(aM2 next n (k+1) _ _ (by rw[List.length_eraseIdx_of_lt hl];omega)).trans ?_
  rw[toList_push,List.append_assoc];exact(aDo left _ _ e).append_left _
theorem aK2(next:Nat->Nat)(xs:Array α):(pickOrder next xs).toList.Perm xs.toList:=aM2 next xs.size 0 xs.toList #[] (Array.length_toList)
section
variable {A:Around}
theorem aWo{s:Shared}{src:Source} {Q:Nat->Shared->Prop} (hn:n≠0) (q:∀i d,i<n->Q i {s with drawn:=d}):wpAny (model prog w) A (choose src n) Q E s:=
 λ_ _ _=>⟨hn,q _ _ (mod_lt _ (Nat.pos_of_ne_zero hn))⟩
theorem bDl{α:Type}(n:Nat):∀(xs:List α)(s:Shared)(Q:List α->Shared->Prop),xs.length=n->(∀ys d,ys.Perm xs->Q ys {s with drawn:=d})->wpAny (model prog w) A (drawOrder n xs) Q E s:=by
 induction n with
 |zero=>
  intro xs s Q h q;have e:xs=[]:=List.length_eq_zero_iff.mp h;subst e;exact wpAny_pure (q [] s.drawn (List.Perm.refl _))
 |succ n ih=>
  intro xs s Q h q;have ne:xs≠[]:=λe=>by rw[e]at h;cases h
  obtain⟨x,l,rfl⟩:=List.exists_cons_of_ne_nil ne;refine(?_:wpAny (model prog w) A (choose .order (x::l).length >>= λi=>match (x::l)[i]? with|some y=>drawOrder n ((x::l).eraseIdx i) >>= λr=>pure (y::r)|none=>unsupported "internal:drawOrder") Q E s)
  refine wpAny_bind (aWo (by simp) λi d hi=>?_)
  have e:(x::l)[i]?=some (x::l)[i]:=List.getElem?_eq_getElem hi;rw[e];refine wpAny_bind (ih _ _ _ (by rw[List.length_eraseIdx_of_lt hi];omega) λys d' hy=>wpAny_pure (q _ d' ?_))
  exact(hy.cons _).trans (aDo _ _ _ e)
end
theorem rB:Slot "set_iterator" "__next__" "set_iterator.__next__":=
 .of (owner:="set_iterator") (n:="__next__") (by rw[typeLookup_type,builtinLookup_eq_fast];kernel_rfl) (by decide+kernel) (by decide+kernel) (by decide+kernel) (.inl (by decide+kernel)) (by rw[isSubtype_type];kernel_rfl)
theorem aF7:entryFor table "set_iterator.__next__"=some Builtin.«set_iterator.__next__» := entryFor_of_tree (by kernel_rfl)
theorem aQ7:Manifest.owners.lookup (String.ofList ['r', 'o', 't', 'a', 'r', 'e', 't', 'i', '_', 't', 'e', 's'].reverse)=some Manifest.sig_set_iterator:=by kernel_rfl
theorem aI2(a:Value):argsOk "set_iterator.__next__" ⟨[a],[]⟩:=by
 unfold argsOk;rw[signature?_of (id:="set_iterator.__next__") (n:=['_', '_', 't', 'x', 'e', 'n', '_', '_']) (o:=['r', 'o', 't', 'a', 'r', 'e', 't', 'i', '_', 't', 'e', 's']) (by kernel_rfl) aQ7]
 kernel_rfl
theorem aQ8:Slot "set_iterator" "__iter__" "set_iterator.__iter__":=
 .of (owner:="set_iterator") (n:="__iter__") (by rw[typeLookup_type,builtinLookup_eq_fast];kernel_rfl) (by decide+kernel) (by decide+kernel) (by decide+kernel) (.inl (by decide+kernel)) (by rw[isSubtype_type];kernel_rfl)
theorem aWp:entryFor table "set_iterator.__iter__"=some Builtin.«dict_keyiterator.__iter__» := entryFor_alias (id':="dict_keyiterator.__iter__") (by kernel_rfl) rfl (by decide+kernel) (by kernel_rfl)
theorem bAa(a:Value):argsOk "set_iterator.__iter__" ⟨[a],[]⟩:=by
 unfold argsOk;rw[signature?_of (id:="set_iterator.__iter__") (n:=['_', '_', 'r', 'e', 't', 'i', '_', '_']) (o:=['r', 'o', 't', 'a', 'r', 'e', 't', 'i', '_', 't', 'e', 's']) (by kernel_rfl) aQ7]
 kernel_rfl
theorem aSb:entryFor table "set.__iter__"=some Builtin.«frozenset.__iter__» := entryFor_alias (id':="frozenset.__iter__") (by kernel_rfl) rfl (by decide+kernel) (by kernel_rfl)
theorem bDm:typeLookup (.type "set") "__len__"=pure (some (.builtin "set.__len__")):=by rw[typeLookup_type,builtinLookup_eq_fast];kernel_rfl
def aK3(first:Value)(i:Nat)(a:Addr)(n ep:Nat):Obj:={cls:=.type "set_iterator",dict:=none,data:=.fields #[first,.int i 0,.ref a,.int n 0,.int ep 0],slots := #[]}
section
variable{prog:Program}{w:World}{A:Around}{E:Value->Shared->Prop}{s:Shared}
theorem bDn{es:Array (Int×Value)} {t:SetTable} {c':Nat} {v:Value} {Q:Option Value->Shared->Prop}
  (hI:s.heap.get? I=some (aK3 (.int c 0) i a es.size ep)) (x:SetIs b a ns es ep t s.heap)
  (nx:∀(A:Around)(E:Value->Shared->Prop) (Q:Option (Value×Nat)->Shared->Prop),Q (some (v,c')) s->wpAny (model prog w) A (setNext a c i ep) Q E s)
  (q:∀h',h'.get? I=some (aK3 (.int c' 0) (i+1) a es.size ep)->Heap.SameBut I s.heap h'->Q (some v) {s with heap:=h'}) :
  wpAny (model prog w) A (pyNext (.ref I)) Q E s:=by
 have hT:s.TypeIs (.ref I) "set_iterator":=⟨_,hI,rfl⟩;unfold pyNext;refine wpAny_bind (wpAny_attempt (wpAny_callSpecial?_slot (name:=Str.ofString "__next__") hT rB (wpAny_call_entry rB hT aF7 ?_ (aI2 _))));unfold Builtin.«set_iterator.__next__»;refine wpAny_bind (wpAny_pure ?_);refine wpAny_bind (wpAny_fieldsOf hI rfl ?_);dsimp only;refine wpAny_bind (wpAny_setEntries_of x.obj rfl x.fit ?_);rw[if_neg (by simp)]
 refine wpAny_bind (nx _ _ _ ?_);dsimp only;refine wpAny_bind (wpAny_setField hI rfl (by simp) ?_)
 have h1:(s.heap.update I (Obj.mapFields (·.setIfInBounds 0 (rawInt c')))).get? I=some (aK3 (.int c' 0) i a es.size ep):=by
  rw[Heap.get?_update_self _ hI (Obj.isFreed_of_fields (Obj.data_mapFields rfl _))];rfl
 refine wpAny_bind (wpAny_setField h1 rfl (by simp) ?_)
 refine wpAny_pure ⟨v,rfl,wpAny_pure (q _ ?_ ((Heap.SameBut.update ..).trans (Heap.SameBut.update ..)))⟩;rw[Heap.get?_update_self _ h1 (Obj.isFreed_of_fields (Obj.data_mapFields rfl _))];rfl
theorem aUq{R:Value->Shared->Prop}{Q:Fin->Shared->Prop}(hh:A.handled=none)(r:∀(h':Heap)(e:Addr),(∀b o,s.heap.get? b=some o->h'.get? b=some o)->(∃o,h'.get? e=some o/\o.cls=.type "StopIteration")->R (.ref e) {s with heap:=h'}) :
  wpAny (model prog w) A (newExc (.type "StopIteration") [] >>= λe=>raiseNew e) Q R s:=by
 refine wpAny_bind ?_
 simp only[newExc,newTuple];refine wpAny_bind (wpAny_newObj_type ?_ (by size_fits))
 refine wpAny_bind (m:=firstArgMember _ _) (wpAny_of_eq (a:=Value.none) (by first|rfl|(simp only[firstArgMember];rfl)) (wpAny_newObj_type ?_ (by size_fits)))
 simp only[raiseNew];refine wpAny_bind (wpAny_handled ?_);rw[hh];exact wpAny_bind (wpAny_pure (wpAny_throw (r _ _ (λb o ho=>Heap.get?_push_of_some _ (Heap.get?_push_of_some _ ho)) ⟨_,Heap.get?_push_size _ rfl,rfl⟩)))
theorem bH7{b:Bool} {es:Array (Int×Value)} {t:SetTable} {Q:Option Value->Shared->Prop} (hh:A.handled=none)
  (hI:s.heap.get? I=some (aK3 (.int c 0) i a es.size ep)) (x:SetIs b a ns es ep t s.heap)
  (nx:∀(A:Around)(E:Value->Shared->Prop) (Q:Option (Value×Nat)->Shared->Prop),Q none s->wpAny (model prog w) A (setNext a c i ep) Q E s)
  (q:∀h',(∀b o,b≠I->s.heap.get? b=some o->h'.get? b=some o)->Q none {s with heap:=h'}) :
  wpAny (model prog w) A (pyNext (.ref I)) Q E s:=by
 have hT:s.TypeIs (.ref I) "set_iterator":=⟨_,hI,rfl⟩;unfold pyNext;refine wpAny_bind (wpAny_attempt (wpAny_callSpecial?_slot (name:=Str.ofString "__next__") hT rB (wpAny_call_entry rB hT aF7 ?_ (aI2 _))));unfold Builtin.«set_iterator.__next__»;refine wpAny_bind (wpAny_pure ?_);refine wpAny_bind (wpAny_fieldsOf hI rfl ?_);dsimp only;refine wpAny_bind (wpAny_setEntries_of x.obj rfl x.fit ?_);rw[if_neg (by simp)]
 refine wpAny_bind (nx _ _ _ ?_);dsimp only;refine wpAny_bind (wpAny_setField hI rfl (by simp) ?_)
 refine aUq hh λh' e k o=>?_
 obtain⟨o,ho,hc⟩:=o;refine wpAny_bind (wpAny_isInstance (T:="StopIteration") (b:=true) ⟨o,ho,hc⟩ isSubtype_stop (wpAny_pure (q _ λb o' hb ho'=>k b o' ?_)))
 rw[Heap.get?_update_other _ _ (Ne.symm hb)];exact ho'
theorem aWq{es:Array (Int×Value)} {t:SetTable} (x:SetIs b a ns es ep t s.heap) (hb:xJ w=true) (c i:Nat) {Q:Option (Value×Nat)->Shared->Prop}
  (q:Q (((pickOrder (w.params.setOrder a ep) es)[i]?).map λe=>(e.2,c)) s):wpAny (model prog w) A (setNext a c i ep) Q E s:=by
 have hb':w.params.followText "set-order"=true:=hb;unfold setNext;refine wpAny_bind (wpAny_setState_of x.obj rfl x.fit ?_);dsimp only;unfold setsByText;refine wpAny_bind (wpAny_bind (wpAny_askSetting (wpAny_pure ?_)));refine wpAny_ite_split (λ_=>?_) λh=>absurd hb' h
 rw[if_neg (by simp)]
 refine wpAny_bind ?_
 unfold setWalk;refine wpAny_bind (wpAny_setState_of x.obj rfl x.fit ?_);dsimp only;unfold setsByText;refine wpAny_bind (wpAny_bind (wpAny_askSetting (wpAny_pure ?_)));refine wpAny_ite_split (λ_=>?_) λh=>absurd hb' h
 exact wpAny_bind (wpAny_askSetting (wpAny_pure (wpAny_pure q)))
def yP(t:SetTable):Nat->Nat
 |0=>0
 |i+1=>t.place.getD i 0+1
theorem below_at{t:SetTable}(ti:TI b t)(i:Nat)(hi:i<=t.place.size):SetTable.below t.place (yP t i)=i:=by
 obtain⟨h1,h2,h3⟩:=aK1 t.place (yP t i) ti.rise;generalize hm:SetTable.below t.place (yP t i)=m at h1 h2 h3;rcases Nat.lt_trichotomy m i with h|h|h
 .exfalso;have lt:i-1<t.place.size:=by omega
  have e:t.place[i-1]?=some t.place[i-1]:=Array.getElem?_eq_getElem lt;have:=h2 (i-1) _ (by omega) e
  have se:yP t i=t.place[i-1]+1:=by
   cases i with
   |zero=>omega
   |succ k=>
    show t.place.getD k 0+1=_;rw[getD_eq_getD_getElem?,Array.getElem?_eq_getElem (by omega)]
    rfl
  omega
 .exact h
 .exfalso;have lt:i<t.place.size:=by omega
  have e:t.place[i]?=some t.place[i]:=Array.getElem?_eq_getElem lt;have g:=h1 i _ h e;cases i with
  |zero=>exact absurd g (not_lt_zero _)
  |succ k=>
   have gk:t.place[k]?=some t.place[k]:=Array.getElem?_eq_getElem (by omega)
   have se:yP t (k+1)=t.place[k]+1:=by
    show t.place.getD k 0+1=_;rw[getD_eq_getD_getElem?,gk];rfl
   have r:=List.pairwise_iff_getElem.mp ti.rise k (k+1) (by simp;omega) (by simp;omega) (by omega)
   simp at r;omega
theorem bAb{es:Array (Int×Value)} {t:SetTable} (x:SetIs true a ns es ep t s.heap) (hb:xJ w=false) (hd:(!t.plain&&decide (es.size>1))=false) (i:Nat) (hi:i<=es.size) {Q:Option (Value×Nat)->Shared->Prop}
  (q:Q ((es[i]?).map λe=>(e.2,yP t (i+1))) s):wpAny (model prog w) A (setNext a (yP t i) i ep) Q E s:=by
 have hb':w.params.followText "set-order"=false:=hb;have sz:t.place.size=es.size:=by
  have:=x.fit;simp only[SetTable.fits,and_eq_true,beq_iff_eq]at this;exact this.1
 unfold setNext;refine wpAny_bind (wpAny_setState_of x.obj rfl x.fit ?_);dsimp only;unfold setsByText;refine wpAny_bind (wpAny_bind (wpAny_askSetting (wpAny_pure ?_)));refine wpAny_ite_split (λh=>absurd (hb'.symm.trans h) Bool.false_ne_true) λ_=>?_
 refine wpAny_ite_split (λh=>absurd (hd.symm.trans h) Bool.false_ne_true) λ_=>?_
 refine wpAny_bind (m:=(if (!t.led && !es.isEmpty)=true then unsupported "set:maker-not-led" else pure ())) ?_
 rw[if_neg (by rw[x.ti.led];exact Bool.false_ne_true)]
 refine wpAny_pure ?_
 rw[below_at x.ti i (by rw[sz];exact hi)]
 by_cases hlt:i<es.size
 .rw[Array.getElem?_eq_getElem hlt]at q;rw[Array.getElem?_eq_getElem hlt,Array.getElem?_eq_getElem (by rw[sz];exact hlt)]
  refine wpAny_pure ?_
  have:yP t (i+1)=t.place[i]+1:=by
   show t.place.getD i 0+1=_;rw[getD_eq_getD_getElem?,Array.getElem?_eq_getElem (by rw[sz];exact hlt)]
   rfl
  rw[this]at q;exact q
 .have hn:es[i]?=none:=Array.getElem?_eq_none (by omega)
  rw[hn]at q ⊢;exact wpAny_pure q
theorem bDo{T:Addr} {es:Array (Int×Value)} {t:SetTable} {ys:List Nat} {e:Int×Value} {y:Nat} {Q:Option Value->Shared->Prop}
  (hI:s.heap.get? I=some (aK3 (.ref T) i a es.size ep)) (x:SetIs b a ns es ep t s.heap) (hy:s.heap.get? T=some {cls:=.type "tuple",data:=.seq (ys.map λ(n:Nat)=>rawInt n).toArray})
  (hi:ys[i]?=some y) (he:es[y]?=some e)
  (q:∀h',h'.get? I=some (aK3 (.ref T) (i+1) a es.size ep)->Heap.SameBut I s.heap h'->Q (some e.2) {s with heap:=h'}) :
  wpAny (model prog w) A (pyNext (.ref I)) Q E s:=by
 have hT:s.TypeIs (.ref I) "set_iterator":=⟨_,hI,rfl⟩;unfold pyNext;refine wpAny_bind (wpAny_attempt (wpAny_callSpecial?_slot (name:=Str.ofString "__next__") hT rB (wpAny_call_entry rB hT aF7 ?_ (aI2 _))));unfold Builtin.«set_iterator.__next__»;refine wpAny_bind (wpAny_pure ?_);refine wpAny_bind (wpAny_fieldsOf hI rfl ?_);dsimp only;refine wpAny_bind (wpAny_setEntries_of x.obj rfl x.fit ?_);rw[if_neg (by simp)]
 refine wpAny_bind (wpAny_seqItems hy rfl ?_);dsimp only;have ei:((ys.map λ(n:Nat)=>rawInt n).toArray)[(i:Int).toNat]?=some (.int y 0):=by
  rw[toNat_natCast,List.getElem?_toArray,List.getElem?_map,hi];rfl
 rw[ei];dsimp only;unfold setNextDrawn;refine wpAny_bind (wpAny_bind (wpAny_setState_of x.obj rfl x.fit ?_));dsimp only;rw[if_neg (by simp),toNat_natCast,he]
 refine wpAny_pure ?_
 refine wpAny_bind (wpAny_setField hI rfl (by simp) ?_)
 refine wpAny_pure ⟨e.2,rfl,wpAny_pure (q _ ?_ (Heap.SameBut.update ..))⟩;rw[Heap.get?_update_self _ hI (Obj.isFreed_of_fields (Obj.data_mapFields rfl _))];rfl
theorem bH8{T:Addr}{b:Bool} {es:Array (Int×Value)} {t:SetTable} {ys:List Nat} {Q:Option Value->Shared->Prop} (hh:A.handled=none)
  (hI:s.heap.get? I=some (aK3 (.ref T) i a es.size ep)) (x:SetIs b a ns es ep t s.heap) (hy:s.heap.get? T=some {cls:=.type "tuple",data:=.seq (ys.map λ(n:Nat)=>rawInt n).toArray})
  (hi:ys[i]?=none)
  (q:∀h',(∀b o,b≠I->s.heap.get? b=some o->h'.get? b=some o)->Q none {s with heap:=h'}) :
  wpAny (model prog w) A (pyNext (.ref I)) Q E s:=by
 have hT:s.TypeIs (.ref I) "set_iterator":=⟨_,hI,rfl⟩;unfold pyNext;refine wpAny_bind (wpAny_attempt (wpAny_callSpecial?_slot (name:=Str.ofString "__next__") hT rB (wpAny_call_entry rB hT aF7 ?_ (aI2 _))));unfold Builtin.«set_iterator.__next__»;refine wpAny_bind (wpAny_pure ?_);refine wpAny_bind (wpAny_fieldsOf hI rfl ?_);dsimp only;refine wpAny_bind (wpAny_setEntries_of x.obj rfl x.fit ?_);rw[if_neg (by simp)]
 refine wpAny_bind (wpAny_seqItems hy rfl ?_);dsimp only;have ei:((ys.map λ(n:Nat)=>rawInt n).toArray)[(i:Int).toNat]?=none:=by
  rw[toNat_natCast,List.getElem?_toArray,List.getElem?_map,hi];rfl
 rw[ei];dsimp only;refine wpAny_bind (wpAny_setField hI rfl (by simp) ?_)
 have h1:(s.heap.update I (Obj.mapFields (·.setIfInBounds 0 (rawInt 0)))).get? I=some (aK3 (.int 0 0) i a es.size ep):=by
  rw[Heap.get?_update_self _ hI (Obj.isFreed_of_fields (Obj.data_mapFields rfl _))];rfl
 refine wpAny_bind (wpAny_setField h1 rfl (by simp) ?_)
 refine aUq hh λh' e k o=>?_
 obtain⟨o,ho,hc⟩:=o;refine wpAny_bind (wpAny_isInstance (T:="StopIteration") (b:=true) ⟨o,ho,hc⟩ isSubtype_stop (wpAny_pure (q _ λb o' hb ho'=>k b o' ?_)))
 rw[Heap.get?_update_other _ _ (Ne.symm hb),Heap.get?_update_other _ _ (Ne.symm hb)];exact ho'
end
section
variable{prog:Program}{w:World}{A:Around}{E:Value->Shared->Prop}{s:Shared}
theorem aUr{o:Obj} (hI:s.heap.get? I=some o) (hc:o.cls=.type "set_iterator") (q:Q (.ref I) s):wpAny (model prog w) A (pyIter (.ref I)) Q E s:=by
 have hT:s.TypeIs (.ref I) "set_iterator":=⟨o,hI,hc⟩;refine wpAny_pyIter_slot hT aQ8 (wpAny_call_entry aQ8 hT aWp (?_:wpAny _ _ (ret (.ref I)) _ _ s) (bAa _));exact wpAny_pure ⟨_,rfl,"set_iterator",_,hT,rB.lookup,q⟩
theorem aQ9(hh:A.handled=none) (ne:a≠I) {es:Array (Int×Value)} {t:SetTable} (c:Nat->Nat) (vs:List Value)
  (nx:∀(s:Shared)(i:Nat),i<=vs.length->SetIs b a ns es ep t s.heap->∀(A:Around)(E:Value->Shared->Prop) (Q:Option (Value×Nat)->Shared->Prop),Q ((vs[i]?).map λv=>(v,c (i+1))) s->wpAny (model prog w) A (setNext a (c i) i ep) Q E s) :
  Walks prog w A I [I,a] [I] vs.length (λi v=>vs[i]?=some v) (λi h=>h.get? I=some (aK3 (.int (c i) 0) i a es.size ep)/\SetIs b a ns es ep t h) where
 sub:=λb hb=>by rw[List.mem_singleton.mp hb];exact mem_cons_self
 frame:=λ_ _ _ st k=>⟨k I mem_cons_self _ st.1,st.2.keep λo ho=>k a (mem_cons_of_mem _ mem_cons_self) o ho⟩
 item:=λi s Q E hi st q=>by
  have e:vs[i]?=some vs[i]:=List.getElem?_eq_getElem hi;refine bDn (v:=vs[i]) (c':=c (i+1)) st.1 st.2 (λA E Q' h=>nx s i (Nat.le_of_lt hi) st.2 A E Q' (by rw[e];exact h)) λh' hI sb=>?_
  have k:∀b o,b≠I->s.heap.get? b=some o->h'.get? b=some o:=λb o hb ho=>by rw[sb.2 b hb];exact ho
  exact q _ h' s.toks e ⟨hI,st.2.keep λo ho=>k a o ne ho⟩ λb o hb ho=>k b o (λh=>hb (List.mem_singleton.mpr h)) ho
 done:=λs Q E st q=>
  bH7 hh st.1 st.2 (λA E Q' h=>nx s _ (Nat.le_refl _) st.2 A E Q' (by rw[List.getElem?_eq_none (Nat.le_refl _)];exact h)) λh' k=>q h' s.toks λb o hb ho=>k b o (λh=>hb (List.mem_singleton.mpr h)) ho
 self:=λ_ _ _ _ st q=>aUr st.1 rfl q
theorem bDp(hh:A.handled=none){T:Addr}(ne:a≠I)(nT:T≠I) {es:Array (Int×Value)} {t:SetTable} (ys:List Nat) (lt:∀y∈ys,y<es.size) :
  Walks prog w A I [I,a,T] [I] (ys.map λy=>(es.getD y (0,.none)).2).length (λi v=>(ys.map λy=>(es.getD y (0,.none)).2)[i]?=some v)
   (λi h=>h.get? I=some (aK3 (.ref T) i a es.size ep)/\SetIs b a ns es ep t h/\h.get? T=some {cls:=.type "tuple",data:=.seq (ys.map λ(n:Nat)=>rawInt n).toArray}) where
 sub:=λb hb=>by rw[List.mem_singleton.mp hb];exact mem_cons_self
 frame:=λ_ _ _ st k=>⟨k I mem_cons_self _ st.1,st.2.1.keep λo ho=>k a (mem_cons_of_mem _ mem_cons_self) o ho,k T (mem_cons_of_mem _ (mem_cons_of_mem _ mem_cons_self)) _ st.2.2⟩
 item:=λi s Q E hi st q=>by
  rw[length_map]at hi;have e:ys[i]?=some ys[i]:=List.getElem?_eq_getElem hi;have l:=lt _ (List.getElem_mem hi);have eg:es[ys[i]]?=some es[ys[i]]:=Array.getElem?_eq_getElem l;refine bDo (e:=es[ys[i]]) st.1 st.2.1 st.2.2 e eg λh' hI sb=>?_
  have k:∀b o,b≠I->s.heap.get? b=some o->h'.get? b=some o:=λb o hb ho=>by rw[sb.2 b hb];exact ho
  refine q _ h' s.toks ?_ ⟨hI,st.2.1.keep λo ho=>k a o ne ho,k T _ nT st.2.2⟩ λb o hb ho=>k b o (λh=>hb (List.mem_singleton.mpr h)) ho
  rw[List.getElem?_map,e];simp[getD_eq_getD_getElem?,eg]
 done:=λs Q E st q=>by
  rw[length_map]at st;exact bH8 hh st.1 st.2.1 st.2.2 (List.getElem?_eq_none (Nat.le_refl _)) λh' k=>q h' s.toks λb o hb ho=>k b o (λh=>hb (List.mem_singleton.mpr h)) ho
 self:=λ_ _ _ _ st q=>aUr st.1 rfl q
def Nums(vs:List Value)(ns:List Int):Prop:=(vs.map numOf).Perm ns/\∀v∈vs,∃n t,v=.int n t
theorem SetIs.nums_of{es:Array (Int×Value)} {t:SetTable} (x:SetIs b a ns es ep t h) {l:List (Int×Value)} (p:l.Perm es.toList):Nums (l.map (·.2)) ns:=by
 refine⟨?_,λv hv=>?_⟩
 .rw[List.map_map];exact(p.map λe=>numOf e.2).trans x.perm
 .obtain⟨e,he,rfl⟩:=List.mem_map.mp hv;obtain⟨n,tk,rfl⟩:=x.nums e (p.mem_iff.mp he);exact⟨n,tk,rfl⟩
theorem bDq(hh:A.handled=none) (x:jG (!xJ w) a ns s.heap) (few:ns.length<scanBound)
  (q:∀(I:Addr)(h':Heap)(d:_)(vs:List Value)(fp:List Addr)(St:Nat->Heap->Prop),Nums vs ns->(∀b o,s.heap.get? b=some o->h'.get? b=some o)->s.heap.objs.size<=I->(∀f∈fp,f=a\/s.heap.objs.size<=f)->
   Walks prog w A I fp [I] vs.length (λi v=>vs[i]?=some v) St->St 0 h'->Q (.ref I) {s with heap:=h',drawn:=d}) :
  wpAny (model prog w) A (pyIter (.ref a)) Q E s:=by
 obtain⟨es,ep,t,x⟩:=x;have hT:s.TypeIs (.ref a) "set":=⟨_,x.obj,rfl⟩;have la:a<s.heap.objs.size:=Heap.lt_size x.obj;refine wpAny_pyIter_slot hT F.slot_set_iter (wpAny_call_entry F.slot_set_iter hT aSb ?_ (F.args_set_iter_1 _));unfold Builtin.«frozenset.__iter__» Builtin.Frozenset.slot0;refine wpAny_bind (wpAny_bind (wpAny_pure (?_:wpAny _ _ (pure a) _ _ s)));refine wpAny_pure ?_
 unfold Builtin.Frozenset.sizeOf;refine wpAny_bind (wpAny_bind (wpAny_setEntries_of x.obj rfl x.fit (wpAny_pure ?_)));unfold setDrawn;refine wpAny_bind (wpAny_bind (wpAny_setState_of x.obj rfl x.fit ?_));dsimp only;unfold setsByText;refine wpAny_bind (wpAny_bind (wpAny_askSetting (wpAny_pure (wpAny_pure ?_))));have fin:∀(s':Shared)(first:Value),SetIs (!xJ w) a ns es ep t s'.heap->Q (.ref s'.heap.objs.size) {s' with heap:=s'.heap.push (aK3 first 0 a es.size ep)}->wpAny (model prog w) A.in1 (setEpoch a >>= λe=>newFields "set_iterator" [first,rawInt 0,.ref a,rawInt es.size,rawInt e] >>= λr=>ret r)
   (λfin s'=>∃r,fin=.done (.ret r)/\∃T' r',s'.TypeIs r T'/\typeLookup (.type T') "__next__"=pure (some r')/\Q r s') E s':=λs' first y q'=>by
  refine wpAny_bind (wpAny_setEpoch_of y.obj rfl y.fit ?_);unfold newFields;refine wpAny_bind (wpAny_newObj_type (wpAny_pure ⟨_,rfl,"set_iterator",_,⟨_,Heap.get?_push_size _ rfl,rfl⟩,rB.lookup,?_⟩));exact q'
 by_cases hd:(!xJ w&&(!t.plain&&decide (es.size>1)))=true
 .refine wpAny_ite_split (λ_=>?_) λh=>absurd hd h
  refine wpAny_bind (bDl es.size (List.range es.size) s _ length_range λys d py=>?_)
  have lt:∀y∈ys,y<es.size:=λy hy=>List.mem_range.mp (py.mem_iff.mp hy)
  have sz:ys.length<=sizeLine:=fits_of_scanBound (by rw[py.length_eq,length_range,x.size];exact few)
  simp only[newTuple];refine wpAny_bind (wpAny_newObj_type ?_ (by show (List.map _ ys).toArray.size<=sizeLine;rw[List.size_toArray,length_map];exact sz))
  refine fin _ _ (x.keep λo ho=>Heap.get?_push_of_some _ ho) ?_
  refine q _ _ d (ys.map λy=>(es.getD y (0,.none)).2) _ _ ?_ (λb o ho=>Heap.get?_push_of_some _ (Heap.get?_push_of_some _ ho)) ?_ (λf hf=>?_)
   (bDp hh (T:=s.heap.objs.size) ?_ ?_ ys lt) ⟨Heap.get?_push_size _ rfl,x.keep λo ho=>Heap.get?_push_of_some _ (Heap.get?_push_of_some _ ho),Heap.get?_push_of_some _ (Heap.get?_push_size _ rfl)⟩
  .have e:(ys.map λy=>(es.getD y (0,.none)).2)=(ys.map λy=>es.getD y (0,.none)).map (·.2):=by rw[List.map_map];rfl
   rw[e];refine x.nums_of ((py.map _).trans (List.Perm.of_eq ?_));refine List.ext_getElem? λi=>?_
   by_cases hi:i<es.size
   .simp[List.getElem?_map,List.getElem?_range hi,getD_eq_getD_getElem?,hi]
   .simp[hi]
  .rw[Heap.size_push];exact le_succ _
  .rcases List.mem_cons.mp hf with h|h
   .exact .inr (by rw[h,Heap.size_push];exact le_succ _)
   .rcases List.mem_cons.mp h with h|h
    .exact .inl h
    .exact .inr (Nat.le_of_eq (List.mem_singleton.mp h).symm)
  .rw[Heap.size_push];exact Nat.ne_of_lt (Nat.lt_succ_of_lt la)
  .rw[Heap.size_push];exact Nat.ne_of_lt (Nat.lt_succ_self _)
 .refine wpAny_ite_split (λh=>absurd h hd) λ_=>wpAny_bind (wpAny_pure ?_)
  refine fin s (.int 0 0) x ?_
  by_cases hb:xJ w=true
  .refine q s.heap.objs.size _ s.drawn ((pickOrder (w.params.setOrder a ep) es).toList.map (·.2)) _ _ (x.nums_of (aK2 _ es)) (λb o ho=>Heap.get?_push_of_some _ ho) (Nat.le_refl _) (λf hf=>?_)
    (aQ9 hh (Nat.ne_of_lt la) (λ_=>0) _ λs i hi y A E Q' h=>aWq y hb 0 i ?_) ⟨Heap.get?_push_size _ rfl,x.keep λo ho=>Heap.get?_push_of_some _ ho⟩
   .rcases List.mem_cons.mp hf with h|h
    .exact .inr (Nat.le_of_eq h.symm)
    .exact .inl (List.mem_singleton.mp h)
   .rw[List.getElem?_map,Option.map_map,getElem?_toList]at h;exact h
  .have hb0:xJ w=false:=by revert hb;cases xJ w<;>intro h<;>first|rfl|exact absurd rfl h
   have hd0:(!t.plain&&decide (es.size>1))=false:=by
    rw[hb0]at hd;revert hd;cases (!t.plain&&decide (es.size>1)) <;> intro h<;>first|rfl|exact absurd rfl h
   have x':SetIs true a ns es ep t s.heap:=by rw[hb0]at x;exact x
   refine q s.heap.objs.size _ s.drawn (es.toList.map (·.2)) _ _ (x.nums_of (List.Perm.refl _)) (λb o ho=>Heap.get?_push_of_some _ ho) (Nat.le_refl _) (λf hf=>?_)
    (aQ9 hh (b:=true) (t:=t) (ns:=ns) (Nat.ne_of_lt la) (yP t) _ λs i hi y A E Q' h=>bAb y hb0 hd0 i (by simpa using hi) ?_) ⟨Heap.get?_push_size _ rfl,x'.keep λo ho=>Heap.get?_push_of_some _ ho⟩
   .rcases List.mem_cons.mp hf with h|h
    .exact .inr (Nat.le_of_eq h.symm)
    .exact .inl (List.mem_singleton.mp h)
   .rw[List.getElem?_map,Option.map_map,getElem?_toList]at h;exact h
end
section
variable {A:Around}
theorem bAc{r:Addr}{Q:Bool->Shared->Prop}(hT:s.TypeIs (.ref r) "set")(q:Q false s):wpAny (model prog w) A (Builtin.List.listLengthHint (.ref r)) Q E s:=by
 unfold Builtin.List.listLengthHint;refine wpAny_bind (wpAny_specialOf hT bDm ?_);generalize hid:("set.__len__":String)=id0
 wp_delta
 rw[show splitId id0=some ("set","__len__") from by subst hid;decide+kernel]
 subst hid;refine wpAny_bind (wpAny_isInstance (T:="set") (b:=true) hT sub_set_self ?_);refine wpAny_ite_split (λh=>absurd h (by decide)) λ_=>wpAny_ite_split (λ_=>?_) λh=>absurd (by decide+kernel) h
 exact wpAny_bind (wpAny_typeOf hT (wpAny_pure q))
theorem jG.typeIs(x:jG b a ns s.heap):s.TypeIs (.ref a) "set":=let ⟨_,_,_,y⟩:=x;⟨_,y.obj,rfl⟩
theorem Nums.len{vs:List Value} (h:Nums vs ns):vs.length=ns.length:=by
 have:=h.1.length_eq;simpa using this
theorem bH9{S:Addr} {res:Value} {R:Result->Shared->Prop} (hh:A.handled=none) (x:jG (!xJ w) a ns s.heap) (few:ns.length<scanBound) (hS:s.heap.get? S=some {cls:=.type "list",data:=.seq #[] 0}) (ne:S≠a)
  (r:∀(h':Heap)(d:_)(tk:Nat)(vs:List Value)(c:Nat),Nums vs ns->(∀b o,b≠S->s.heap.get? b=some o->h'.get? b=some o)->h'.get? S=some {cls:=.type "list",dict:=none,data:=.seq vs.toArray c,slots := #[]}->R (.ok (.ret res)) {s with heap:=h',drawn:=d,toks:=tk}) :
  wpAny (model prog w) A.in1 (Builtin.List.listExtendWith (.ref S) (.ref a) res) (λfin s'=>match fin with|.done f=>R (.ok f) s'|.again c'=>c'.quiet=true/\codeAny (model prog w) A c' R s') (λe s'=>R (.error e) s') s:=by
 unfold Builtin.List.listExtendWith;refine wpAny_bind (wpAny_typeOf (T:="set") x.typeIs ?_);rw[if_neg (by simp[Builtin.List.listSameRef,ne])]
 refine wpAny_bind (bDq (A:=A.in1) hh x few λI h' d vs fp St nv k lI lf W st=>?_)
 refine wpAny_bind (wpAny_holding (bAc (jG.typeIs (s:={s with heap:=h',drawn:=d}) (x.keep λo ho=>k a o ho)) ?_))
 have lS:S<s.heap.objs.size:=Heap.lt_size hS;have nS:S∉fp:=λh=>by
  rcases lf S h with e|e
  .exact ne e
  .exact absurd lS (Nat.not_lt.mpr e)
 have go:∀(h1:Heap)(c₁:Nat),St 0 h1->(∀b o,b≠S->s.heap.get? b=some o->h1.get? b=some o)->h1.get? S=some {cls:=.type "list",data:=.seq #[] c₁}->
   codeAny (model prog w) A (.builtin "list.extend.loop" ⟨[.ref S,.ref I,res],[]⟩) R {s with heap:=h1,drawn:=d}:=λh1 c₁ st1 k1 hS1=>by
  refine codeAny_extend_loopS W.toS (fits_of_scanBound (by rw[nv.len];exact few)) S nS res vs.length 0 _ #[] c₁ rfl (zero_le _) st1 hS1 (ItemsOf.nil _) λs' acc c' mv hS' it=>?_
  have ev:acc=vs.toArray:=by
   apply ext';refine List.ext_getElem? λi=>?_
   rw[getElem?_toList,List.toList_toArray];cases ha:acc[i]? with
   |some v=>exact(it.2 i v ha).symm
   |none=>exact(List.getElem?_eq_none (by rw[<-it.1];exact Array.getElem?_eq_none_iff.mp ha)).symm
  subst ev;rw[Moved.eq_with mv];refine r s'.heap d s'.toks vs c' nv (λb o hb ho=>mv.heap b o (λhm=>?_) (k1 b o hb ho)) hS'
  rcases List.mem_cons.mp hm with h|h
  .exact hb h
  .exact absurd (Heap.lt_size ho) (by rw[List.mem_singleton.mp h];exact Nat.not_lt.mpr lI)
 refine wpAny_ite_split (λ_=>?_) λ_=>wpAny_pure ⟨plainId_quiet PySem.F.plain_extend_loop _,go h' 0 st (λb o _ ho=>k b o ho) (k S _ hS)⟩
 refine wpAny_bind (wpAny_rule (wpAny_bind (?_:wpAny _ _ (updateSeq S (·.push .none) >>= λ_=>updateSeq S (·.pop)) _ _ _)))
 have o1:=k S _ hS;have o2:=Heap.get?_update_self (Obj.mapSeq (·.push Value.none)) o1 rfl;have o3:=Heap.get?_update_self (Obj.mapSeq (·.pop)) o2 rfl;have oth:∀b o,b≠S->h'.get? b=some o->((h'.update S (Obj.mapSeq (·.push Value.none))).update S (Obj.mapSeq (·.pop))).get? b=some o:=λb o hb ho=>by
  rw[Heap.get?_update_other _ _ (Ne.symm hb),Heap.get?_update_other _ _ (Ne.symm hb)];exact ho
 refine wpAny_bind (wpAny_updateSeq o1 rfl (wpAny_updateSeq (hz:=by seq_fits) o2 rfl ?_))
 exact wpAny_pure ⟨plainId_quiet PySem.F.plain_extend_loop _,go _ _ (W.frame 0 _ _ st λb hb o ho=>oth b o (λe=>nS (e ▸ hb)) ho) (λb o hb ho=>oth b o hb (k b o ho)) o3⟩
theorem bDr{R:List Value->Shared->Prop}(hh:A.handled=none)(x:jG (!xJ w) a ns s.heap)(few:ns.length<scanBound)
  (r:∀(h':Heap)(d:_)(tk:Nat)(vs:List Value),Nums vs ns->(∀b o,s.heap.get? b=some o->h'.get? b=some o)->R vs {s with heap:=h',drawn:=d,toks:=tk}) :
  wpAny (model prog w) A (collect (.ref a)) R E s:=by
 unfold collect;refine wpAny_bind (wpAny_runValue (codeAny_builtin entry_proto_collect' ?_));rw[Around.under_plainId PySem.F.plain_proto_collect _];refine(?_:wpAny _ A.in1 (newList [] >>= λl=>again (.builtin "list.__iadd__" ⟨[l,.ref a],[]⟩)) _ _ s)
 refine wpAny_bind (wpAny_newObj_type (wpAny_pure ⟨plainId_quiet PySem.F.plain_list_iadd _,codeAny_builtin entry_list_iadd' ?_⟩));rw[Around.under_plainId PySem.F.plain_list_iadd _];have la:a<s.heap.objs.size:=let ⟨_,_,_,y⟩:=x;Heap.lt_size y.obj;have hS:(s.heap.push {cls:=.type "list",data:=.seq ([]:List Value).toArray}).get? s.heap.objs.size=some {cls:=.type "list",data:=.seq #[] 0}:=Heap.get?_push_size _ rfl;have key:=bH9 (A:=A) (s:={s with heap:=s.heap.push {cls:=.type "list",data:=.seq ([]:List Value).toArray} }) (res:=.ref s.heap.objs.size) (prog:=prog)
  (R:=λ(q:Result)(s':Shared)=>q=.ok (.ret (.ref s.heap.objs.size))/\∃(h':Heap)(d:_)(tk:Nat)(vs:List Value)(c:Nat),s'={s with heap:=h',drawn:=d,toks:=tk}/\Nums vs ns/\(∀b o,s.heap.get? b=some o->h'.get? b=some o)/\h'.get? s.heap.objs.size=some {cls:=.type "list",dict:=none,data:=.seq vs.toArray c,slots := #[]})
  hh (x.keep λo ho=>Heap.get?_push_of_some _ ho) few hS (Nat.ne_of_gt la)
  λh' d tk vs c nv k o=>⟨rfl,h',d,tk,vs,c,rfl,nv,λb o' ho=>k b o' (Nat.ne_of_lt (Heap.lt_size ho)) (Heap.get?_push_of_some _ ho),o⟩
 have last:∀(h':Heap)(d:_)(tk:Nat)(vs:List Value)(c:Nat),Nums vs ns->(∀b o,s.heap.get? b=some o->h'.get? b=some o)->h'.get? s.heap.objs.size=some {cls:=.type "list",dict:=none,data:=.seq vs.toArray c,slots := #[]}->
   wpAny (model prog w) A (load s.heap.objs.size >>= λo=>match o.data with|.seq xs _=>pure xs.toList|_=>unsupported "internal:collect") R E {s with heap:=h',drawn:=d,toks:=tk}:=λh' d tk vs c nv k o=>by
  refine wpAny_bind (wpAny_load o ?_);exact wpAny_pure (r h' d tk vs nv k)
 refine wpAny_mono key (λfin s' y=>?_) λe s' y=>nomatch y.1
 cases fin with
 |done f=>
  obtain⟨e,h',d,tk,vs,c,rfl,nv,k,o⟩:=y;cases e;exact last h' d tk vs c nv k o
 |again c₁=>
  refine⟨y.1,codeAny_mono y.2 λq s₂ z=>?_⟩
  obtain⟨rfl,h',d,tk,vs,c,rfl,nv,k,o⟩:=z;exact last h' d tk vs c nv k o
theorem ints_of:∀{vs:List Value},(∀v∈vs,∃n t,v=Value.int n t)->IntsAre vs (vs.map Pu.numOf)
 |[],_=>IntsAre.nil
 |v::vs,h=>by
  obtain⟨n,t,rfl⟩:=h v mem_cons_self;exact IntsAre.cons _ _ (ints_of λv hv=>h v (mem_cons_of_mem _ hv))
theorem aWr(hh:A.handled=none)(x:jG (!xJ w) a ns s.heap)(few:ns.length<64)
  (q:∀(D:Addr)(h':Heap)(d:_)(tk:Nat)(out:Array Value)(ns':List Int)(c:Nat),IntsAre out.toList ns'->ns'.Perm ns->ns'.Pairwise (· <= ·)->(∀b o,s.heap.get? b=some o->h'.get? b=some o)->(∀b o,s.heap.get? b=some o->b<D)->h'.get? D=some (seqObj "list" out c)->Q (.ref D) {s with heap:=h',drawn:=d,toks:=tk}) :
  wpAny (model prog w) A (call (.builtin "sorted") [.ref a]) Q E s:=by
 refine Calls.call_function_entry kind_sorted plain_sorted entry_sorted (args_sorted1 _) ?_
 unfold Builtin.«sorted»;have fb:ns.length<scanBound:=by unfold scanBound;omega
 refine wpAny_bind (m:=checkCount "sorted" 1 1 _) (wpAny_pure (wpAny_bind (bDr (A:=A.in1) hh x fb λh' d tk vs nv k=>?_)))
 have l64:vs.length<64:=by rw[nv.len];exact few
 refine wpAny_bind (wpAny_newList ?_ (by rw[sizeLine_eq];omega))
 have o:(h'.push (seqObj "list" vs.toArray 0)).get? h'.objs.size=some (seqObj "list" vs.toArray 0):=Heap.get?_push_size _ rfl;refine wpAny_bind (wpAny_holding (wpAny_call_entry slot_list_sort ⟨_,o,rfl⟩ entry_list_sort (list_sort_tree o (ints_of nv.2) l64 λout ns' e1 e2 e3=>⟨_,rfl,?_⟩) (args_list_sort _)))
 obtain⟨c,oc⟩:=sortedHeap_at (out:=out) o;refine wpAny_pure ⟨_,rfl,q _ _ d tk out ns' c e1 (e2.trans nv.1) e3 (λb ob hb=>?_) (λb ob hb=>Heap.lt_size (k b ob hb)) oc⟩
 have l:=Heap.lt_size (k b ob hb);rw[sortedHeap_old (Nat.ne_of_lt l) (by rw[Heap.size_push];exact Nat.lt_succ_of_lt l)]
 exact Heap.get?_push_of_some _ (k b ob hb)
end
end Pu
namespace Pu
open PySem PySem.Spec PyProof.Rows L2
theorem aM3(ns:List Int):∀k,k<=ns.length->aNq (λi=>ns.getD i 0) k=aAk (ns.take k)
 |0,_=>rfl
 |k+1,h=>by
  have e:ns.take (k+1)=ns.take k++[ns.getD k 0]:=by
   rw[List.take_add_one,getD_eq_getElem?_getD,List.getElem?_eq_getElem (show k<ns.length by omega)]
   rfl
  rw[e];show aNo (aNq _ k) _=_;rw[aM3 ns k (by omega)]
  unfold aAk;rw[List.foldl_append];rfl
theorem bHa{l m:List Int}(h:m.Perm l)(hw:m.Pairwise (· <= ·)):m=aHh l:=List.Perm.eq_of_pairwise (le:=(· <= ·)) (λa b _ _ h1 h2=>Int.le_antisymm h1 h2) hw (aXy l) (h.trans (aAl l).symm)
theorem aQa:∀{us:List Value}{ns:List Int},IntsAre us ns->Vals (ns.map V.int) us
 |_,_,.nil=>.nil
 |_,_,.cons n t h=>.cons ⟨t,rfl⟩ (aQa h)
theorem bAd{o:HO}(x:mG P w H h a o):∃u,h.get? a=some u:=by
 cases o with
 |lst xs=>obtain⟨_,_,_,_,e⟩:=x;exact⟨_,e⟩
 |tup xs=>obtain⟨_,_,_,o,e,_⟩:=x;exact⟨_,e⟩
 |dK kvs=>obtain⟨_,_,_,_,o,_,_,e,_⟩:=x;exact⟨_,e⟩
 |dT kvs=>obtain⟨_,_,_,_,o,_,_,e,_⟩:=x;exact⟨_,e⟩
 |set S n=>obtain⟨o,_,_,_,e,_⟩:=x;exact⟨_,e⟩
 |ins C dx fs=>obtain⟨_,_,_,e,_⟩:=x;exact⟨_,e⟩
 |own y=>obtain⟨_,e⟩:=x;exact⟨_,e⟩
 |xd fs=>obtain⟨_,⟨_,_,_,e,_⟩,_⟩:=x;exact⟨_,e⟩
 |rng lo hi=>obtain⟨_,_,_,e⟩:=x;exact⟨_,e⟩
 |frz ob u=>obtain⟨e,_⟩:=x;exact⟨_,e⟩
 |tbl ps=>exact⟨_,(show h.get? a=some _ from x)⟩
 |met f y=>exact⟨_,(show h.get? a=some _ from x)⟩
 |ext φ=>obtain⟨_,⟨_,e⟩,_⟩:=x;exact⟨_,e⟩
section
variable {a:Expr}
theorem aWs(hc:X.calm=true):oM X (.type "set") (λxs H Q=>∃p ns,xs=[.ref p]/\SqL X.K H p (ns.map V.int)/\ns.length<=4000/\∀l,H l=none->Q (.ref l) (upd H l (.ext (jG (!xJ X.w) l (aAk ns))))):=by
 intro pins s σ H xs us Q I r h;obtain⟨p,ns,rfl,hq,hl,q⟩:=h;obtain⟨u,rfl,rx⟩:=vals1 r;cases rx;obtain⟨its,r',pl,hz⟩:=I.list hq;have hlen:=r'.length;rw[length_map]at hlen;refine bDk (ns:=ns) (I.ok.hd hc) pl.isList (by simpa using aPz r') (by rw[List.size_toArray,<-hlen];show ns.length+1<4096;omega) λh' tk hS hk=>?_
 rw[show its.toArray.size=ns.length by rw[List.size_toArray,hlen],aM3 ns _ (Nat.le_refl _),List.take_length]at hS
 obtain⟨es,ep,t,hIs⟩:=id hS;exact⟨.ref s.heap.objs.size,_,I.laid (t':=tk) (o:=.ext (jG (!xJ X.w) s.heap.objs.size (aAk ns))) hk (Nat.le_refl _) ⟨hS,⟨_,hIs.obj⟩,λh1 h2 x k=>x.keep k⟩,rfl,q _ (I.hok.fresh (Nat.le_refl _))⟩
theorem aWt(hc:X.calm=true):oM X (.builtin "sorted") (λxs H Q=>∃p ns,xs=[.ref p]/\H p=some (.ext (jG (!xJ X.w) p ns))/\ns.length<64/\∀l,H l=none->Q (.ref l) (upd H l (.lst ((aHh ns).map V.int)))):=by
 intro pins s σ H xs us Q I r h;obtain⟨p,ns,rfl,hq,hn,q⟩:=h;obtain⟨u,rfl,rx⟩:=vals1 r;cases rx;obtain⟨hS,_,_⟩:=I.hok _ _ hq;refine aWr (I.ok.hd hc) hS hn λD h' d tk out ns' c ho hp hw hk hD hd=>?_
 obtain rfl:=bHa hp hw;have hDn:H D=none:=by
  cases hH:H D with
  |none=>rfl
  |some o=>
   obtain⟨u,e⟩:=bAd (I.hok D o hH);exact absurd (hD D u e) (Nat.lt_irrefl _)
 have sm:bL H (upd H D (.lst ((aHh ns).map V.int))):=cH hDn;have hl:(aHh ns).length=ns.length:=(aAl ns).length_eq;refine⟨.ref D,upd H D (.lst ((aHh ns).map V.int)),I.step (g':=s.gens) (d':=d) (t':=tk) (ch:=[]) (λ_ z=>nomatch z) (λb o _ _ _ e _=>hk b o e) (λb o _ _ _ e _=>⟨o.slots,hk b o e⟩) (λb o _ e n=>by rw[bQ (Nat.ne_of_lt (hD b o e))];exact n) (λb o _ e=>⟨o,hk b o e⟩) (λb xs e=>sm _ _ e) (λb o u e=>sm _ _ e) (λb ps e=>⟨#[],by rw[sm _ _ e];simp⟩) (λm ⟨o,es,ep,ho,r⟩=>⟨o,es,ep,hk _ o ho,r⟩) (λb o e=>?_) I.bare,rfl,q _ hDn⟩
 by_cases hb:b=D
 .subst hb;rw[cD]at e;cases e;exact⟨by rw[length_map,hl,sizeLine_eq];omega,out.toList,c,aQa ho,by simpa using hd⟩
 .rw[bQ hb]at e;exact(I.hok b _ e).stay (λb v _ q=>hk b v q) (λb q=>sm _ _ q) λb xs q=>sm _ _ q
theorem aQb{K:Frag}{H:Hp}:∀(l:List Int),bM K H (l.map D.int) (l.map V.int)
 |[]=>.nil
 |_::l=>.cons (bT.mpr rfl) (aQb l)
theorem bAe(hm:X.mg "sorted"=none)(hm2:X.mg "set"=none)(hc:X.calm=true)(ha:PE X a (tP X.K B f))(hg:Gl X "sorted":=by rfl)(hg2:Gl X "set":=by rfl)(hs:starEach [.Call (.Name "set" p1) [a] [] p2] X.env=(false,eval (.Call (.Name "set" p1) [a] [] p2) X.env)::starEach [] X.env:=by rfl)
  (hs2:starEach [a] X.env=(false,eval a X.env)::starEach [] X.env:=by rfl):PE X (.Call (.Name "sorted" p0) [.Call (.Name "set" p1) [a] [] p2] [] pos) (tI X.K B (e1 aMp f)):=by
 refine cX (tZ (aWt hc) hg hm PyProof.Rows.boot_sorted (dJ (aBx (aWs hc) hg2 hm2 PyProof.Rows.boot_set (dJ ha jO hs2) (he:=hs2)) jO hs) (he:=hs)) ?_
 rintro σ H Q ⟨A,st,d,rs,hd,q⟩;obtain⟨x,hx,h2⟩:=R.ok_of hd;cases x<;>first|(cases h2;done)|skip
 rename_i xs;obtain⟨l,hl,h3⟩:=R.ok_of h2;obtain⟨c,h4⟩:=aW h3;cases h4;refine⟨A,st,_,rs,hx,λv H1 s1 r1=>?_⟩
 obtain⟨p,vs,e,h6,r6⟩:=r1.lst;rw[aE6 hl]at r6;rw[aLz r6]at h6;exact⟨p,l,by rw[e],h6,c.1,λn hn=>⟨n,_,rfl,cD,c.2,λm hm'=>q _ _ (s1.trans ((cH hn).trans (cH hm'))) (jM (rs.own.mono (s1.trans (cH hn))) hm' (aQb _))⟩⟩
end
section
variable {iter c:Expr} {t:Tg} {u:Ex}
theorem bAf(is:List Nat)(hsub:aJu is t)(S:CScope X scope is)(hi:L2.PI X tg iter (tIt X.K B it))(hg:∀(B:List Addr)(C:Addr)(s₀:Shared)(H₀:Hp)(fp:List Addr),PG (cQ X scope C s₀ H₀ fp) tg (tG X.K B t))
  (ht:∀(B:List Addr)(C:Addr)(s₀:Shared)(H₀:Hp)(fp:List Addr),PT (cQ X scope C s₀ H₀ fp) c (tT X.K B u))
  (he:∀(B:List Addr)(C:Addr)(s₀:Shared)(H₀:Hp)(fp:List Addr),PE (cQ X scope C s₀ H₀ fp) elt (tI X.K B f)) (hc:X.calm=true) (hs:∀x,foldedSetIterable iter X.env x=pure x:=by intro _;rfl) :
  PE X (.ListComp elt [⟨tg,iter,[c],0⟩] scope pos) (tF X.K B (cY is t it u f)):=by
 intro pins s σ H Q I h;obtain⟨A,st,d,rs,hd,q⟩:=h;obtain⟨xs,hx,h2⟩:=R.ok_of hd;obtain⟨hl,h3⟩:=aW h2;obtain⟨ys,hy,h4⟩:=R.ok_of h3;cases h4;rw[eval_ListComp];refine xH (use:=none) (Qf:=EP X pins σ Q) (Q:=Q) (tt:=tTx X.K u) (te:=tIx X.K f) (rest:=λenv it p=>isTrue c env (eval c env) >>= λok=>if ok=true then (eval elt env >>= λx=>call (.builtin "list.append") [p,x] >>= λ_=>again (.compLoop (.ListComp elt [⟨tg,iter,[c],0⟩] scope pos) 0 it p env)) else again (.compLoop (.ListComp elt [⟨tg,iter,[c],0⟩] scope pos) 0 it p env)) S hc hi (λC s₀ H₀ fp=>aZo λB=>hg B C s₀ H₀ fp) (λ_ _ _=>uH)
  (λC s₀ H₀ fp it p s Q h=>bGs (Y:=cQ X scope C s₀ H₀ fp) h) (λC s₀ H₀ fp it p τ H s pins vs N Q I h q=>aZp (Y:=cQ X scope C s₀ H₀ fp) rfl (aZn λB=>he B C s₀ H₀ fp) (bGt λB=>ht B C s₀ H₀ fp) τ H s pins vs N Q I h (λ_ Q Q' m h=>aB9 Q Q' m h) q) hs I
  (aPn hsub (λτ H Q h=>h) rs hx hl hy λp vs H1 H' s1 hp s2 hv r=>?_) λC p H5 s5 m5 s3 H3 fp τ hC I3 hfp I5 hn5 q5=>⟨m5,hn5,λh' hs'=>⟨.ref p,H5,aHx I3 hfp hC I5 hs',rfl,q5⟩⟩
 obtain⟨G,g1,g2,g3,g4⟩:=bKy s1 hp s2 hv r;have:=q p vs G g1 g2 g4;rw[g3]at this;exact this
end
section
variable {x:Expr} {h:Ex}
theorem bHb{K:Frag} {t:Bool} {ks:List D} (rx:mK K A H (.dct t ks ds) v):∃a,v=.ref a/\IsD H a:=by
 rcases rx with h|⟨a,kk,o,ds',vs,e,e2,h,ko,r⟩
 .obtain⟨a,vs,e,q,r⟩:=yJ.mp h;rcases q with ⟨_,kvs,q1,_,_⟩|⟨_,kvs,q1,_,_⟩
  .exact⟨a,e,.inl ⟨kvs,.inl (bN _ _ _ _ q1)⟩⟩
  .exact⟨a,e,.inr ⟨kvs,.inl (bN _ _ _ _ q1)⟩⟩
 .cases kk<;>cases e;rcases ko with ⟨_,kvs,q1,_⟩|⟨_,kvs,q1,_⟩
  .subst q1;exact⟨a,e2,.inl ⟨kvs,.inl h⟩⟩
  .subst q1;exact⟨a,e2,.inr ⟨kvs,.inl h⟩⟩
theorem bDs{K:Frag} {k z r:D} {u y:V} (hv:v=.ref a) (rx:mK K A H d v) (ry:Rep K (hide A H) k u) (rz:Rep K (hide A H) z y) (hd:aIi d k z=.ok r):∃ov,aCj H a u ov/\Rep K (hide A H) r (ov.getD y):=by
 unfold aIi at hd;split at hd
 .obtain⟨hk,h2⟩:=aW hd;obtain⟨a',ov,e3,g,hs,g2⟩:=aHw rx (ry.mono (bN _ _)) hk;rw[hv]at e3;cases e3;refine⟨ov,g,?_⟩;split at h2
  .obtain⟨w,rfl,rw'⟩:=g2 r (yL h2);exact rw'
  .rename_i hn;cases h2;have:ov=none:=by
    cases ov with
    |none=>rfl
    |some w=>exact absurd (hs.symm.trans rfl) hn
   rw[this];exact rz
 .cases hd
theorem bAg{k z r:D}(hd:aIi d k z=.ok r):∃t ks vs,d=.dct t ks vs:=by
 unfold aIi at hd;split at hd
 .exact⟨_,_,_,rfl⟩
 .cases hd
theorem bHc(hu:X.A.units+64<cLine)(ho:PE X o (tP X.K B f))(he:PE X e (tI X.K B g))(m1:attributeBase o "get" X.env (eval o X.env)=eval o X.env:=by rfl)
  (m2:((backTo cpos (starEach [e] X.env)).all (λx=>!x.1)&&(backToKw cpos (keywordEach [] X.env)).all (λx=>x.1.isSome)
   && decide (([e]:List Expr).length+([]:List Keyword).length+(if ([]:List Keyword).isEmpty then 0 else 1)<30))=true:=by rfl)
  (m3:(apos.endLine==cpos.line)=true:=by rfl) (m4:backTo cpos (starEach [e] X.env)=[(false,eval e X.env)]:=by rfl):PE X (.Call (.Attribute o "get" apos) [e] [] cpos) (tI X.K B (aXz f g (eC .non))):=by
 refine cX (aXl (by omega) ho he ⟨m1,m2,m3,m4⟩) ?_
 rintro σ H Q ⟨A,st,r,rs,hr,q⟩;obtain⟨d,hd,h2⟩:=R.ok_of hr;obtain⟨k,hk,h3⟩:=R.ok_of h2;have h4:aIi d k .non=.ok r:=h3;refine⟨A,st,d,rs,hd,λv H1 s1 rx=>?_⟩
 obtain⟨t,ks,vs,rfl⟩:=bAg h4;obtain⟨a,rfl,hD⟩:=bHb rx;refine⟨a,rfl,hD,A,st,k,rs.mono s1,hk,λu H2 s2 ry=>?_⟩
 obtain⟨ov,g1,g2⟩:=bDs rfl (rx.mono s2) ry (tQ.mpr rfl) h4;exact⟨ov,g1,q _ H2 (s1.trans s2) g2⟩
end
section
variable {a b:Expr}
theorem bHd(ha:PA X es (tA X.K B r))(hb:PE X b (tP X.K B g)):PE X (.BinOp (.List es p1) .Mult b pos) (tI X.K B (bE3 r g)):=by
 refine cX (bDv bFh (aQz ha) hb) ?_
 rintro σ H Q ⟨A,st,d,rs,hd,q⟩;obtain⟨xs,hx,h2⟩:=R.ok_of hd;obtain⟨y,hy,h3⟩:=R.ok_of h2;obtain⟨j,rfl,h4⟩:=aFt h3;obtain⟨⟨c0,c1,c2,c3⟩,h5⟩:=aW h4;cases h5;refine⟨A,st,xs,rs,hx,λvs H1 s1 r1=>⟨by rw[r1.length];exact lim c0,λp hp=>?_⟩⟩
 have s2:=s1.trans (cH (o:=.lst vs) hp);refine⟨A,st,_,rs.mono s2,hy,λv H2 s3 r2=>?_⟩
 refine⟨p,j,vs,rfl,r2.int,s3 _ _ cD,by omega,by omega,by rw[r1.length];exact lim c1,λn hn=>?_⟩
 refine q _ _ (s2.trans (s3.trans (cH hn))) (jM (rs.own.mono (s2.trans s3)) hn ?_);exact((r1.mono (bL.hide (cH hp))).mono (bL.hide s3)).rep j.toNat
end
structure Mk0(K:Frag)(C:Addr):Prop where
 makes:makesIn K C=true
 init:findIn K (.ref C) "__init__"=some (some (.builtin "object.__init__"))
 kp:keepIn K (.ref C)=true
section
variable {a b:Expr}
theorem aA2(hf:PE X e (tI X.K B f))(hg:PE X e (tI X.K B g)):PE X e (tI X.K B (pQ f g)):=by
 intro pins s σ H Q I h;obtain⟨A,st,d,rs,hd,q⟩:=h;rcases bFx hd with h|h
 .exact hf pins s σ H Q I ⟨A,st,d,rs,h,q⟩
 .exact hg pins s σ H Q I ⟨A,st,d,rs,h,q⟩
theorem aK4{c:String} (n:Mk0 X.K C) (hc:ClsAt X.K c C) (hm:X.mg (Str.ofString c)=some (.ref C)) (hg:Gl X (Str.ofString c):=by rfl) (hdb:(Str.ofString c==("__debug__":Str))=false:=by decide) :
  PE X (.Call (.Name (Str.ofString c) p0) [] [] pos) (tI X.K B (aL5 c)):=by
 intro pins s σ H Q I h;obtain⟨A,st,d,rs,hd,q⟩:=h;cases hd;refine wpAny_Call_Name_kw (aHp I hg hm ?_ hdb);refine PySem.W.callWith_K0 I.kIn n.kp ?_
 have Y:=PySem.W.makes_of (M:=model X.prog X.w) I.kIn n.makes;refine wpAny_call (aV7 I.kIn n.makes n.init (λself=>PySem.W.Looks.of_pure (PySem.W.oi_bind self)) ?_)
 have hx:((s.heap.push emptyDict).push (instObj C s.heap.objs.size)).get? (s.heap.objs.size+1)=some (instObj C s.heap.objs.size):=by
  have:=Heap.get?_push_size (s.heap.push emptyDict) (o:=instObj C s.heap.objs.size) rfl
  rwa [Heap.size_push]at this
 have t1:Looks (model X.prog X.w) ((s.heap.push emptyDict).push (instObj C s.heap.objs.size)) (typeOf (.ref (s.heap.objs.size+1))) (.ref C):=(PySem.W.Looks.ld hx).andThen .now;have t2:Looks (model X.prog X.w) ((s.heap.push emptyDict).push (instObj C s.heap.objs.size)) (isInstance (.ref (s.heap.objs.size+1)) (.type "object")) true:=t1.andThen (Y.top.keeps λb o z=>Heap.get?_push_of_some _ (Heap.get?_push_of_some _ z))
 refine codeAny_call_builtin PySem.W.oi_plain PySem.W.entry_oi (@PySem.W.check_slot (model X.prog X.w) _ _ _ "object.__init__" "object" "__init__" (.ref (s.heap.objs.size+1)) [] [] _ PySem.W.oi_kind PySem.W.oi_split t2 (PySem.W.oi_args (.ref (s.heap.objs.size+1))) ?_);rw[PySem.W.oi_run];refine wpAny_pure (And.intro rfl ?_);have hx0:H (s.heap.objs.size+1)=none:=I.hok.fresh (le_succ _);have hdx:H s.heap.objs.size=none:=I.hok.fresh (Nat.le_refl _);refine⟨V.ref (s.heap.objs.size+1),_,Inv.made (C:=C) I,rfl,q _ _ (λb u z=>?_) ?_⟩
 .rw[bQ (bI z hx0),bQ (bI z hdx)];exact z
 .refine aHv.mpr ⟨_,C,s.heap.objs.size,[],[],rfl,?_,hc.ns,rfl,rfl,.nil⟩;rw[cL (rs.own.free hx0)];exact cD
theorem bHe(i j:Nat){y fx:Str}{k jj:Nat} {cp:Pos} (h:DefOk X.prog X.w X.K X.mg X.base fx k 2 p) (hr:Room jj X.A) (hk:k<=jj) (he:PE X e (tI X.K B f)) (hN:X.N.Nodup) (hi:X.N[i]?=some x:=by rfl) (hj:X.N[j]?=some y:=by rfl)
  (hx:Loc X.env.scope x:=by first|exact Or.inl rfl|exact Or.inr rfl) (hv:Vis X.env.scope y:=by first|exact Or.inl rfl|exact Or.inr (Or.inl rfl)|exact Or.inr (Or.inr rfl)) (hd:(y==("__debug__":Str))=false:=by decide) (hcd:(y==("__classdict__":Str))=false:=by decide)
  (hg:Gl X fx:=by rfl) (hdb:(fx==("__debug__":Str))=false:=by decide) (hbase:attributeBase (.Name y p1) "pop" X.env (eval (.Name y p1) X.env)=eval (.Name y p1) X.env:=by rfl) (hline:(apos.endLine==cpos.line)=true:=by rfl)
  (hs2:starEach [.Call (.Attribute (.Name y p1) "pop" apos) [] [] cpos] X.env=(false,eval (.Call (.Attribute (.Name y p1) "pop" apos) [] [] cpos) X.env)::starEach [] X.env:=by rfl)
  (hs1:starEach [e,.Call (.Attribute (.Name y p1) "pop" apos) [] [] cpos] X.env=(false,eval e X.env)::starEach [.Call (.Attribute (.Name y p1) "pop" apos) [] [] cpos] X.env:=by rfl)
  (hpl:(backTo cp (starEach [.Call (.Attribute (.Name y p1) "pop" apos) [] [] cpos] X.env)).any (·.1)=false:=by rfl)
  (hs:swapsWith (.Call (.Name fx p0) [e,.Call (.Attribute (.Name y p1) "pop" apos) [] [] cpos] [] cp) (some (.Name x pos')) pos.line X.env=pure false:=by rfl)
  (hf:X.fn x=true\/X.env.scope.names.lookup x=some .local:=by first|exact .inl rfl|exact .inr rfl|assumption) :
  PS X (.Assign [.Name x pos'] (.Call (.Name fx p0) [e,.Call (.Attribute (.Name y p1) "pop" apos) [] [] cpos] [] cp) pos) (tS X.K B (aT4 i j p f)):=by
 obtain⟨fa,fd,ps,F,m,kp,bd⟩:=h.ex;refine lL (aI7 hN hi hx (aMc F (hr.mono hk) hg m kp bd .nil aOa (dJ he (dJ (aR1 PySem.F.plainAttrs_list PySem.F.slot_list_pop PySem.F.type_list_pop bFg (vR hj hv hd hcd) hbase hline) jO hs2) hs1) hdb hs1 hpl) hs hf) ?_
 rintro Dn σ H ⟨A,st,r,rs,hr,pc⟩;obtain⟨x',hx',h3⟩:=R.ok_of hr;split at h3
 .rename_i ys e1;split at h3
  .rename_i d ed;obtain⟨c,h4⟩:=aW h3;obtain⟨y',hy,h5⟩:=R.ok_of h4;cases h5;obtain⟨l,o,vs,e2,ml,h1,ko,q,u⟩:=rs.lst j _ ys e1;have eo:o=.lst vs:=ko;subst eo;refine⟨A,st,x',rs,hx',λv H' s rv=>?_⟩
   have ql:=q.length;have q':=q.mono (bL.hide s);rw[List.getLast?_eq_getElem?]at ed;obtain⟨w,hw,rw'⟩:=q'.get ed;obtain⟨w1,w2⟩:=(rs.mono s).write e1 e2 (k1:=.l) (ds:=ys.dropLast) (vs':=vs.dropLast) rfl (by
    rw[List.dropLast_eq_take,List.dropLast_eq_take,ql];exact q'.take _)
   refine⟨.ref l,e2,.inl ⟨rfl,vs,SqL.of (s _ _ h1)⟩,l,vs,w,rfl,rfl,s _ _ h1,by rw[ql];exact hw,?_⟩
   have hh:hide (A++B) (upd H' l (.lst vs.dropLast))=hide (A++B) H':=aB8 (List.mem_append_left _ ml);refine⟨A++B,[x',d],y',w1.own,?_,rfl,hy,λz H3 s3 r3=>pc A _ H3 ((Le.of s).trans (w2.trans (Le.of s3))) ((w1.mono s3).set i r3)⟩
   rw[hh];exact .cons rv (.cons rw' .nil)
  .cases h3
 .cases h3
end
end Pu
set_option maxHeartbeats 4000000
namespace Pu
open PySem PySem.Spec PyProof.Rows L2
def top(i:Nat):Stmt:=PySem.Challenge.pw_looprank_k42_bars.main.body.getD i (.Pass ⟨0,0,0,0⟩)
def inCls(s:Stmt)(j:Nat):Stmt:=match s with
 |.ClassDef _ _ _ b _ _ _ _ _ _ _=>b.getD j (.Pass ⟨0,0,0,0⟩)
 |_=>.Pass ⟨0,0,0,0⟩
abbrev aBb:Stmt:=top 55
abbrev aBc:Stmt:=top 56
abbrev wG:Stmt:=top 57
abbrev aBd:Stmt:=top 58
abbrev uL:Stmt:=top 59
abbrev aBe:Stmt:=top 66
abbrev yQ:Stmt:=top 60
abbrev yR:Stmt:=top 61
abbrev qP:Stmt:=top 62
abbrev aDp:Stmt:=top 63
abbrev aBf:Stmt:=top 64
abbrev wH:Stmt:=top 65
abbrev uM:Stmt:=top 68
abbrev aDq:Stmt:=top 67
abbrev yS:Stmt:=top 69
abbrev yU:Stmt:=top 70
abbrev yV:Stmt:=top 71
abbrev aDr:Stmt:=top 25
abbrev aDs:Stmt:=top 26
abbrev aGf:Stmt:=top 24
abbrev yW:Stmt:=top 28
abbrev aBg:Stmt:=top 27
abbrev aBh:Stmt:=top 29
abbrev rZ:Stmt:=top 38
abbrev yX:Stmt:=top 30
abbrev wI:Stmt:=top 31
abbrev yZ:Stmt:=top 32
abbrev aDt:Stmt:=top 34
abbrev uN:Stmt:=top 39
abbrev sE:Stmt:=top 40
abbrev aBi:Stmt:=top 21
abbrev sH:Stmt:=top 22
abbrev aGg:Stmt:=top 33
abbrev aK5:Stmt:=top 36
abbrev dG:Stmt:=inCls (top 19) 3
abbrev aDu:Stmt:=top 37
abbrev aGh:Stmt:=top 44
abbrev aDv:Stmt:=top 13
abbrev aDw:Stmt:=top 14
abbrev lM:Stmt:=inCls (top 19) 1
abbrev aGi:Stmt:=top 9
abbrev lN:Stmt:=inCls (top 19) 2
abbrev sI:Stmt:=inCls (top 19) 5
abbrev zA:Stmt:=top 46
abbrev wJ:Stmt:=inCls (top 49) 1
abbrev uO:Stmt:=inCls (top 50) 1
abbrev wK:Stmt:=top 42
abbrev aGj:Stmt:=top 35
abbrev wL:Stmt:=top 43
abbrev zB:Stmt:=top 47
abbrev wM:Stmt:=inCls (top 51) 1
abbrev aBj:Stmt:=inCls (top 52) 1
abbrev wN:Stmt:=inCls (top 53) 1
abbrev pF:Stmt:=top 72
abbrev qQ:Stmt:=top 15
abbrev aK6:Stmt:=top 16
abbrev aBk:Stmt:=top 17
abbrev aBl:Stmt:=top 18
abbrev fP:Stmt:=inCls (top 19) 0
abbrev aF8:Stmt:=top 73
theorem aF9:FnScope ["_law_script","_law_k","_law_rest"] ["_law_script","_law_k"] (aJ aBb):=⟨rfl,rfl,rfl,by decide+kernel,rfl,by decide+kernel,by decide+kernel⟩
theorem aFa:FnScope ["_law_cell_here","_law_k","_law_many","_law_number"] ["_law_cell_here","_law_k","_law_many"] (aJ aBc):=⟨rfl,rfl,rfl,by decide+kernel,rfl,by decide+kernel,by decide+kernel⟩
theorem aBm:FnScope ["_law_cell_here","_law_sizes","_law_found","_law_size"] ["_law_cell_here","_law_sizes"] (aJ wG):=⟨rfl,rfl,rfl,by decide+kernel,rfl,by decide+kernel,by decide+kernel⟩
theorem aFb:FnScope ["_law_k","_law_goal_here","_law_way","_law_many"] ["_law_k","_law_goal_here","_law_way","_law_many"] (aJ aBd):=⟨rfl,rfl,rfl,by decide+kernel,rfl,by decide+kernel,by decide+kernel⟩
theorem aA3:FnScope ["_law_script","_law_start","_law_most","_law_first","_law_sizes","_law_drawn","_law_many","_law_steps","_law_ranks","_law_k","_law_cell_here","_law_found","_law_j","_law_goal_here"] ["_law_script","_law_start","_law_most"] (aJ uL):=⟨rfl,rfl,rfl,by decide+kernel,rfl,by decide+kernel,by decide+kernel⟩
theorem aFc:FnScope ["_law_k"] ["_law_k"] (aJ aBe):=⟨rfl,rfl,rfl,by decide+kernel,rfl,by decide+kernel,by decide+kernel⟩
theorem aCz:FnScope ["_law_steps","_law_goals_here","_law_step","_law_bits","_law_goal_here"] ["_law_steps"] (aJ yQ):=⟨rfl,rfl,rfl,by decide+kernel,rfl,by decide+kernel,by decide+kernel⟩
theorem aD0:FnScope ["_law_goals_here","_law_inside","_law_begin","_law_found","_law_more","_law_wider","_law_k"] ["_law_goals_here","_law_inside","_law_begin"] (aJ yR):=⟨rfl,rfl,rfl,by decide+kernel,rfl,by decide+kernel,by decide+kernel⟩
theorem vJ:FnScope ["_law_goals_here","_law_allowed","_law_loops","_law_bits","_law_turned","_law_k"] ["_law_goals_here","_law_allowed"] (aJ qP):=⟨rfl,rfl,rfl,by decide+kernel,rfl,by decide+kernel,by decide+kernel⟩
theorem aH7:FnScope ["_law_ranks","_law_bits","_law_k"] ["_law_ranks","_law_bits"] (aJ aDp):=⟨rfl,rfl,rfl,by decide+kernel,rfl,by decide+kernel,by decide+kernel⟩
theorem aFd:FnScope ["_law_ranks","_law_bits"] ["_law_ranks","_law_bits"] (aJ aBf):=⟨rfl,rfl,rfl,by decide+kernel,rfl,by decide+kernel,by decide+kernel⟩
theorem aBn:FnScope ["_law_goals_here","_law_loops","_law_ranks","_law_ahead","_law_one","_law_goods","_law_bads","_law_truths_here","_law_other","_law_to","_law_back"] ["_law_goals_here","_law_loops","_law_ranks"] (aJ wH):=⟨rfl,rfl,rfl,by decide+kernel,rfl,by decide+kernel,by decide+kernel⟩
theorem aA4:FnScope ["_law_thing","_law_letters","_law_sign"] ["_law_thing","_law_letters"] (aJ uM):=⟨rfl,rfl,rfl,by decide+kernel,rfl,by decide+kernel,by decide+kernel⟩
theorem aH8:FnScope ["_law_steps","_law_room","_law_word","_law_rooms","_law_letter"] ["_law_steps","_law_room","_law_word"] (aJ aDq):=⟨rfl,rfl,rfl,by decide+kernel,rfl,by decide+kernel,by decide+kernel⟩
theorem aD1:FnScope ["_law_steps","_law_room","_law_word","_law_rooms","_law_bits","_law_one"] ["_law_steps","_law_room","_law_word"] (aJ yS):=⟨rfl,rfl,rfl,by decide+kernel,rfl,by decide+kernel,by decide+kernel⟩
theorem aD2:FnScope ["_law_k","_law_one","_law_other"] ["_law_k","_law_one","_law_other"] (aJ yU):=⟨rfl,rfl,rfl,by decide+kernel,rfl,by decide+kernel,by decide+kernel⟩
theorem aD3:FnScope ["_law_steps","_law_ranks","_law_k","_law_paper","_law_word","_law_room","_law_goal_here","_law_first","_law_second","_law_front","_law_one","_law_way","_law_other"] ["_law_steps","_law_ranks","_law_k","_law_paper"] (aJ yV):=⟨rfl,rfl,rfl,by decide+kernel,rfl,by decide+kernel,by decide+kernel⟩
theorem aH9:FnScope ["bits","room"] ["bits","room"] (aJ aDr):=⟨rfl,rfl,rfl,by decide+kernel,rfl,by decide+kernel,by decide+kernel⟩
theorem aHa:FnScope ["bits","room"] ["bits"] (aJ aDs):=⟨rfl,rfl,rfl,by decide+kernel,rfl,by decide+kernel,by decide+kernel⟩
theorem aK7:FnScope ["rooms","bits","room"] ["rooms"] (aJ aGf):=⟨rfl,rfl,rfl,by decide+kernel,rfl,by decide+kernel,by decide+kernel⟩
theorem aD4:FnScope ["steps","allowed","rooms","seen","room","middle"] ["steps","allowed"] (aJ yW):=⟨rfl,rfl,rfl,by decide+kernel,rfl,by decide+kernel,by decide+kernel⟩
theorem aFe:FnScope ["machine"] ["machine"] (aJ aBg):=⟨rfl,rfl,rfl,by decide+kernel,rfl,by decide+kernel,by decide+kernel⟩
theorem aFf:FnScope ["machine","room"] ["machine","room"] (aJ aBh):=⟨rfl,rfl,rfl,by decide+kernel,rfl,by decide+kernel,by decide+kernel⟩
theorem xK:FnScope ["machine","allowed","wanted","ranks","rank","room"] ["machine","allowed","wanted"] (aJ rZ):=⟨rfl,rfl,rfl,by decide+kernel,rfl,by decide+kernel,by decide+kernel⟩
theorem aD5:FnScope ["steps","part","rooms"] ["steps","part"] (aJ yX):=⟨rfl,rfl,rfl,by decide+kernel,rfl,by decide+kernel,by decide+kernel⟩
theorem aBo:FnScope ["steps","allowed","seen","parts","room","part","other"] ["steps","allowed"] (aJ wI):=⟨rfl,rfl,rfl,by decide+kernel,rfl,by decide+kernel,by decide+kernel⟩
theorem aD6:FnScope ["machine","allowed"] ["machine","allowed"] (aJ yZ):=⟨rfl,rfl,rfl,by decide+kernel,rfl,by decide+kernel,by decide+kernel⟩
theorem aHb:FnScope ["machine","bits","room"] ["machine","bits"] (aJ aDt):=⟨rfl,rfl,rfl,by decide+kernel,rfl,by decide+kernel,by decide+kernel⟩
theorem aA5:FnScope ["machine","allowed","rank","low","part","room"] ["machine","allowed","rank"] (aJ uN):=⟨rfl,rfl,rfl,by decide+kernel,rfl,by decide+kernel,by decide+kernel⟩
theorem xM:FnScope ["machine","allowed","wanted","found","rank"] ["machine","allowed","wanted"] (aJ sE):=⟨rfl,rfl,rfl,by decide+kernel,rfl,by decide+kernel,by decide+kernel⟩
theorem aFg:FnScope ["steps","start","allowed","ways","met","place","here","letter","room"] ["steps","start","allowed"] (aJ aBi):=⟨rfl,rfl,rfl,by decide+kernel,rfl,by decide+kernel,by decide+kernel⟩
theorem xN:FnScope ["machine","ways"] ["machine"] (aJ sH):=⟨rfl,rfl,rfl,by decide+kernel,rfl,by decide+kernel,by decide+kernel⟩
theorem aK8:FnScope ["machine","bits"] ["machine","bits"] (aJ aGg):=⟨rfl,rfl,rfl,by decide+kernel,rfl,by decide+kernel,by decide+kernel⟩
theorem aM4:FnScope ["machine","allowed","room","goal"] ["machine","allowed","room","goal"] (aJ aK5):=⟨rfl,rfl,rfl,by decide+kernel,rfl,by decide+kernel,by decide+kernel⟩
theorem pG:FnScope ["self","room","text","rooms","letter"] ["self","room","text"] (aJ dG):=⟨rfl,rfl,rfl,by decide+kernel,rfl,by decide+kernel,by decide+kernel⟩
theorem aHc:FnScope ["machine","bits","room","text","here","goal"] ["machine","bits","room"] (aJ aDu):=⟨rfl,rfl,rfl,by decide+kernel,rfl,by decide+kernel,by decide+kernel⟩
theorem aK9:FnScope ["machine","row","entries","room","front","entry","loop"] ["machine","row"] (aJ aGh):=⟨rfl,rfl,rfl,by decide+kernel,rfl,by decide+kernel,by decide+kernel⟩
theorem aHd:FnScope ["thing"] ["thing"] (aJ aDv):=⟨rfl,rfl,rfl,by decide+kernel,rfl,by decide+kernel,by decide+kernel⟩
theorem aHe:FnScope ["thing","limit"] ["thing","limit"] (aJ aDw):=⟨rfl,rfl,rfl,by decide+kernel,rfl,by decide+kernel,by decide+kernel⟩
theorem pM:FnScope ["self","thing"] ["self","thing"] (aJ lM):=⟨rfl,rfl,rfl,by decide+kernel,rfl,by decide+kernel,by decide+kernel⟩
theorem aKa:FnScope ["thing","many"] ["thing","many"] (aJ aGi):=⟨rfl,rfl,rfl,by decide+kernel,rfl,by decide+kernel,by decide+kernel⟩
theorem pN:FnScope ["self","thing"] ["self","thing"] (aJ lN):=⟨rfl,rfl,rfl,by decide+kernel,rfl,by decide+kernel,by decide+kernel⟩
theorem xO:FnScope ["self","room","text"] ["self","room","text"] (aJ sI):=⟨rfl,rfl,rfl,by decide+kernel,rfl,by decide+kernel,by decide+kernel⟩
theorem aD7:FnScope ["machine","good","reached","goals","loop","nest","start","goal","end","way"] ["machine","good"] (aJ zA):=⟨rfl,rfl,rfl,by decide+kernel,rfl,by decide+kernel,by decide+kernel⟩
theorem aBp:FnScope ["self","machine"] ["self","machine"] (aJ wJ):=⟨rfl,rfl,rfl,by decide+kernel,rfl,by decide+kernel,by decide+kernel⟩
theorem aA6:FnScope ["self","machine"] ["self","machine"] (aJ uO):=⟨rfl,rfl,rfl,by decide+kernel,rfl,by decide+kernel,by decide+kernel⟩
theorem aBq:FnScope ["machine","loop","rank","room"] ["machine","loop"] (aJ wK):=⟨rfl,rfl,rfl,by decide+kernel,rfl,by decide+kernel,by decide+kernel⟩
theorem aKb:FnScope ["machine","bits"] ["machine","bits"] (aJ aGj):=⟨rfl,rfl,rfl,by decide+kernel,rfl,by decide+kernel,by decide+kernel⟩
theorem aBr:FnScope ["machine","loop","found","left","rest","part"] ["machine","loop"] (aJ wL):=⟨rfl,rfl,rfl,by decide+kernel,rfl,by decide+kernel,by decide+kernel⟩
theorem aD8:FnScope ["machine","good","loop","inner","nest"] ["machine","good"] (aJ zB):=⟨rfl,rfl,rfl,by decide+kernel,rfl,by decide+kernel,by decide+kernel⟩
theorem aBs:FnScope ["self","machine","bar"] ["self","machine"] (aJ wM):=⟨rfl,rfl,rfl,by decide+kernel,rfl,by decide+kernel,by decide+kernel⟩
theorem aFh:FnScope ["self","machine"] ["self","machine"] (aJ aBj):=⟨rfl,rfl,rfl,by decide+kernel,rfl,by decide+kernel,by decide+kernel⟩
theorem aBt:FnScope ["self","machine"] ["self","machine"] (aJ wN):=⟨rfl,rfl,rfl,by decide+kernel,rfl,by decide+kernel,by decide+kernel⟩
theorem uP:FnScope ["_law_kinds","_law_machine_here","_law_steps","_law_ranks","_law_truths_here","_law_k","_law_paper"] ["_law_kinds","_law_machine_here","_law_steps","_law_ranks","_law_truths_here"] (aJ pF):=⟨rfl,rfl,rfl,by decide+kernel,rfl,by decide+kernel,by decide+kernel⟩
theorem vK:FnScope ["thing","most"] ["thing","most"] (aJ qQ):=⟨rfl,rfl,rfl,by decide+kernel,rfl,by decide+kernel,by decide+kernel⟩
theorem aM5:FnScope ["thing","letters","rooms","room"] ["thing","letters","rooms"] (aJ aK6):=⟨rfl,rfl,rfl,by decide+kernel,rfl,by decide+kernel,by decide+kernel⟩
theorem aFi:FnScope ["thing","row"] ["thing"] (aJ aBk):=⟨rfl,rfl,rfl,by decide+kernel,rfl,by decide+kernel,by decide+kernel⟩
theorem aFj:FnScope ["thing","rooms","rank"] ["thing","rooms"] (aJ aBl):=⟨rfl,rfl,rfl,by decide+kernel,rfl,by decide+kernel,by decide+kernel⟩
theorem sZ:FnScope ["self","steps","ranks","row"] ["self","steps","ranks"] (aJ fP):=⟨rfl,rfl,rfl,by decide+kernel,rfl,by decide+kernel,by decide+kernel⟩
theorem bAh:FnScope ["_law_script","_law_more","_law_kinds","_law_one","_law_other","_law_goals_here","_law_loops","_law_truths_here","_law_turned","_law_papers","_law_steps","_law_ranks","_law_rank","_law_k","_law_kind_here","_law_step"] ["_law_script"] (aJ aF8):=⟨rfl,rfl,rfl,by decide+kernel,rfl,by decide+kernel,by decide+kernel⟩
section
variable{P:Program}{w:World}{K:Frag}{mg:Str->Option Value}{base:Heap}{fa:Addr}{fd:FuncData}{dV:Value}
variable(cR:mg "len"=none)
include cR in
theorem aQc(F:FunD K "_law_cell" "_law_cell" aBb dV fa fd):FnOk P w K mg base CX0 1 fa fd ["_law_script","_law_k"] (spI K 2 rF):=by
 refine cG (k:=0) F aF9 2 3 aGr rfl rfl λcdv A outer s H E B hr=>?_
 have nd:=aF9.nd;refine aH ?_ ?_
 .exact iY (cA aSm aI1 (toP (aA 1)) (toP (mH cR (toP (aA 0)))) (bK _)) (aX (bO (rN (toP (cU hr.units (toP (aA 0)) (toP (aA 1)))) (toP (bEg (toP aR) (toP aR)))))) dW
 refine aH ?_ ?_
 .exact bY 2 aR nd
 refine aH ?_ ?_
 .exact iY (cA aO6 aJk (toP (mH cR (toP (aA 0)))) (toP aR) (bK _)) (aX (bY 2 (rN (toP (cU hr.units (toP (aA 0)) (toP (rN (toP (aA 1)) (toP (mH cR (toP (aA 0)))))))) (toP aR)) nd)) dW
 exact aX (bO (rN (toP (aDn (toP (mY (toP (mY (toP (aDn (toP (aA 2)) (toP aR))) (toP (aDn (toP aR) (toP (aA 1)))))) (toP aR))) (toP (mY (toP (aA 1)) (toP aR))))) (toP aR)))
theorem aQd(F:FunD K "_law_pick" "_law_pick" aBc dV fa fd):FnOk P w K mg base CX0 1 fa fd ["_law_cell_here","_law_k","_law_many"] (spI K 3 rG):=by
 refine cG (k:=0) F aFa 3 4 aGs rfl rfl λcdv A outer s H E B hr=>?_
 have nd:=aFa.nd;refine aH ?_ ?_
 .exact bY 3 (rN (toP (mY (toP (aA 0)) (toP (aDn (toP aR) (toP (aA 1)))))) (toP aR)) nd
 refine aH ?_ ?_
 .exact bY 3 (rN (toP (aDn (toP (rN (toP (aDn (toP (aA 3)) (toP (aA 3)))) (toP aR))) (toP aR))) (toP aR)) nd
 exact aX (bO (rN (toP (aJj (toP (rN (toP (aDn (toP (aA 3)) (toP (aA 3)))) (toP aR))) (toP aR))) (toP (aA 2))))
theorem aKn(F:FunD K "_law_digits" "_law_digits" wG dV fa fd):FnOk P w K mg base CX0 1 fa fd ["_law_cell_here","_law_sizes"] (spI K 2 kE):=by
 refine cG (k:=0) F aBm 2 4 aCo rfl rfl λcdv A outer s H E B hr=>?_
 have nd:=aBm.nd;refine aH ?_ ?_
 .exact qJ 2 (xG aN) nd
 refine aH ?_ ?_
 .exact jN (iQ (aA 1)) (bR 3 nd) (aH (by exact aBa 2 (rN (toP (aA 0)) (toP (aA 3)))) (by exact aX (bY 0 (aJj (toP (aA 0)) (toP (aA 3))) nd))) PassesOwn.never rfl
 exact aX (aJn [2] (bO (aA 2)))
variable(aD9:mg "max"=none)
variable(aUs:mg "min"=none)
include aD9 aUs in
theorem aQe(F:FunD K "_law_goal" "_law_goal" aBd dV fa fd):FnOk P w K mg base CX0 1 fa fd ["_law_k","_law_goal_here","_law_way","_law_many"] (spI K 4 uW):=by
 refine cG (k:=0) F aFb 4 4 aGt rfl rfl λcdv A outer s H E B hr=>?_
 have nd:=aFb.nd;refine aH ?_ ?_
 .exact iY (cA (cZ hr.units) dB (toP (aA 2)) (toP aR) (bK _)) (aX (bO (bGw aD9 rfl (toP (aA 0)) (toP (aA 1))))) dW
 refine aH ?_ ?_
 .exact iY (PW.pt (aPg (cA (cZ hr.units) dB (toP (aA 2)) (toP aR) (bK _)) (aJm (cA aSm aI1 (toP (aJj (toP (aA 1)) (toP aR))) (toP (aJj (toP (aA 0)) (toP aR))) (bK _))))) (aX (bO (bGx aUs rfl (toP (bEf (toP (aA 3)) (toP aR))) (toP (mY (toP (bEf (toP (aA 0)) (toP (rN (toP (aA 0)) (toP aR))))) (toP (rN (toP (aA 1)) (toP aR)))))))) dW
 exact aX (bO (aA 1))
variable(rO:DefOk P w K mg base "_law_cell" 1 2 rF)
variable(rP:DefOk P w K mg base "_law_pick" 1 3 rG)
variable(mZ:DefOk P w K mg base "_law_digits" 1 2 kE)
variable(vL:DefOk P w K mg base "_law_goal" 1 4 uW)
variable(cN:mg "range"=none)
include cR rO rP mZ vL cN in
theorem aKc(F:FunD K "_law_machine" "_law_machine" uL dV fa fd):FnOk P w K mg base CX0 2 fa fd ["_law_script","_law_start","_law_most"] (spI K 3 lB):=by
 refine cG (k:=1) F aA3 3 14 aAm rfl rfl λcdv A outer s H E B hr=>?_
 have nd:=aA3.nd;refine aH ?_ ?_
 .exact bY 3 (aM rO hr (by decide) (aC (aA 0) (aC (aA 1) aN))) nd
 refine aH ?_ ?_
 .exact bY 4 (vH (aC (aA 2) (aC aR (aC aR (aC aR (aC aR aN)))))) nd
 refine aH ?_ ?_
 .exact bY 5 (qK [9] iR (.of rfl) (aF3 cN (toP aR)) (λ_ _ _ _ _=>bR 9 nd) (λ_ _ _ _ _=>aM rP hr (by decide) (aC (aA 3) (aC (mY (toP aR) (toP (aA 9))) (aC (cU hr.units (toP (aA 4)) (toP (aA 9))) aN)))) rfl) nd
 refine aH ?_ ?_
 .exact iY (cA (cZ hr.units) dB (toP (rN (toP (aA 3)) (toP aR))) (toP aR) (bK _)) (aX (bY 5 (aM mZ hr (by decide) (aC (aJj (toP (aA 3)) (toP aR)) (aC (aA 4) aN))) nd)) dW
 refine aH ?_ ?_
 .exact bY 6 (mY (toP aR) (toP (cU hr.units (toP (aA 5)) (toP aR)))) nd
 refine aH ?_ ?_
 .exact bY 4 (mY (toP (bHd (aC (aA 6) aN) (toP (mY (toP aR) (toP (cU hr.units (toP (aA 5)) (toP aR))))))) (toP (vH (aC (cU hr.units (toP (vH (aC aR (aC aR (aC aR (aC aR aN)))))) (toP (cU hr.units (toP (aA 5)) (toP aR)))) aN)))) nd
 refine aH ?_ ?_
 .exact qJ 7 (xG aN) nd
 refine aH ?_ ?_
 .exact qJ 8 (xG aN) nd
 refine aH ?_ ?_
 .exact jN (aF3 cN (toP (aA 6))) (bR 9 nd) (aH (by exact bY 10 (aM rO hr (by decide) (aC (aA 0) (aC (mY (toP (mY (toP (aA 1)) (toP aR))) (toP (aA 9))) aN))) nd) (by exact aH (by exact bY 11 (aM mZ hr (by decide) (aC (aA 10) (aC (aA 4) aN))) nd) (by exact aH (by exact iY (cA (cZ hr.units) dB (toP (rN (toP (aA 3)) (toP aR))) (toP aR) (bK _)) (aX (aNl 11 [12] iR (.of rfl) (aF3 cN (toP (mH cR (toP (aA 4))))) (λ_ _ _ _ _=>bR 12 nd) (λ_ _ _ _ _=>aM rP hr (by decide) (aC (aA 10) (aC (mY (toP aR) (toP (aA 12))) (aC (cU hr.units (toP (aA 4)) (toP (aA 12))) aN)))) rfl nd)) dW) (by exact aH (by exact aBa 7 (qK [13] iR (.of rfl) (iQ (bGr (toP (aA 11)) aRx (aRy (toP (aLw (toP aR)))))) (λ_ _ _ _ _=>bR 13 nd) (λ_ _ _ _ _=>aM vL hr (by decide) (aC (aA 9) (aC (aA 13) (aC (cU hr.units (toP (aA 5)) (toP aR)) (aC (aA 6) aN))))) rfl)) (by exact aX (aBa 8 (mY (toP (cU hr.units (toP (vH (aC aR (aC aR (aC aR (aC (bEg (toP aR) (toP aR)) aN)))))) (toP (cU hr.units (toP (aA 5)) (toP aR))))) (toP (cU hr.units (toP (aA 11)) (toP (aLw (toP aR)))))))))))) PassesOwn.never rfl
 exact aX (aJn [7,8] (bO (aU6 (aC (aA 7) (aC (aA 8) aN)))))
variable{A_Again:Addr}(c_Again:ClsAt K "Again" A_Again)
variable{A_EarlyNo:Addr}(c_EarlyNo:ClsAt K "EarlyNo" A_EarlyNo)
variable{A_EarlyYes:Addr}(c_EarlyYes:ClsAt K "EarlyYes" A_EarlyYes)
variable{A_Lasting:Addr}(c_Lasting:ClsAt K "Lasting" A_Lasting)
variable{A_Settled:Addr}(c_Settled:ClsAt K "Settled" A_Settled)
variable(aFk:mg (Str.ofString "Again")=some (.ref A_Again))
variable(zE:mg (Str.ofString "EarlyNo")=some (.ref A_EarlyNo))
variable(vM:mg (Str.ofString "EarlyYes")=some (.ref A_EarlyYes))
variable(zF:mg (Str.ofString "Lasting")=some (.ref A_Lasting))
variable(zG:mg (Str.ofString "Settled")=some (.ref A_Settled))
variable(aCe:Mk0 K A_EarlyNo)
variable(zH:Mk0 K A_EarlyYes)
variable(aCf:Mk0 K A_Settled)
variable(aI3:Mk0 K A_Again)
variable(aCg:Mk0 K A_Lasting)
include c_Again c_EarlyNo c_EarlyYes c_Lasting c_Settled aFk zE vM zF zG aCe zH aCf aI3 aCg in
theorem aQf(F:FunD K "_law_kind" "_law_kind" aBe dV fa fd):FnOk P w K mg base CX0 1 fa fd ["_law_k"] (spI K 1 uX):=by
 refine cG (k:=0) F aFc 1 1 aGu rfl rfl λcdv A outer s H E B hr=>?_
 have nd:=aFc.nd;refine aH ?_ ?_
 .exact iY (cA (cZ hr.units) dB (toP (aA 0)) (toP aR) (bK _)) (aX (bO (aK4 aCe c_EarlyNo zE))) dW
 refine aH ?_ ?_
 .exact iY (cA (cZ hr.units) dB (toP (aA 0)) (toP aR) (bK _)) (aX (bO (aK4 zH c_EarlyYes vM))) dW
 refine aH ?_ ?_
 .exact iY (cA (cZ hr.units) dB (toP (aA 0)) (toP aR) (bK _)) (aX (bO (aK4 aCf c_Settled zG))) dW
 refine aH ?_ ?_
 .exact iY (cA (cZ hr.units) dB (toP (aA 0)) (toP aR) (bK _)) (aX (bO (aK4 aI3 c_Again aFk))) dW
 exact aX (bO (aK4 aCg c_Lasting zF))
theorem aNr(F:FunD K "_law_goals" "_law_goals" yQ dV fa fd):FnOk P w K mg base CX0 1 fa fd ["_law_steps"] (spI K 1 tD):=by
 refine cG (k:=0) F aCz 1 5 aEa rfl rfl λcdv A outer s H E B hr=>?_
 have nd:=aCz.nd;refine aH ?_ ?_
 .exact qJ 1 (xG aN) nd
 refine aH ?_ ?_
 .exact jN (iQ (aA 0)) (bR 2 nd) (aH (by exact bY 3 aR nd) (by exact aH (by exact jN (iQ (aA 2)) (bR 4 nd) (aX (bY 3 (aM1 (toP (aA 3)) (toP (aUl (toP aR) (toP (aA 4))))) nd)) PassesOwn.never rfl) (by exact aX (aBa 1 (aA 3))))) PassesOwn.never rfl
 exact aX (aJn [1] (bO (aA 1)))
include cR cN in
theorem aNs(F:FunD K "_law_close" "_law_close" yR dV fa fd):FnOk P w K mg base CX0 1 fa fd ["_law_goals_here","_law_inside","_law_begin"] (spI K 3 gF):=by
 refine cG (k:=0) F aD0 3 7 aEb rfl rfl λcdv A outer s H E B hr=>?_
 have nd:=aD0.nd;refine aH ?_ ?_
 .exact bY 3 (qO (toP (aA 2)) (toP (aA 1))) nd
 refine aH ?_ ?_
 .exact bY 4 uR nd
 refine aH ?_ ?_
 .exact aNd 100000 (gK (aA 4)) (aH (by exact bY 5 (aA 3) nd) (by exact aH (by exact jN (aF3 cN (toP (mH cR (toP (aA 0))))) (bR 6 nd) (aX (iY (cA (cZ hr.units) dB (toP (qO (toP (aUm (toP (aA 3)) (toP (aA 6)))) (toP aR))) (toP aR) (bK _)) (aX (bY 5 (aM1 (toP (aA 5)) (toP (qO (toP (cU hr.units (toP (aA 0)) (toP (aA 6)))) (toP (aA 1))))) nd)) dW)) PassesOwn.never rfl) (by exact aH (by exact bY 4 (gJ (qL hr.units) qM (toP (aA 5)) (toP (aA 3)) (bK _)) nd) (by exact aX (bY 3 (aA 5) nd))))) PassesOwn.never
 exact aX (bO (aA 3))
variable(fU:DefOk P w K mg base "_law_close" 1 3 gF)
include cR cN fU in
theorem aGk(F:FunD K "_law_all_loops" "_law_all_loops" qP dV fa fd):FnOk P w K mg base CX0 2 fa fd ["_law_goals_here","_law_allowed"] (spI K 2 jC):=by
 refine cG (k:=1) F vJ 2 6 wR rfl rfl λcdv A outer s H E B hr=>?_
 have nd:=vJ.nd;refine aH ?_ ?_
 .exact qJ 2 (xG aN) nd
 refine aH ?_ ?_
 .exact jN (bJd cN (toP aR) (toP (mY (toP (aA 1)) (toP aR)))) (bR 3 nd) (aX (iY (cA (cZ hr.units) dB (toP (qO (toP (aA 3)) (toP (aA 1)))) (toP (aA 3)) (bK _)) (aH (by exact aF6 4 [5] iR (.of rfl) (aF3 cN (toP (mH cR (toP (aA 0))))) (λ_ _ _ _ _=>bR 5 nd) (λ_ _ _ _ _=>PW.pt (aPg (cA (cZ hr.units) dB (toP (qO (toP (aUm (toP (aA 3)) (toP (aA 5)))) (toP aR))) (toP aR) (bK _)) (aJm (cA (qL hr.units) qM (toP (aM fU hr (by decide) (aC (aA 0) (aC (aA 3) (aC (cU hr.units (toP (aA 0)) (toP (aA 5))) aN))))) (toP (aA 3)) (bK _))))) (λ_ _ _ _ _=>aA 5) rfl nd) (by exact aX (iY (cA (cZ hr.units) dB (toP (aA 4)) (toP (vH aN)) (bK _)) (aX (aBa 2 (aA 3))) dW))) dW)) PassesOwn.never rfl
 exact aX (aJn [2] (bO (aA 2)))
include cR aD9 cN in
theorem aSc(F:FunD K "_law_top" "_law_top" aDp dV fa fd):FnOk P w K mg base CX0 1 fa fd ["_law_ranks","_law_bits"] (spI K 2 xZ):=by
 refine cG (k:=0) F aH7 2 3 aDb rfl rfl λcdv A outer s H E B hr=>?_
 have nd:=aH7.nd;exact aX (bO (bEl aD9 rfl (toP (uI [2] iR (.of rfl) (aF3 cN (toP (mH cR (toP (aA 0))))) (λ_ _ _ _ _=>bR 2 nd) (λ_ _ _ _ _=>cA (cZ hr.units) dB (toP (qO (toP (aUm (toP (aA 1)) (toP (aA 2)))) (toP aR))) (toP aR) (bK _)) (λ_ _ _ _ _=>cU hr.units (toP (aA 0)) (toP (aA 2))) rfl))))
variable(zJ:DefOk P w K mg base "_law_top" 1 2 xZ)
include zJ in
theorem aQg(F:FunD K "_law_good" "_law_good" aBf dV fa fd):FnOk P w K mg base CX0 2 fa fd ["_law_ranks","_law_bits"] (spI K 2 lC):=by
 refine cG (k:=1) F aFd 2 2 aGv rfl rfl λcdv A outer s H E B hr=>?_
 have nd:=aFd.nd;exact aX (bO (gJ (cZ hr.units) dB (toP (rN (toP (aM zJ hr (by decide) (aC (aA 0) (aC (aA 1) aN)))) (toP aR))) (toP aR) (bK _)))
variable(iT:DefOk P w K mg base "_law_good" 2 2 lC)
include fU iT in
theorem aKo(F:FunD K "_law_truths" "_law_truths" wH dV fa fd):FnOk P w K mg base CX0 3 fa fd ["_law_goals_here","_law_loops","_law_ranks"] (spI K 3 mU):=by
 refine cG (k:=2) F aBn 3 11 aCp rfl rfl λcdv A outer s H E B hr=>?_
 have nd:=aBn.nd;refine aH ?_ ?_
 .exact aUc 3 nd
 refine aH ?_ ?_
 .exact jN (iQ (aA 1)) (bR 4 nd) (aX (aNj hr.units 3 (aA 4) (aM fU hr (by decide) (aC (aA 0) (aC aR (aC (aA 4) aN)))))) PassesOwn.never rfl
 refine aH ?_ ?_
 .exact aF6 5 [4] iR (.of rfl) (iQ (aA 1)) (λ_ _ _ _ _=>bR 4 nd) (λ_ _ _ _ _=>gK (aM iT hr (by decide) (aC (aA 2) (aC (aA 4) aN)))) (λ_ _ _ _ _=>aA 4) rfl nd
 refine aH ?_ ?_
 .exact aF6 6 [4] iR (.of rfl) (iQ (aA 1)) (λ_ _ _ _ _=>bR 4 nd) (λ_ _ _ _ _=>sV (gK (aM iT hr (by decide) (aC (aA 2) (aC (aA 4) aN))))) (λ_ _ _ _ _=>aA 4) rfl nd
 refine aH ?_ ?_
 .exact qJ 7 (xG (aC uR (aC uR (aC uR (aC uR (aC uR aN)))))) nd
 refine aH ?_ ?_
 .exact jN (iQ (aA 5)) (bR 4 nd) (aX (jN (iQ (aA 6)) (bR 8 nd) (aH (by exact bY 9 (gJ aO6 aJk (toP (qO (toP (cU hr.units (mL 3) (toP (aA 4)))) (toP (aA 8)))) (toP aR) (bK _)) nd) (by exact aH (by exact bY 10 (gJ aO6 aJk (toP (qO (toP (cU hr.units (mL 3) (toP (aA 8)))) (toP (aA 4)))) (toP aR) (bK _)) nd) (by exact aH (by exact aPu 7 (toP aR) (pL (cU hr.units (mL 7) (toP aR)) (mO (aJl (aA 10))))) (by exact aH (by exact aPu 7 (toP aR) (pL (cU hr.units (mL 7) (toP aR)) (mO (aJl (aA 9))))) (by exact aH (by exact aPu 7 (toP aR) (pL (cU hr.units (mL 7) (toP aR)) (mO (aJl (pL (aA 9) (mO (aA 10))))))) (by exact aH (by exact aPu 7 (toP aR) (pL (cU hr.units (mL 7) (toP aR)) (mO (gJ (qL hr.units) qM (toP (qO (toP (aA 4)) (toP (aA 8)))) (toP (aA 4)) (bK _))))) (by exact aX (aPu 7 (toP aR) (pL (cU hr.units (mL 7) (toP aR)) (mO (gJ (qL hr.units) qM (toP (qO (toP (aA 4)) (toP (aA 8)))) (toP (aA 8)) (bK _)))))))))))) PassesOwn.never rfl)) PassesOwn.never rfl
 exact aX (aJn [7] (bO (aA 7)))
variable(bV:mg "isinstance"=none)
variable(aKd:mg "str"=none)
include cR bV aKd in
theorem aKe(F:FunD K "_law_is_text" "_law_is_text" uM dV fa fd):FnOk P w K mg base CX0 1 fa fd ["_law_thing","_law_letters"] (spI K 2 oO):=by
 refine cG (k:=0) F aA4 2 3 aAr rfl rfl λcdv A outer s H E B hr=>?_
 have nd:=aA4.nd;exact aX (bO (pL (uJ ty_str bV aKd (toP (aA 0))) (mO (gJ (cZ hr.units) dB (toP (mH cR (toP (uI [2] iR (.of rfl) (iQ (aA 0)) (λ_ _ _ _ _=>bR 2 nd) (λ_ _ _ _ _=>cA (aS2 hr.units) aS3 (toP (aA 2)) (toP (bGr (toP (aJh [97,98,99])) aRx (aRy (toP (aA 1))))) rfl) (λ_ _ _ _ _=>aA 2) rfl)))) (toP (mH cR (toP (aA 0)))) (bK _)))))
theorem aSd(F:FunD K "_law_led" "_law_led" aDq dV fa fd):FnOk P w K mg base CX0 1 fa fd ["_law_steps","_law_room","_law_word"] (spI K 3 pY):=by
 refine cG (k:=0) F aH8 3 5 aIj rfl rfl λcdv A outer s H E B hr=>?_
 have nd:=aH8.nd;refine aH ?_ ?_
 .exact qJ 3 (xG aN) nd
 refine aH ?_ ?_
 .exact jN (iQ (aA 2)) (bR 4 nd) (aH (by exact bY 1 (cU hr.units (toP (cU hr.units (toP (aA 0)) (toP (aA 1)))) (toP (bD1 (toP (aJh [97,98,99])) (aC (aA 4) aN)))) nd) (by exact aX (aBa 3 (aA 1)))) PassesOwn.never rfl
 exact aX (aJn [3] (bO (aA 3)))
variable(lO:DefOk P w K mg base "_law_led" 1 3 pY)
include lO in
theorem aNt(F:FunD K "_law_round" "_law_round" yS dV fa fd):FnOk P w K mg base CX0 2 fa fd ["_law_steps","_law_room","_law_word"] (spI K 3 oR):=by
 refine cG (k:=1) F aD1 3 6 aEd rfl rfl λcdv A outer s H E B hr=>?_
 have nd:=aD1.nd;refine aH ?_ ?_
 .exact bY 3 (aM lO hr (by decide) (aC (aA 0) (aC (aA 1) (aC (aA 2) aN)))) nd
 refine aH ?_ ?_
 .exact iY (PW.pt (aRv (cA (cZ hr.units) dB (toP (aA 3)) (toP (vH aN)) (bK _)) (aLt (cA (qL hr.units) qM (toP (cU hr.units (toP (aA 3)) (toP (aLw (toP aR))))) (toP (aA 1)) (bK _))))) (aX (bO aR)) dW
 refine aH ?_ ?_
 .exact bY 4 aR nd
 refine aH ?_ ?_
 .exact jN (iQ (aA 3)) (bR 5 nd) (aX (bY 4 (aM1 (toP (aA 4)) (toP (aUl (toP aR) (toP (aA 5))))) nd)) PassesOwn.never rfl
 exact aX (bO (aA 4))
theorem aNu(F:FunD K "_law_sorts" "_law_sorts" yU dV fa fd):FnOk P w K mg base CX0 1 fa fd ["_law_k","_law_one","_law_other"] (spI K 3 tE):=by
 refine cG (k:=0) F aD2 3 3 aEe rfl rfl λcdv A outer s H E B hr=>?_
 have nd:=aD2.nd;refine aH ?_ ?_
 .exact iY (PW.pt (aRv (cA (cZ hr.units) dB (toP (aA 0)) (toP aR) (bK _)) (aLt (cA (cZ hr.units) dB (toP (aA 0)) (toP aR) (bK _))))) (aX (bO (pL (aJl (aA 1)) (mO (aA 2))))) dW
 refine aH ?_ ?_
 .exact iY (cA (cZ hr.units) dB (toP (aA 0)) (toP aR) (bK _)) (aX (bO (gJ (qL hr.units) qM (toP (aA 1)) (toP (aA 2)) (bK _)))) dW
 exact aX (bO (pL (aA 1) (mO (aJl (aA 2)))))
variable(pH:DefOk P w K mg base "_law_is_text" 1 2 oO)
variable(pI:DefOk P w K mg base "_law_round" 2 3 oR)
variable(tR:DefOk P w K mg base "_law_sorts" 1 3 tE)
variable(aI4:mg "tuple"=none)
include cR iT bV lO pH pI tR aI4 in
theorem aNv(F:FunD K "_law_shown" "_law_shown" yV dV fa fd):FnOk P w K mg base CX0 3 fa fd ["_law_steps","_law_ranks","_law_k","_law_paper"] (spI K 4 tH):=by
 refine cG (k:=2) F aD3 4 13 aEf rfl rfl λcdv A outer s H E B hr=>?_
 have nd:=aD3.nd;refine aH ?_ ?_
 .exact iY (PW.pt (aRv (sV (gK (uJ ty_tuple bV aI4 (toP (aA 3))))) (aLt (cA (qL hr.units) qM (toP (mH cR (toP (aA 3)))) (toP aR) (bK _))))) (aX (bO uR)) dW
 refine aH ?_ ?_
 .exact jN (iQ (aA 3)) (bR 4 nd) (aX (iY (sV (gK (aM pH hr (by decide) (aC (aA 4) (aC (mH cR (toP (cU hr.units (toP (aA 0)) (toP aR)))) aN))))) (aX (bO uR)) dW)) PassesOwn.never rfl
 refine aH ?_ ?_
 .exact bEi (aA 3) (aZh rfl (vI 9 (vI 10 (vI 11 (vI 12 aRw nd) nd) nd) nd))
 refine aH ?_ ?_
 .exact bY 5 (cU hr.units (toP (mY (toP (vH (aC aR aN))) (toP (aM lO hr (by decide) (aC (aA 0) (aC aR (aC (aA 9) aN))))))) (toP (aLw (toP aR)))) nd
 refine aH ?_ ?_
 .exact bY 6 (cU hr.units (toP (mY (toP (vH (aC (aA 5) aN))) (toP (aM lO hr (by decide) (aC (aA 0) (aC (aA 5) (aC (aA 11) aN))))))) (toP (aLw (toP aR)))) nd
 refine aH ?_ ?_
 .exact bY 7 (aM pI hr (by decide) (aC (aA 0) (aC (aA 5) (aC (aA 10) aN)))) nd
 refine aH ?_ ?_
 .exact bY 8 (aM pI hr (by decide) (aC (aA 0) (aC (aA 6) (aC (aA 12) aN)))) nd
 refine aH ?_ ?_
 .exact iY (PW.pt (aRv (cA (cZ hr.units) dB (toP (aA 7)) (toP aR) (bK _)) (aRv (cA (cZ hr.units) dB (toP (aA 8)) (toP aR) (bK _)) (aLt (PW.pt (aPg (cA aO6 aJk (toP (aA 2)) (toP aR) (bK _)) (aJm (PW.pt (aRv (cA (qL hr.units) qM (toP (aA 11)) (toP (aJh [])) (bK _)) (aLt (cA (qL hr.units) qM (toP (qO (toP (aA 7)) (toP (aA 8)))) (toP (aA 7)) (bK _)))))))))))) (aX (bO uR)) dW
 exact aX (bO (aM tR hr (by decide) (aC (aA 2) (aC (aM iT hr (by decide) (aC (aA 1) (aC (aA 7) aN))) (aC (aM iT hr (by decide) (aC (aA 1) (aC (aA 8) aN))) aN)))))
theorem aSe(F:FunD K "has_room" "has_room" aDr dV fa fd):FnOk P w K mg base CX0 1 fa fd ["bits","room"] (spI K 2 iV):=by
 refine cG (k:=0) F aH9 2 2 aDc rfl rfl λcdv A outer s H E B hr=>?_
 have nd:=aH9.nd;exact aX (bO (gJ (cZ hr.units) dB (toP (qO (toP (aUm (toP (aA 0)) (toP (aA 1)))) (toP aR))) (toP aR) (bK _)))
variable(cO:DefOk P w K mg base "has_room" 1 2 iV)
include cN cO in
theorem aSf(F:FunD K "rooms_of" "rooms_of" aDs dV fa fd):FnOk P w K mg base CX0 2 fa fd ["bits"] (spI K 1 bW):=by
 refine cG (k:=1) F aHa 1 2 aDd rfl rfl λcdv A outer s H E B hr=>?_
 have nd:=aHa.nd;exact aX (bO (uI [1] iR (.of rfl) (aF3 cN (toP (bH2 (toP (aA 0))))) (λ_ _ _ _ _=>bR 1 nd) (λ_ _ _ _ _=>gK (aM cO hr (by decide) (aC (aA 0) (aC (aA 1) aN)))) (λ_ _ _ _ _=>aA 1) rfl))
theorem aWu(F:FunD K "bits_of" "bits_of" aGf dV fa fd):FnOk P w K mg base CX0 1 fa fd ["rooms"] (spI K 1 kI):=by
 refine cG (k:=0) F aK7 1 3 aFw rfl rfl λcdv A outer s H E B hr=>?_
 have nd:=aK7.nd;refine aH ?_ ?_
 .exact bY 1 aR nd
 refine aH ?_ ?_
 .exact jN (iQ (aA 0)) (bR 2 nd) (aX (bY 1 (aM1 (toP (aA 1)) (toP (aUl (toP aR) (toP (aA 2))))) nd)) PassesOwn.never rfl
 exact aX (bO (aA 1))
variable(bJ:DefOk P w K mg base "rooms_of" 2 1 bW)
variable(fB:DefOk P w K mg base "bits_of" 1 1 kI)
include cO bJ fB in
theorem aNw(F:FunD K "seen_among" "seen_among" yW dV fa fd):FnOk P w K mg base CX0 3 fa fd ["steps","allowed"] (spI K 2 lV):=by
 refine cG (k:=2) F aD4 2 6 aEg rfl rfl λcdv A outer s H E B hr=>?_
 have nd:=aD4.nd;refine aH ?_ ?_
 .exact bY 2 (aM bJ hr (by decide) (aC (aA 1) aN)) nd
 refine aH ?_ ?_
 .exact aUc 3 nd
 refine aH ?_ ?_
 .exact jN (iQ (aA 2)) (bR 4 nd) (aX (aNj hr.units 3 (aA 4) (qO (toP (aM1 (toP (aM fB hr (by decide) (aC (cU hr.units (toP (aA 0)) (toP (aA 4))) aN))) (toP (aUl (toP aR) (toP (aA 4)))))) (toP (aA 1))))) PassesOwn.never rfl
 refine aH ?_ ?_
 .exact jN (iQ (aA 2)) (bR 5 nd) (aX (jN (iQ (aA 2)) (bR 4 nd) (aX (iY (gK (aM cO hr (by decide) (aC (cU hr.units (mL 3) (toP (aA 4))) (aC (aA 5) aN)))) (aX (aNj hr.units 3 (aA 4) (aM1 (toP (cU hr.units (mL 3) (toP (aA 4)))) (toP (cU hr.units (mL 3) (toP (aA 5))))))) dW)) PassesOwn.never rfl)) PassesOwn.never rfl
 exact aX (aJn [3] (bO (aA 3)))
variable{A_Machine:Addr}(c_Machine:ClsAt K "Machine" A_Machine)
variable(cC:mJ K A_Machine (Str.ofString "many"))
variable(gM:mg "list"=none)
include cN fB c_Machine cC gM in
theorem aQh(F:FunD K "all_rooms" "all_rooms" aBg dV fa fd):FnOk P w K mg base CX0 2 fa fd ["machine"] (spI K 1 rH):=by
 refine cG (k:=1) F aFe 1 1 aGw rfl rfl λcdv A outer s H E B hr=>?_
 have nd:=aFe.nd;exact aX (bO (aM fB hr (by decide) (aC (aQ2 gM cN rfl (toP (sW c_Machine cC (toP (aA 0))))) aN)))
variable(jV:DefOk P w K mg base "seen_among" 3 2 lV)
variable(vN:DefOk P w K mg base "all_rooms" 2 1 rH)
variable(aZ:mJ K A_Machine (Str.ofString "steps"))
include c_Machine jV vN aZ in
theorem aQi(F:FunD K "seen_from" "seen_from" aBh dV fa fd):FnOk P w K mg base CX0 4 fa fd ["machine","room"] (spI K 2 jK):=by
 refine cG (k:=3) F aFf 2 2 aGx rfl rfl λcdv A outer s H E B hr=>?_
 have nd:=aFf.nd;exact aX (bO (cU hr.units (toP (aM jV hr (by decide) (aC (sW c_Machine aZ (toP (aA 0))) (aC (aM vN hr (by decide) (aC (aA 0) aN)) aN)))) (toP (aA 1))))
variable(bG:mJ K A_Machine (Str.ofString "ranks"))
variable(aFl:mg "sorted"=none)
variable(aUt:mg "set"=none)
include bJ c_Machine bG aFl aUt in
theorem aHl(F:FunD K "ranks_of_sort" "ranks_of_sort" rZ dV fa fd):FnOk P w K mg base CX0 3 fa fd ["machine","allowed","wanted"] (spI K 3 nC):=by
 refine cG (k:=2) F xK 3 6 zR rfl rfl λcdv A outer s H E B hr=>?_
 have nd:=xK.nd;refine aH ?_ ?_
 .exact bY 3 (bAe aFl aUt rfl (toP (qK [5] iR (.of rfl) (iQ (aM bJ hr (by decide) (aC (aA 1) aN))) (λ_ _ _ _ _=>bR 5 nd) (λ_ _ _ _ _=>cU hr.units (toP (sW c_Machine bG (toP (aA 0)))) (toP (aA 5))) rfl))) nd
 exact aX (bO (uI [4] iR (.of rfl) (iQ (aA 3)) (λ_ _ _ _ _=>bR 4 nd) (λ_ _ _ _ _=>cA (cZ hr.units) dB (toP (gJ (cZ hr.units) dB (toP (rN (toP (aA 4)) (toP aR))) (toP aR) (bK _))) (toP (aA 2)) (bK _)) (λ_ _ _ _ _=>aA 4) rfl))
include cR bJ in
theorem aNx(F:FunD K "goes_round" "goes_round" yX dV fa fd):FnOk P w K mg base CX0 3 fa fd ["steps","part"] (spI K 2 tK):=by
 refine cG (k:=2) F aD5 2 3 aEj rfl rfl λcdv A outer s H E B hr=>?_
 have nd:=aD5.nd;refine aH ?_ ?_
 .exact bY 2 (aM bJ hr (by decide) (aC (aA 1) aN)) nd
 exact aX (bO (bKt (gJ aO6 aJk (toP (mH cR (toP (aA 2)))) (toP aR) (bK _)) (bJa (gJ (aS2 hr.units) aS3 (toP (cU hr.units (toP (aA 2)) (toP aR))) (toP (cU hr.units (toP (aA 0)) (toP (cU hr.units (toP (aA 2)) (toP aR))))) rfl))))
variable(tU:DefOk P w K mg base "goes_round" 3 2 tK)
include cO bJ fB jV tU in
theorem aKp(F:FunD K "parts_among" "parts_among" wI dV fa fd):FnOk P w K mg base CX0 4 fa fd ["steps","allowed"] (spI K 2 qT):=by
 refine cG (k:=3) F aBo 2 7 aCq rfl rfl λcdv A outer s H E B hr=>?_
 have nd:=aBo.nd;refine aH ?_ ?_
 .exact bY 2 (aM jV hr (by decide) (aC (aA 0) (aC (aA 1) aN))) nd
 refine aH ?_ ?_
 .exact qJ 3 (xG aN) nd
 refine aH ?_ ?_
 .exact jN (iQ (aM bJ hr (by decide) (aC (aA 1) aN))) (bR 4 nd) (aH (by exact bY 5 (aM fB hr (by decide) (aC (uI [6] iR (.of rfl) (iQ (aM bJ hr (by decide) (aC (cU hr.units (toP (aA 2)) (toP (aA 4))) aN))) (λ_ _ _ _ _=>bR 6 nd) (λ_ _ _ _ _=>gK (aM cO hr (by decide) (aC (cU hr.units (toP (aA 2)) (toP (aA 6))) (aC (aA 4) aN)))) (λ_ _ _ _ _=>aA 6) rfl) aN)) nd) (by exact aX (iY (PW.pt (aPg (cA (aGc hr.units) aGd (toP (aA 5)) (mL 3) rfl) (aJm (gK (aM tU hr (by decide) (aC (aA 0) (aC (aA 5) aN))))))) (aX (aBa 3 (aA 5))) dW))) PassesOwn.never rfl
 exact aX (aJn [3] (bO (aA 3)))
variable(rC:DefOk P w K mg base "parts_among" 4 2 qT)
include c_Machine aZ rC in
theorem aNy(F:FunD K "loop_parts" "loop_parts" yZ dV fa fd):FnOk P w K mg base CX0 5 fa fd ["machine","allowed"] (spI K 2 gG):=by
 refine cG (k:=4) F aD6 2 2 aEk rfl rfl λcdv A outer s H E B hr=>?_
 have nd:=aD6.nd;exact aX (bO (aM rC hr (by decide) (aC (sW c_Machine aZ (toP (aA 0))) (aC (aA 1) aN))))
include aD9 bJ c_Machine bG in
theorem aSg(F:FunD K "top_rank" "top_rank" aDt dV fa fd):FnOk P w K mg base CX0 3 fa fd ["machine","bits"] (spI K 2 pZ):=by
 refine cG (k:=2) F aHb 2 3 aDe rfl rfl λcdv A outer s H E B hr=>?_
 have nd:=aHb.nd;refine aH ?_ ?_
 .exact iY (cA (cZ hr.units) dB (toP (aA 1)) (toP aR) (bK _)) (aX yO) dW
 exact aX (bO (bEl aD9 rfl (toP (qK [2] iR (.of rfl) (iQ (aM bJ hr (by decide) (aC (aA 1) aN))) (λ_ _ _ _ _=>bR 2 nd) (λ_ _ _ _ _=>cU hr.units (toP (sW c_Machine bG (toP (aA 0)))) (toP (aA 2))) rfl))))
variable(fV:DefOk P w K mg base "loop_parts" 5 2 gG)
variable(iZ:DefOk P w K mg base "top_rank" 3 2 pZ)
include bJ fB c_Machine bG fV iZ in
theorem aKf(F:FunD K "parts_topped" "parts_topped" uN dV fa fd):FnOk P w K mg base CX0 6 fa fd ["machine","allowed","rank"] (spF K 3 lD):=by
 refine bJm (k:=5) F aA5 3 6 nD (cY [4] (tgN 4) (itE (aV gG (aD (aB 0) (aD (aB 3) aU)))) lX lW) rfl rfl λcdv A outer s H E B hr=>?_
 have nd:=aA5.nd;exact aUn (by exact bY 3 (aM fB hr (by decide) (aC (uI [5] iR (.of rfl) (iQ (aM bJ hr (by decide) (aC (aA 1) aN))) (λ_ _ _ _ _=>bR 5 nd) (λ_ _ _ _ _=>cA bDw aZf (toP (cU hr.units (toP (sW c_Machine bG (toP (aA 0)))) (toP (aA 5)))) (toP (aA 2)) (bK _)) (λ_ _ _ _ _=>aA 5) rfl) aN)) nd) (by exact bA9 (bAf [4] iR (.of rfl) (iQ (aM fV hr (by decide) (aC (aA 0) (aC (aA 3) aN)))) (λ_ _ _ _ _=>bR 4 nd) (λ_ _ _ _ _=>cA (cZ hr.units) dB (toP (aM iZ hr (by decide) (aC (aA 0) (aC (aA 4) aN)))) (toP (aA 2)) (bK _)) (λ_ _ _ _ _=>aA 4) rfl))
variable(nG:DefOk P w K mg base "ranks_of_sort" 3 3 nC)
variable(pJ:DefOkF P w K mg base "parts_topped" 6 3 lD)
include nG pJ in
theorem aHm(F:FunD K "loops_of_sort" "loops_of_sort" sE dV fa fd):FnOk P w K mg base CX0 7 fa fd ["machine","allowed","wanted"] (spI K 3 dM):=by
 refine cG (k:=6) F xM 3 5 zV rfl rfl λcdv A outer s H E B hr=>?_
 have nd:=xM.nd;refine aH ?_ ?_
 .exact qJ 3 (xG aN) nd
 refine aH ?_ ?_
 .exact jN (iQ (aM nG hr (by decide) (aC (aA 0) (aC (aA 1) (aC (aA 2) aN))))) (bR 4 nd) (aX (bJl 3 (bDd pJ hr (by decide) (aC (aA 0) (aC (aA 1) (aC (aA 4) aN)))))) PassesOwn.never rfl
 exact aX (aJn [3] (bO (aA 3)))
variable(aUu:mg "zip"=none)
variable{t_LETTERS:Tok}(g_LETTERS:mg "LETTERS"=some (.str "abc" t_LETTERS))
include cR aUu g_LETTERS in
theorem aQj(F:FunD K "ways_from" "ways_from" aBi dV fa fd):FnOk P w K mg base CX0 1 fa fd ["steps","start","allowed"] (spI K 3 lE):=by
 refine cG (k:=0) F aFg 3 9 aAw rfl rfl λcdv A outer s H E B hr=>?_
 have nd:=aFg.nd;refine aH ?_ ?_
 .exact bD9 3 (aA 1) (aJh []) nd
 refine aH ?_ ?_
 .exact qJ 4 (xG (aC (aA 1) aN)) nd
 refine aH ?_ ?_
 .exact bY 5 aR nd
 refine aH ?_ ?_
 .exact aNd 100000 (cA aSm aI1 (toP (aA 5)) (toP (mH cR (mL 4))) (bK _)) (aH (by exact bY 6 (cU hr.units (mL 4) (toP (aA 5))) nd) (by exact aH (by exact jN (bH0 aUu (aN8 [97,98,99] g_LETTERS) (cU hr.units (toP (aA 0)) (toP (aA 6)))) (aZh rfl (vI 7 (vI 8 aRw nd) nd)) (aX (iY (PW.pt (aPg (cA (aS2 hr.units) aS3 (toP (aA 8)) (toP (aA 2)) rfl) (aJm (cA (aGc hr.units) aGd (toP (aA 8)) (mL 3) rfl)))) (aH (by exact aNj hr.units 3 (aA 8) (mY (toP (cU hr.units (mL 3) (toP (aA 6)))) (toP (aA 7)))) (by exact aX (aBa 4 (aA 8)))) dW)) PassesOwn.never rfl) (by exact aX (bY 5 (mY (toP (aA 5)) (toP aR)) nd)))) PassesOwn.never
 exact aX (aJn [3] (bO (aA 3)))
variable(lQ:DefOk P w K mg base "ways_from" 1 3 lE)
include cN c_Machine cC gM aZ lQ in
theorem aHn(F:FunD K "rooms_reached" "rooms_reached" sH dV fa fd):FnOk P w K mg base CX0 2 fa fd ["machine"] (spF K 1 nF):=by
 refine bJm (k:=1) F xN 1 2 lY (e1 aIh (aB 1)) rfl rfl λcdv A outer s H E B hr=>?_
 have nd:=xN.nd;exact aUn (by exact bY 1 (aM lQ hr (by decide) (aC (sW c_Machine aZ (toP (aA 0))) (aC aR (aC (aQ2 gM cN rfl (toP (sW c_Machine cC (toP (aA 0))))) aN)))) nd) (by exact bA9 (bDc gM rfl (aA 1)))
include fV in
theorem aWv(F:FunD K "is_loop" "is_loop" aGg dV fa fd):FnOk P w K mg base CX0 6 fa fd ["machine","bits"] (spI K 2 wV):=by
 refine cG (k:=5) F aK8 2 2 aFz rfl rfl λcdv A outer s H E B hr=>?_
 have nd:=aK8.nd;exact aX (bO (gJ (cZ hr.units) dB (toP (aM fV hr (by decide) (aC (aA 0) (aC (aA 1) aN)))) (toP (vH (aC (aA 1) aN))) (bK _)))
include cO bJ c_Machine aZ lQ in
theorem bAi(F:FunD K "way_in" "way_in" aK5 dV fa fd):FnOk P w K mg base CX0 3 fa fd ["machine","allowed","room","goal"] (spI K 4 oW):=by
 refine cG (k:=2) F aM4 4 4 aOj rfl rfl λcdv A outer s H E B hr=>?_
 have nd:=aM4.nd;refine aH ?_ ?_
 .exact iY (sV (gK (aM cO hr (by decide) (aC (aA 1) (aC (aA 2) aN))))) (aX (bO aLs)) dW
 exact aX (bO (bHc hr.units (toP (aM lQ hr (by decide) (aC (sW c_Machine aZ (toP (aA 0))) (aC (aA 2) (aC (aM bJ hr (by decide) (aC (aA 1) aN)) aN))))) (aA 3)))
include c_Machine aZ g_LETTERS in
theorem aAa(F:FunD K "rooms_along" "Machine.rooms_along" dG dV fa fd):FnOk P w K mg base CX0 1 fa fd ["self","room","text"] (spF K 3 cT):=by
 refine bKx (k:=0) F pG 3 5 3 eO rfl rfl λcdv A outer s H E B hr=>?_
 have nd:=pG.nd;exact aUk (by exact qJ 3 (xG (aC (aA 1) aN)) nd) (by exact aUk (by exact jN (iQ (aA 2)) (bR 4 nd) (aH (by exact bY 1 (cU hr.units (toP (cU hr.units (toP (sW c_Machine aZ (toP (aA 0)))) (toP (aA 1)))) (toP (bGv (toP (aN8 [97,98,99] g_LETTERS)) (aC (aA 4) aN)))) nd) (by exact aX (aBa 3 (aA 1)))) PassesOwn.never rfl) (by exact bGy))
variable(aCh:DefOk P w K mg base "is_loop" 6 2 wV)
variable(rQ:DefOk P w K mg base "way_in" 3 4 oW)
variable(cI:MethOkF P w K mg base "Machine" "rooms_along" 1 3 [] cT)
include cO bJ c_Machine aZ g_LETTERS aCh rQ cI in
theorem aSh(F:FunD K "round_in" "round_in" aDu dV fa fd):FnOk P w K mg base CX0 7 fa fd ["machine","bits","room"] (spI K 3 nP):=by
 refine cG (k:=6) F aHc 3 6 aIl rfl rfl λcdv A outer s H E B hr=>?_
 have nd:=aHc.nd;refine aH ?_ ?_
 .exact iY (sV (gK (aM aCh hr (by decide) (aC (aA 0) (aC (aA 1) aN))))) (aX yO) dW
 refine aH ?_ ?_
 .exact iY (sV (gK (aM cO hr (by decide) (aC (aA 1) (aC (aA 2) aN))))) (aX yO) dW
 refine aH ?_ ?_
 .exact iY (cA (cZ hr.units) dB (toP (aM bJ hr (by decide) (aC (aA 1) aN))) (toP (vH (aC (aA 2) aN))) (bK _)) (aX (bO (cU hr.units (toP (aN8 [97,98,99] g_LETTERS)) (toP (bA5 (toP (cU hr.units (toP (sW c_Machine aZ (toP (aA 0)))) (toP (aA 2)))) (aC (aA 2) aN)))))) dW
 refine aH ?_ ?_
 .exact bY 3 (aJh []) nd
 refine aH ?_ ?_
 .exact bY 4 (aA 2) nd
 refine aH ?_ ?_
 .exact jN (iQ (aM bJ hr (by decide) (aC (aA 1) aN))) (bR 5 nd) (aX (iY (cA (aGc hr.units) aGd (toP (aA 5)) (toP (jF (pl:=_) (MethOkF.plain cI) hr (by decide) (aA 0) (aC (aA 2) (aC (aA 3) aN)))) rfl) (aH (by exact bY 3 (mY (toP (aA 3)) (toP (aM rQ hr (by decide) (aC (aA 0) (aC (aA 1) (aC (aA 4) (aC (aA 5) aN))))))) nd) (by exact aX (bY 4 (aA 5) nd))) dW)) PassesOwn.never rfl
 exact aX (bO (mY (toP (aA 3)) (toP (aM rQ hr (by decide) (aC (aA 0) (aC (aA 1) (aC (aA 4) (aC (aA 2) aN))))))))
variable(nH:DefOkF P w K mg base "rooms_reached" 2 1 nF)
variable(nU:DefOk P w K mg base "round_in" 7 3 nP)
include cO nH nU in
theorem aWw(F:FunD K "nest_of" "nest_of" aGh dV fa fd):FnOk P w K mg base CX0 8 fa fd ["machine","row"] (spI K 2 tX):=by
 refine cG (k:=7) F aK9 2 7 aL6 rfl rfl λcdv A outer s H E B hr=>?_
 have nd:=aK9.nd;refine aH ?_ ?_
 .exact aF6 2 [5] iR (.of rfl) (iQ (aM (DefOkF.plain nH) hr (by decide) (aC (aA 0) aN))) (λ_ _ _ _ _=>bR 5 nd) (λ_ _ _ _ _=>gK (aM cO hr (by decide) (aC (cU hr.units (toP (aA 1)) (toP aR)) (aC (cU hr.units (toP (aA 5)) (toP aR)) aN)))) (λ_ _ _ _ _=>aA 5) rfl nd
 refine aH ?_ ?_
 .exact bY 3 (cU hr.units (toP (cU hr.units (toP (aA 2)) (toP aR))) (toP aR)) nd
 refine aH ?_ ?_
 .exact bY 4 (cU hr.units (toP (cU hr.units (toP (aA 2)) (toP aR))) (toP aR)) nd
 exact aX (bO (aU6 (aC (aA 4) (aC (qK [6] iR (.of rfl) (iQ (aA 1)) (λ_ _ _ _ _=>bR 6 nd) (λ_ _ _ _ _=>aM nU hr (by decide) (aC (aA 0) (aC (aA 6) (aC (aA 3) aN)))) rfl) aN))))
variable(aUv:mg "int"=none)
variable(aNz:mg "bool"=none)
include bV aUv aNz in
theorem aSi(F:FunD K "is_whole" "is_whole" aDv dV fa fd):FnOk P w K mg base CX0 1 fa fd ["thing"] (spI K 1 qC):=by
 refine cG (k:=0) F aHd 1 1 aDf rfl rfl λcdv A outer s H E B hr=>?_
 have nd:=aHd.nd;exact aX (bO (pL (uJ ty_int bV aUv (toP (aA 0))) (mO (aJl (uJ ty_bool bV aNz (toP (aA 0)))))))
variable(nW:DefOk P w K mg base "is_whole" 1 1 qC)
include nW in
theorem aSj(F:FunD K "is_below" "is_below" aDw dV fa fd):FnOk P w K mg base CX0 2 fa fd ["thing","limit"] (spI K 2 qD):=by
 refine cG (k:=1) F aHe 2 2 aDg rfl rfl λcdv A outer s H E B hr=>?_
 have nd:=aHe.nd;exact aX (bO (pL (aM nW hr (by decide) (aC (aA 0) aN)) (pL (gJ aXa aRu (toP (aA 0)) (toP aR) (bK _)) (mO (gJ aSm aI1 (toP (aA 0)) (toP (aA 1)) (bK _))))))
variable(nY:DefOk P w K mg base "is_below" 2 2 qD)
include c_Machine cC nY in
theorem aBu(F:FunD K "check_room" "Machine.check_room" lM dV fa fd):FnOk P w K mg base CX0 3 fa fd ["self","thing"] (spI K 2 dR):=by
 refine cG (k:=2) F pM 2 2 rJ rfl rfl λcdv A outer s H E B hr=>?_
 have nd:=pM.nd;exact aX (iY (sV (gK (aM nY hr (by decide) (aC (aA 1) (aC (sW c_Machine cC (toP (aA 0))) aN))))) (aX yO) dW)
include bV aKd g_LETTERS in
theorem aWx(F:FunD K "is_word" "is_word" aGi dV fa fd):FnOk P w K mg base CX0 1 fa fd ["thing","many"] (spI K 2 oE):=by
 refine cG (k:=0) F aKa 2 2 aBz rfl rfl λcdv A outer s H E B hr=>?_
 have nd:=aKa.nd;exact aX (bO (pL (uJ ty_str bV aKd (toP (aA 0))) (mO (gJ (cZ hr.units) dB (toP (bD2 (toP (aA 0)) (aC (bGr (toP (aN8 [97,98,99] g_LETTERS)) aRx (aRy (toP (aA 1)))) aN))) (toP (aJh [])) (bK _)))))
variable(aCi:DefOk P w K mg base "is_word" 1 2 oE)
variable(dO:mJ K A_Machine (Str.ofString "letters"))
include c_Machine aCi dO in
theorem aBv(F:FunD K "check_word" "Machine.check_word" lN dV fa fd):FnOk P w K mg base CX0 2 fa fd ["self","thing"] (spI K 2 dU):=by
 refine cG (k:=1) F pN 2 2 rK rfl rfl λcdv A outer s H E B hr=>?_
 have nd:=pN.nd;exact aX (iY (sV (gK (aM aCi hr (by decide) (aC (aA 1) (aC (sW c_Machine dO (toP (aA 0))) aN))))) (aX yO) dW)
variable(gO:MethOk P w K mg base "Machine" "check_room" 3 2 [] dR)
variable(gP:MethOk P w K mg base "Machine" "check_word" 2 2 [] dU)
include cI gO gP in
theorem aHo(F:FunD K "after" "Machine.after" sI dV fa fd):FnOk P w K mg base CX0 4 fa fd ["self","room","text"] (spI K 3 jY):=by
 refine cG (k:=3) F xO 3 3 zW rfl rfl λcdv A outer s H E B hr=>?_
 have nd:=xO.nd;refine aH ?_ ?_
 .exact bEh (jF (pl:=_) gO hr (by decide) (aA 0) (aC (aA 1) aN))
 refine aH ?_ ?_
 .exact bEh (jF (pl:=_) gP hr (by decide) (aA 0) (aC (aA 2) aN))
 exact aX (bO (cU hr.units (toP (jF (pl:=_) (MethOkF.plain cI) hr (by decide) (aA 0) (aC (aA 1) (aC (aA 2) aN)))) (toP (aLw (toP aR)))))
variable(lR:DefOk P w K mg base "seen_from" 4 2 jK)
variable(fC:DefOk P w K mg base "loops_of_sort" 7 3 dM)
variable(qR:DefOk P w K mg base "nest_of" 8 2 tX)
variable(kW:MethOk P w K mg base "Machine" "after" 4 3 [] jY)
include bJ rQ nU lR fC qR kW in
theorem aO0(F:FunD K "bar_behind" "bar_behind" zA dV fa fd):FnOk P w K mg base CX0 9 fa fd ["machine","good"] (spI K 2 jQ):=by
 refine cG (k:=8) F aD7 2 10 aEn rfl rfl λcdv A outer s H E B hr=>?_
 have nd:=aD7.nd;refine aH ?_ ?_
 .exact bY 2 (aM lR hr (by decide) (aC (aA 0) (aC aR aN))) nd
 refine aH ?_ ?_
 .exact bY 3 (aM fC hr (by decide) (aC (aA 0) (aC (aA 2) (aC (aA 1) aN)))) nd
 refine aH ?_ ?_
 .exact jN (iQ (aM fC hr (by decide) (aC (aA 0) (aC (aA 2) (aC (aJl (aA 1)) aN))))) (bR 4 nd) (aH (by exact bY 5 (aM qR hr (by decide) (aC (aA 0) (aC (vH (aC (aA 4) aN)) aN))) nd) (by exact aH (by exact bY 6 (jF (pl:=_) kW hr (by decide) (aA 0) (aC aR (aC (cU hr.units (toP (aA 5)) (toP aR)) aN))) nd) (by exact aX (jN (iQ (aA 3)) (bR 7 nd) (aH (by exact bY 8 (cU hr.units (toP (aM bJ hr (by decide) (aC (aA 7) aN))) (toP aR)) nd) (by exact aH (by exact bY 9 (aM rQ hr (by decide) (aC (aA 0) (aC (aA 2) (aC (aA 6) (aC (aA 8) aN))))) nd) (by exact aX (iY (cA aGa aGb (toP (aA 9)) (toP aLs) (bK _)) (aX (bO (aU6 (aC (cU hr.units (toP (aA 5)) (toP aR)) (aC (cU hr.units (toP (cU hr.units (toP (aA 5)) (toP aR))) (toP aR)) (aC (aA 9) (aC (aM nU hr (by decide) (aC (aA 0) (aC (aA 7) (aC (aA 8) aN)))) aN))))))) dW)))) PassesOwn.never rfl)))) PassesOwn.never rfl
 exact aX (bO aLs)
variable(jW:DefOk P w K mg base "bar_behind" 9 2 jQ)
include jW in
theorem aKq(F:FunD K "bar" "EarlyNo.bar" wJ dV fa fd):FnOk P w K mg base CX0 10 fa fd ["self","machine"] (spI K 2 dH):=by
 refine cG (k:=9) F aBp 2 2 aCs rfl rfl λcdv A outer s H E B hr=>?_
 have nd:=aBp.nd;exact aX (bO (aM jW hr (by decide) (aC (aA 1) (aC uR aN))))
include jW in
theorem aKg(F:FunD K "bar" "EarlyYes.bar" uO dV fa fd):FnOk P w K mg base CX0 10 fa fd ["self","machine"] (spI K 2 eQ):=by
 refine cG (k:=9) F aA6 2 2 aAx rfl rfl λcdv A outer s H E B hr=>?_
 have nd:=aA6.nd;exact aX (bO (aM jW hr (by decide) (aC (aA 1) (aC uR aN))))
include bJ fB c_Machine bG iZ in
theorem aKr(F:FunD K "without_top" "without_top" wK dV fa fd):FnOk P w K mg base CX0 4 fa fd ["machine","loop"] (spI K 2 qW):=by
 refine cG (k:=3) F aBq 2 4 aCt rfl rfl λcdv A outer s H E B hr=>?_
 have nd:=aBq.nd;refine aH ?_ ?_
 .exact bY 2 (aM iZ hr (by decide) (aC (aA 0) (aC (aA 1) aN))) nd
 exact aX (bO (aM fB hr (by decide) (aC (uI [3] iR (.of rfl) (iQ (aM bJ hr (by decide) (aC (aA 1) aN))) (λ_ _ _ _ _=>bR 3 nd) (λ_ _ _ _ _=>cA (qL hr.units) qM (toP (cU hr.units (toP (sW c_Machine bG (toP (aA 0)))) (toP (aA 3)))) (toP (aA 2)) (bK _)) (λ_ _ _ _ _=>aA 3) rfl) aN)))
include iZ in
theorem aWy(F:FunD K "is_good" "is_good" aGj dV fa fd):FnOk P w K mg base CX0 4 fa fd ["machine","bits"] (spI K 2 oF):=by
 refine cG (k:=3) F aKb 2 2 aG0 rfl rfl λcdv A outer s H E B hr=>?_
 have nd:=aKb.nd;exact aX (bO (gJ (cZ hr.units) dB (toP (rN (toP (aM iZ hr (by decide) (aC (aA 0) (aC (aA 1) aN)))) (toP aR))) (toP aR) (bK _)))
variable(rD:DefOk P w K mg base "without_top" 4 2 qW)
variable(xP:DefOk P w K mg base "is_good" 4 2 oF)
include fV rD xP in
theorem aKs(F:FunD K "inner_loops" "inner_loops" wL dV fa fd):FnOk P w K mg base CX0 6 fa fd ["machine","loop"] (spI K 2 mV):=by
 refine cG (k:=5) F aBr 2 6 aCu rfl rfl λcdv A outer s H E B hr=>?_
 have nd:=aBr.nd;refine aH ?_ ?_
 .exact qJ 2 (xG aN) nd
 refine aH ?_ ?_
 .exact qJ 3 (xG (aC (aA 1) aN)) nd
 refine aH ?_ ?_
 .exact aNd 100000 (cA (qL hr.units) qM (mL 3) (toP (vH aN)) (bK _)) (aH (by exact bHe 4 3 rD hr (by decide) (aA 0) nd) (by exact aX (jN (iQ (aM fV hr (by decide) (aC (aA 0) (aC (aA 4) aN)))) (bR 5 nd) (aX (iY (cA (cZ hr.units) dB (toP (aM xP hr (by decide) (aC (aA 0) (aC (aA 5) aN)))) (toP (aM xP hr (by decide) (aC (aA 0) (aC (aA 1) aN)))) (bK _)) (aX (aBa 3 (aA 5))) (aX (aBa 2 (aA 5))))) PassesOwn.never rfl))) PassesOwn.never
 exact aX (aJn [2] (bO (aA 2)))
variable(rE:DefOk P w K mg base "inner_loops" 6 2 mV)
include lR fC qR rE in
theorem aO1(F:FunD K "bar_within" "bar_within" zB dV fa fd):FnOk P w K mg base CX0 9 fa fd ["machine","good"] (spI K 2 dN):=by
 refine cG (k:=8) F aD8 2 5 aEo rfl rfl λcdv A outer s H E B hr=>?_
 have nd:=aD8.nd;refine aH ?_ ?_
 .exact jN (iQ (aM fC hr (by decide) (aC (aA 0) (aC (aM lR hr (by decide) (aC (aA 0) (aC aR aN))) (aC (aA 1) aN))))) (bR 2 nd) (aH (by exact bY 3 (aM rE hr (by decide) (aC (aA 0) (aC (aA 2) aN))) nd) (by exact aX (iY (cA (qL hr.units) qM (toP (aA 3)) (toP (vH aN)) (bK _)) (aH (by exact bY 4 (aM qR hr (by decide) (aC (aA 0) (aC (vH (aC (cU hr.units (toP (aA 3)) (toP aR)) (aC (aA 2) aN))) aN))) nd) (by exact aX (bO (aU6 (aC (cU hr.units (toP (aA 4)) (toP aR)) (aC (cU hr.units (toP (cU hr.units (toP (aA 4)) (toP aR))) (toP aR)) (aC (aJh []) (aC (cU hr.units (toP (cU hr.units (toP (aA 4)) (toP aR))) (toP aR)) aN)))))))) dW))) PassesOwn.never rfl
 exact aX (bO aLs)
variable(eV:DefOk P w K mg base "bar_within" 9 2 dN)
include eV in
theorem aKt(F:FunD K "bar" "Settled.bar" wM dV fa fd):FnOk P w K mg base CX0 10 fa fd ["self","machine"] (spI K 2 eE):=by
 refine cG (k:=9) F aBs 2 3 aCv rfl rfl λcdv A outer s H E B hr=>?_
 have nd:=aBs.nd;refine aH ?_ ?_
 .exact bY 2 (aM eV hr (by decide) (aC (aA 1) (aC uR aN))) nd
 exact aX (bO (bJb (cA aGa aGb (toP (aA 2)) (toP aLs) (bK _)) (aA 2) (aM eV hr (by decide) (aC (aA 1) (aC uR aN)))))
include eV in
theorem aQk(F:FunD K "bar" "Again.bar" aBj dV fa fd):FnOk P w K mg base CX0 10 fa fd ["self","machine"] (spI K 2 iI):=by
 refine cG (k:=9) F aFh 2 2 aH1 rfl rfl λcdv A outer s H E B hr=>?_
 have nd:=aFh.nd;exact aX (bO (aM eV hr (by decide) (aC (aA 1) (aC uR aN))))
include eV in
theorem aKu(F:FunD K "bar" "Lasting.bar" wN dV fa fd):FnOk P w K mg base CX0 10 fa fd ["self","machine"] (spI K 2 fQ):=by
 refine cG (k:=9) F aBt 2 2 aCw rfl rfl λcdv A outer s H E B hr=>?_
 have nd:=aBt.nd;exact aX (bO (aM eV hr (by decide) (aC (aA 1) (aC uR aN))))
variable(tV:DefOk P w K mg base "_law_shown" 3 4 tH)
variable(fD:MethOk P w K mg base "EarlyNo" "bar" 10 2 [] dH)
variable(dX:MethOk P w K mg base "EarlyYes" "bar" 10 2 [] eQ)
variable(fG:MethOk P w K mg base "Settled" "bar" 10 2 [] eE)
variable(gW:MethOk P w K mg base "Again" "bar" 10 2 [] iI)
variable(fH:MethOk P w K mg base "Lasting" "bar" 10 2 [] fQ)
include cN c_Machine aZ bG tV fD dX fG gW fH in
theorem aFm(F:FunD K "_law_bars_right" "_law_bars_right" pF dV fa fd):FnOk P w K mg base CX0 11 fa fd ["_law_kinds","_law_machine_here","_law_steps","_law_ranks","_law_truths_here"] (spI K 5 iJ):=by
 refine cG (k:=10) F uP 5 7 uZ rfl rfl λcdv A outer s H E B hr=>?_
 have nd:=uP.nd;refine aH ?_ ?_
 .exact jN (aF3 cN (toP aR)) (bR 5 nd) (aH (by exact bY 6 (aA2 (jF (pl:=_) fD hr (by decide) (cU hr.units (toP (aA 0)) (toP (aA 5))) (aC (aA 1) aN)) (aA2 (jF (pl:=_) dX hr (by decide) (cU hr.units (toP (aA 0)) (toP (aA 5))) (aC (aA 1) aN)) (aA2 (jF (pl:=_) fG hr (by decide) (cU hr.units (toP (aA 0)) (toP (aA 5))) (aC (aA 1) aN)) (aA2 (jF (pl:=_) gW hr (by decide) (cU hr.units (toP (aA 0)) (toP (aA 5))) (aC (aA 1) aN)) (jF (pl:=_) fH hr (by decide) (cU hr.units (toP (aA 0)) (toP (aA 5))) (aC (aA 1) aN)))))) nd) (by exact aX (iY (gK (cU hr.units (toP (aA 4)) (toP (aA 5)))) (aX (iY (cA aGa aGb (toP (aA 6)) (toP aLs) (bK _)) (aX (bO uR)) dW)) (aX (iY (sV (gK (aM tV hr (by decide) (aC (aA 2) (aC (aA 3) (aC (aA 5) (aC (aA 6) aN))))))) (aX (bO uR)) dW))))) PassesOwn.never rfl
 exact aX (bO (pL (gJ (cZ hr.units) dB (toP (sW c_Machine aZ (toP (aA 1)))) (toP (aA 2)) (bK _)) (mO (gJ (cZ hr.units) dB (toP (sW c_Machine bG (toP (aA 1)))) (toP (aA 3)) (bK _)))))
include cR bV gM in
theorem aGl(F:FunD K "is_filled_list" "is_filled_list" qQ dV fa fd):FnOk P w K mg base CX0 1 fa fd ["thing","most"] (spI K 2 fM):=by
 refine cG (k:=0) F vK 2 2 qF rfl rfl λcdv A outer s H E B hr=>?_
 have nd:=vK.nd;exact aX (bO (pL (uJ ty_list bV gM (toP (aA 0))) (pL (gJ aXa aRu (toP (mH cR (toP (aA 0)))) (toP aR) (bK _)) (mO (gJ bDw aZf (toP (mH cR (toP (aA 0)))) (toP (aA 1)) (bK _))))))
variable(aBw:mg "all"=none)
include cR nY aBw in
theorem bAj(F:FunD K "is_row" "is_row" aK6 dV fa fd):FnOk P w K mg base CX0 3 fa fd ["thing","letters","rooms"] (spI K 3 aEp):=by
 refine cG (k:=2) F aM5 3 4 aIm rfl rfl λcdv A outer s H E B hr=>?_
 have nd:=aM5.nd;exact aX (bO (pL (gJ (cZ hr.units) dB (toP (mH cR (toP (aA 0)))) (toP (aA 1)) (bK _)) (mO (aUf aBw rfl (toP (qK [3] iR (.of rfl) (iQ (aA 0)) (λ_ _ _ _ _=>bR 3 nd) (λ_ _ _ _ _=>aM nY hr (by decide) (aC (aA 3) (aC (aA 2) aN))) rfl))))))
variable(jH:DefOk P w K mg base "is_filled_list" 1 2 fM)
variable(aFn:DefOk P w K mg base "is_row" 3 3 aEp)
variable{t_MOST_ROOMS:Tok}(g_MOST_ROOMS:mg "MOST_ROOMS"=some (.int 8 t_MOST_ROOMS))
variable{t_MOST_LETTERS:Tok}(g_MOST_LETTERS:mg "MOST_LETTERS"=some (.int 3 t_MOST_LETTERS))
include cR aBw jH aFn g_MOST_ROOMS g_MOST_LETTERS in
theorem aQl(F:FunD K "are_steps" "are_steps" aBk dV fa fd):FnOk P w K mg base CX0 4 fa fd ["thing"] (spI K 1 vA):=by
 refine cG (k:=3) F aFi 1 2 aAy rfl rfl λcdv A outer s H E B hr=>?_
 have nd:=aFi.nd;refine aH ?_ ?_
 .exact iY (sV (gK (aM jH hr (by decide) (aC (aA 0) (aC (aZe g_MOST_ROOMS) aN))))) (aX (bO uR)) dW
 refine aH ?_ ?_
 .exact iY (sV (gK (aUf aBw rfl (toP (qK [1] iR (.of rfl) (iQ (aA 0)) (λ_ _ _ _ _=>bR 1 nd) (λ_ _ _ _ _=>aM jH hr (by decide) (aC (aA 1) (aC (aZe g_MOST_LETTERS) aN))) rfl))))) (aX (bO uR)) dW
 exact aX (bO (aUf aBw rfl (toP (qK [1] iR (.of rfl) (iQ (aA 0)) (λ_ _ _ _ _=>bR 1 nd) (λ_ _ _ _ _=>aM aFn hr (by decide) (aC (aA 1) (aC (mH cR (toP (cU hr.units (toP (aA 0)) (toP aR)))) (aC (mH cR (toP (aA 0))) aN)))) rfl))))
include cR bV gM nW aBw in
theorem aQm(F:FunD K "are_ranks" "are_ranks" aBl dV fa fd):FnOk P w K mg base CX0 2 fa fd ["thing","rooms"] (spI K 2 vB):=by
 refine cG (k:=1) F aFj 2 3 aAz rfl rfl λcdv A outer s H E B hr=>?_
 have nd:=aFj.nd;refine aH ?_ ?_
 .exact iY (PW.pt (aRv (sV (gK (uJ ty_list bV gM (toP (aA 0))))) (aLt (cA (qL hr.units) qM (toP (mH cR (toP (aA 0)))) (toP (aA 1)) (bK _))))) (aX (bO uR)) dW
 exact aX (bO (aUf aBw rfl (toP (qK [2] iR (.of rfl) (iQ (aA 0)) (λ_ _ _ _ _=>bR 2 nd) (λ_ _ _ _ _=>pL (aM nW hr (by decide) (aC (aA 2) aN)) (mO (gJ aXa aRu (toP (aA 2)) (toP aR) (bK _)))) rfl))))
variable(vO:DefOk P w K mg base "are_steps" 4 1 vA)
variable(vP:DefOk P w K mg base "are_ranks" 2 2 vB)
include cR c_Machine cC gM aZ bG dO vO vP in
theorem aDx(F:Fun K "__init__" "Machine.__init__" fP fa fd):FnOk P w K mg base CX0 5 fa fd ["self","steps","ranks"] (spM K "Machine" 2 iG):=by
 refine bD4 (k:=4) F sZ "Machine" 2 4 iD rfl rfl λcdv A outer s H E B hr=>?_
 have nd:=sZ.nd;refine aH ?_ ?_
 .exact iY (sV (gK (aM vO hr (by decide) (aC (aA 1) aN)))) (aX yO) dW
 refine aH ?_ ?_
 .exact iY (sV (gK (aM vP hr (by decide) (aC (aA 2) (aC (mH cR (toP (aA 1))) aN))))) (aX yO) dW
 refine aH ?_ ?_
 .exact aNk 0 c_Machine aZ (qK [3] iR (.of rfl) (iQ (aA 1)) (λ_ _ _ _ _=>bR 3 nd) (λ_ _ _ _ _=>aGe gM (toP (aA 3))) rfl)
 refine aH ?_ ?_
 .exact aNk 0 c_Machine bG (aGe gM (toP (aA 2)))
 refine aH ?_ ?_
 .exact aNk 0 c_Machine cC (mH cR (toP (aA 1)))
 exact aX (aNk 0 c_Machine dO (mH cR (toP (cU hr.units (toP (aA 1)) (toP aR)))))
variable(pK:DefOk P w K mg base "_law_machine" 2 3 lB)
variable(vQ:DefOk P w K mg base "_law_kind" 1 1 uX)
variable(tW:DefOk P w K mg base "_law_goals" 1 1 tD)
variable(mF:DefOk P w K mg base "_law_all_loops" 2 2 jC)
variable(nA:DefOk P w K mg base "_law_truths" 3 3 mU)
variable(iU:DefOk P w K mg base "_law_bars_right" 11 5 iJ)
variable(xQ:MakeOk P w K mg base "Machine" 5 2 iG)
include cN fU gM fD dX fG gW fH pK vQ tW mF nA iU xQ in
theorem bJn(F:FunD K "law" "law" aF8 dV fa fd):FnOk P w K mg base CX0 12 fa fd ["_law_script"] (spI K 1 aL7):=by
 refine cG (k:=11) F bAh 1 16 bE4 rfl rfl λcdv A outer s H E B hr=>?_
 have nd:=bAh.nd;refine aH ?_ ?_
 .exact bEi (aM pK hr (by decide) (aC (aA 0) (aC aR (aC aR aN)))) (aZh rfl (vI 10 (vI 11 aRw nd) nd))
 refine aH ?_ ?_
 .exact aNl 1 [12] iR (.of rfl) (iQ (aA 11)) (λ_ _ _ _ _=>bR 12 nd) (λ_ _ _ _ _=>mY (toP (aA 12)) (toP aR)) rfl nd
 refine aH ?_ ?_
 .exact aNl 2 [13] iR (.of rfl) (aF3 cN (toP aR)) (λ_ _ _ _ _=>bR 13 nd) (λ_ _ _ _ _=>aM vQ hr (by decide) (aC (aA 13) aN)) rfl nd
 refine aH ?_ ?_
 .exact bY 3 (aZz xQ hr (by decide) (aC (qK [15] iR (.of rfl) (iQ (aA 10)) (λ_ _ _ _ _=>bR 15 nd) (λ_ _ _ _ _=>aGe gM (toP (aA 15))) rfl) (aC (aGe gM (toP (aA 11))) aN))) nd
 refine aH ?_ ?_
 .exact bY 4 (aZz xQ hr (by decide) (aC (qK [15] iR (.of rfl) (iQ (aA 10)) (λ_ _ _ _ _=>bR 15 nd) (λ_ _ _ _ _=>aGe gM (toP (aA 15))) rfl) (aC (aGe gM (toP (aA 1))) aN))) nd
 refine aH ?_ ?_
 .exact bY 5 (aM tW hr (by decide) (aC (aA 10) aN)) nd
 refine aH ?_ ?_
 .exact bY 6 (aM mF hr (by decide) (aC (aA 5) (aC (aM fU hr (by decide) (aC (aA 5) (aC aR (aC aR aN)))) aN))) nd
 refine aH ?_ ?_
 .exact bY 7 (aM nA hr (by decide) (aC (aA 5) (aC (aA 6) (aC (aA 11) aN)))) nd
 refine aH ?_ ?_
 .exact bY 8 (aM nA hr (by decide) (aC (aA 5) (aC (aA 6) (aC (aA 1) aN)))) nd
 refine aH ?_ ?_
 .exact iY (sV (gK (aM iU hr (by decide) (aC (aA 2) (aC (aA 3) (aC (aA 10) (aC (aA 11) (aC (aA 7) aN)))))))) (aX (bO uR)) dW
 refine aH ?_ ?_
 .exact aNl 9 [14] iR (.of rfl) (iQ (aA 2)) (λ_ _ _ _ _=>bR 14 nd) (λ_ _ _ _ _=>aA2 (jF (pl:=_) fD hr (by decide) (aA 14) (aC (aA 3) aN)) (aA2 (jF (pl:=_) dX hr (by decide) (aA 14) (aC (aA 3) aN)) (aA2 (jF (pl:=_) fG hr (by decide) (aA 14) (aC (aA 3) aN)) (aA2 (jF (pl:=_) gW hr (by decide) (aA 14) (aC (aA 3) aN)) (jF (pl:=_) fH hr (by decide) (aA 14) (aC (aA 3) aN)))))) rfl nd
 refine aH ?_ ?_
 .exact iY (sV (gK (aM iU hr (by decide) (aC (aA 2) (aC (aA 4) (aC (aA 10) (aC (aA 1) (aC (aA 8) aN)))))))) (aX (bO uR)) dW
 exact aX (bO (gJ (cZ hr.units) dB (toP (qK [14] iR (.of rfl) (iQ (aA 2)) (λ_ _ _ _ _=>bR 14 nd) (λ_ _ _ _ _=>aA2 (jF (pl:=_) fD hr (by decide) (aA 14) (aC (aA 3) aN)) (aA2 (jF (pl:=_) dX hr (by decide) (aA 14) (aC (aA 3) aN)) (aA2 (jF (pl:=_) fG hr (by decide) (aA 14) (aC (aA 3) aN)) (aA2 (jF (pl:=_) gW hr (by decide) (aA 14) (aC (aA 3) aN)) (jF (pl:=_) fH hr (by decide) (aA 14) (aC (aA 3) aN)))))) rfl)) (toP (aA 9)) (bK _)))
end
theorem all_mk {l : OpenLaw}  {K : Frag}    (X : K.In h) (G : h.Ns mainGlobals mg) (hfa : mg "law" = some (.ref fa))
          {f35:Addr} {od35 an35:Option Addr} {sl35:Array (Option Value)} {oc35 kV35 dc35 pm35 cd35 ct35:Value} {f59:Addr} {od59 an59:Option Addr} {sl59:Array (Option Value)} {oc59 kV59 dc59 pm59 cd59 ct59:Value} {f60:Addr} {od60 an60:Option Addr} {sl60:Array (Option Value)} {oc60 kV60 dc60 pm60 cd60 ct60:Value}
  (c_Again:ClsAt K "Again" A_Again)
  (aI3:Mk0 K A_Again)
  (c_EarlyNo:ClsAt K "EarlyNo" A_EarlyNo)
  (aCe:Mk0 K A_EarlyNo)
  (c_EarlyYes:ClsAt K "EarlyYes" A_EarlyYes)
  (zH:Mk0 K A_EarlyYes)
  (c_Lasting:ClsAt K "Lasting" A_Lasting)
  (aCg:Mk0 K A_Lasting)
  (c_Machine:ClsAt K "Machine" A_Machine)
  (x5_Machine:makesIn K A_Machine=true)
  (x6_Machine:keepIn K (.ref A_Machine)=true)
  (c_Settled:ClsAt K "Settled" A_Settled)
  (aCf:Mk0 K A_Settled)
  (w_Machine_letters:findIn K (.ref A_Machine) (Str.ofString "letters")=some none)
  (w_Machine_many:findIn K (.ref A_Machine) (Str.ofString "many")=some none)
  (w_Machine_ranks:findIn K (.ref A_Machine) (Str.ofString "ranks")=some none)
  (w_Machine_steps:findIn K (.ref A_Machine) (Str.ofString "steps")=some none)
  (D1:DA K "_law_cell" aBb)
  (D2:DA K "_law_pick" aBc)
  (D3:DA K "_law_digits" wG)
  (D4:DA K "_law_goal" aBd)
  (D5:DA K "_law_machine" uL)
  (D6:DA K "_law_kind" aBe)
  (D7:DA K "_law_goals" yQ)
  (D8:DA K "_law_close" yR)
  (D9:DA K "_law_all_loops" qP)
  (D10:DA K "_law_top" aDp)
  (D11:DA K "_law_good" aBf)
  (D12:DA K "_law_truths" wH)
  (D13:DA K "_law_is_text" uM)
  (D14:DA K "_law_led" aDq)
  (D15:DA K "_law_round" yS)
  (D16:DA K "_law_sorts" yU)
  (D17:DA K "_law_shown" yV)
  (D18:DA K "has_room" aDr)
  (D19:DA K "rooms_of" aDs)
  (D20:DA K "bits_of" aGf)
  (D21:DA K "seen_among" yW)
  (D22:DA K "all_rooms" aBg)
  (D23:DA K "seen_from" aBh)
  (D24:DA K "ranks_of_sort" rZ)
  (D25:DA K "goes_round" yX)
  (D26:DA K "parts_among" wI)
  (D27:DA K "loop_parts" yZ)
  (D28:DA K "top_rank" aDt)
  (D29:DA K "parts_topped" uN)
  (D30:DA K "loops_of_sort" sE)
  (D31:DA K "ways_from" aBi)
  (D32:DA K "rooms_reached" sH)
  (D33:DA K "is_loop" aGg)
  (D34:DA K "way_in" aK5)
  (a35:findIn K (.ref A_Machine) (Str.ofString "rooms_along")=some (some (.ref f35)))
  (e35:isFn K (.ref f35)=true)
  (l35:K.lookup f35=some ⟨oc35,od35,.func (fnOf "rooms_along" "Machine.rooms_along" (jA dG) (fK dG) (aJ dG) .none kV35 dc35 pm35 an35 cd35 ct35),sl35⟩)
  (c35:codeIn K cd35 "Machine.rooms_along"=true)
  (k35:keepIn K (.ref f35)=true)
  (D36:DA K "round_in" aDu)
  (D37:DA K "nest_of" aGh)
  (D38:DA K "is_whole" aDv)
  (D39:DA K "is_below" aDw)
  (M40:MA K A_Machine "check_room" "check_room" "Machine.check_room" lM)
  (D41:DA K "is_word" aGi)
  (M42:MA K A_Machine "check_word" "check_word" "Machine.check_word" lN)
  (M43:MA K A_Machine "after" "after" "Machine.after" sI)
  (D44:DA K "bar_behind" zA)
  (M45:MA K A_EarlyNo "bar" "bar" "EarlyNo.bar" wJ)
  (M46:MA K A_EarlyYes "bar" "bar" "EarlyYes.bar" uO)
  (D47:DA K "without_top" wK)
  (D48:DA K "is_good" aGj)
  (D49:DA K "inner_loops" wL)
  (D50:DA K "bar_within" zB)
  (M51:MA K A_Settled "bar" "bar" "Settled.bar" wM)
  (M52:MA K A_Again "bar" "bar" "Again.bar" aBj)
  (M53:MA K A_Lasting "bar" "bar" "Lasting.bar" wN)
  (D54:DA K "_law_bars_right" pF)
  (D55:DA K "is_filled_list" qQ)
  (D56:DA K "is_row" aK6)
  (D57:DA K "are_steps" aBk)
  (D58:DA K "are_ranks" aBl)
  (a59:findIn K (.ref A_Machine) (Str.ofString "__init__")=some (some (.ref f59)))
  (e59:isFn K (.ref f59)=true)
  (l59:K.lookup f59=some ⟨oc59,od59,.func (fnOf "__init__" "Machine.__init__" (jA fP) (fK fP) (aJ fP) .none kV59 dc59 pm59 an59 cd59 ct59),sl59⟩)
  (c59:codeIn K cd59 "Machine.__init__"=true)
  (k59:keepIn K (.ref f59)=true)
  (a60:nsIn K mainGlobals "law"=some (some (.ref f60)))
  (l60:K.lookup f60=some ⟨oc60,od60,.func (fnOf "law" "law" (jA aF8) (fK aF8) (aJ aF8) .none kV60 dc60 pm60 an60 cd60 ct60),sl60⟩)
  (c60:codeIn K cd60 "law"=true)
  (k60:keepIn K (.ref f60)=true)
  (v_LETTERS:nsIn K mainGlobals "LETTERS"=some (some (.str "abc" t_LETTERS)))
  (v_MOST_LETTERS:nsIn K mainGlobals "MOST_LETTERS"=some (some (.int 3 t_MOST_LETTERS)))
  (v_MOST_ROOMS:nsIn K mainGlobals "MOST_ROOMS"=some (some (.int 8 t_MOST_ROOMS)))
  (z_all:nsIn K mainGlobals "all"=some none)
  (z_bool:nsIn K mainGlobals "bool"=some none)
  (z_int:nsIn K mainGlobals "int"=some none)
  (z_isinstance:nsIn K mainGlobals "isinstance"=some none)
  (z_len:nsIn K mainGlobals "len"=some none)
  (z_list:nsIn K mainGlobals "list"=some none)
  (z_max:nsIn K mainGlobals "max"=some none)
  (z_min:nsIn K mainGlobals "min"=some none)
  (z_range:nsIn K mainGlobals "range"=some none)
  (z_set:nsIn K mainGlobals "set"=some none)
  (z_sorted:nsIn K mainGlobals "sorted"=some none)
  (z_str:nsIn K mainGlobals "str"=some none)
  (z_tuple:nsIn K mainGlobals "tuple"=some none)
  (z_zip:nsIn K mainGlobals "zip"=some none) :
  ∃fd:FuncData,(∀(s:Shared)(v:Value),BindsTo s fd ⟨[v],[]⟩ [("_law_script",v)])/\∀base:Heap,K.In base->base.Ns mainGlobals mg->FnOk l.prog w K mg base CX0 12 fa fd ["_law_script"] (spI K 1 aL7):=by
 have e:=hfa.symm.trans (mg_of X G a60);cases e;have aFk:=mg_of X G c_Again.ns;have zE:=mg_of X G c_EarlyNo.ns;have vM:=mg_of X G c_EarlyYes.ns;have zF:=mg_of X G c_Lasting.ns;have zG:=mg_of X G c_Settled.ns;have dO:mJ K A_Machine (Str.ofString "letters"):=w_Machine_letters;have cC:mJ K A_Machine (Str.ofString "many"):=w_Machine_many;have bG:mJ K A_Machine (Str.ofString "ranks"):=w_Machine_ranks;have aZ:mJ K A_Machine (Str.ofString "steps"):=w_Machine_steps;have F35:=aHz (st:=dG) l35 c35 k35;have b35:=F35.binds0 (ps:=["self","room","text"]) λ_ _ _ _ _ _=>aI0 (λ_ _ _=>rfl)
 have F59:=bFi (st:=fP) l59 c59 k59;have b59:=F59.binds (ps:=["self","steps","ranks"]) λ_ _ _ _ _ _=>aI0 (λ_ _ _=>rfl)
 have F60:=aHz (st:=aF8) l60 c60 k60;have b60:=F60.binds0 (ps:=["_law_script"]) λ_ _ _ _ _ _=>aNm (λ_=>rfl)
 have aBw:=mg_none_of X G z_all;have aNz:=mg_none_of X G z_bool;have aUv:=mg_none_of X G z_int;have bV:=mg_none_of X G z_isinstance;have cR:=mg_none_of X G z_len;have gM:=mg_none_of X G z_list;have aD9:=mg_none_of X G z_max;have aUs:=mg_none_of X G z_min;have cN:=mg_none_of X G z_range;have aUt:=mg_none_of X G z_set;have aFl:=mg_none_of X G z_sorted;have aKd:=mg_none_of X G z_str;have aI4:=mg_none_of X G z_tuple;have aUu:=mg_none_of X G z_zip;have g_LETTERS:=mg_of X G v_LETTERS;have g_MOST_LETTERS:=mg_of X G v_MOST_LETTERS;have g_MOST_ROOMS:=mg_of X G v_MOST_ROOMS;refine⟨fnOf "law" "law" (jA aF8) (fK aF8) (aJ aF8) .none kV60 dc60 pm60 an60 cd60 ct60,λs v=>.of_eq rfl,λbase _ _=>?_⟩
 have C:Ct l.prog w K mg base h:=⟨X,G⟩;have rO:=D1.ok C (aQc cR);have rP:=D2.ok C aQd;have mZ:=D3.ok C aKn;have vL:=D4.ok C (aQe aD9 aUs);have pK:=D5.ok C (aKc cR rO rP mZ vL cN);have vQ:=D6.ok C (aQf c_Again c_EarlyNo c_EarlyYes c_Lasting c_Settled aFk zE vM zF zG aCe zH aCf aI3 aCg);have tW:=D7.ok C aNr;have fU:=D8.ok C (aNs cR cN);have mF:=D9.ok C (aGk cR cN fU);have zJ:=D10.ok C (aSc cR aD9 cN);have iT:=D11.ok C (aQg zJ);have nA:=D12.ok C (aKo fU iT);have pH:=D13.ok C (aKe cR bV aKd);have lO:=D14.ok C aSd;have pI:=D15.ok C (aNt lO);have tR:=D16.ok C aNu;have tV:=D17.ok C (aNv cR iT bV lO pH pI tR aI4);have cO:=D18.ok C aSe;have bJ:=D19.ok C (aSf cN cO);have fB:=D20.ok C aWu;have jV:=D21.ok C (aNw cO bJ fB);have vN:=D22.ok C (aQh cN fB c_Machine cC gM);have lR:=D23.ok C (aQi c_Machine jV vN aZ);have nG:=D24.ok C (aHl bJ c_Machine bG aFl aUt);have tU:=D25.ok C (aNx cR bJ);have rC:=D26.ok C (aKp cO bJ fB jV tU);have fV:=D27.ok C (aNy c_Machine aZ rC);have iZ:=D28.ok C (aSg aD9 bJ c_Machine bG);have pJ:=D29.okF C (aKf bJ fB c_Machine bG fV iZ);have fC:=D30.ok C (aHm nG pJ);have lQ:=D31.ok C (aQj cR aUu g_LETTERS);have nH:=D32.okF C (aHn cN c_Machine cC gM aZ lQ);have aCh:=D33.ok C (aWv fV);have rQ:=D34.ok C (bAi cO bJ c_Machine aZ lQ);have f_Machine_rooms_along:=aAa (P:=l.prog) (w:=w) (mg:=mg) (base:=base) c_Machine aZ g_LETTERS F35;have cI:MethOkF l.prog w K mg base "Machine" "rooms_along" 1 3 [] cT:=MethOkF.of (dvs:=[]) c_Machine ⟨a35,e35,k35⟩ f_Machine_rooms_along b35 (.nil) λ_=>.nil
 have nU:=D36.ok C (aSh cO bJ c_Machine aZ g_LETTERS aCh rQ cI);have qR:=D37.ok C (aWw cO nH nU);have nW:=D38.ok C (aSi bV aUv aNz);have nY:=D39.ok C (aSj nW);have gO:=M40.ok C c_Machine (aBu c_Machine cC nY);have aCi:=D41.ok C (aWx bV aKd g_LETTERS);have gP:=M42.ok C c_Machine (aBv c_Machine aCi dO);have kW:=M43.ok C c_Machine (aHo cI gO gP);have jW:=D44.ok C (aO0 bJ rQ nU lR fC qR kW);have fD:=M45.ok C c_EarlyNo (aKq jW);have dX:=M46.ok C c_EarlyYes (aKg jW);have rD:=D47.ok C (aKr bJ fB c_Machine bG iZ);have xP:=D48.ok C (aWy iZ);have rE:=D49.ok C (aKs fV rD xP);have eV:=D50.ok C (aO1 lR fC qR rE);have fG:=M51.ok C c_Settled (aKt eV);have gW:=M52.ok C c_Again (aQk eV);have fH:=M53.ok C c_Lasting (aKu eV);have iU:=D54.ok C (aFm cN c_Machine aZ bG tV fD dX fG gW fH);have jH:=D55.ok C (aGl cR bV gM);have aFn:=D56.ok C (bAj cR nY aBw);have vO:=D57.ok C (aQl cR aBw jH aFn g_MOST_ROOMS g_MOST_LETTERS);have vP:=D58.ok C (aQm cR bV gM nW aBw);have f_Machine___init__:=aDx (P:=l.prog) (w:=w) (mg:=mg) (base:=base) cR c_Machine cC gM aZ bG dO vO vP F59;have xQ:=MakeOk.of c_Machine ⟨x5_Machine,a59,e59,x6_Machine⟩ f_Machine___init__ b59 (mg_of X G c_Machine.ns);have f_law:=bJn (P:=l.prog) (w:=w) (mg:=mg) (base:=base) cN fU gM fD dX fG gW fH pK vQ tW mF nA iU xQ F60;exact f_law
theorem bDt{q:Program} {K:Params->Frag} {as:List Addr} {t:Nat} {r:PySem.W.RowW} {d:DefRec} {kwd:List (Str×Expr)} {run:Value->List Value->Sem Value} (e:∀P,as=(K P).map (·.1)) (h:WalkO q loose XP (InK K) r d kwd run):PySem.W.WalkX q loose XP (PySem.W.X.obsZ as) (PySem.W.X.valZ K n t) r d kwd run:=
 λw s₀ s₁ mg mb G y a o pm cd doc dV kV h1 h2 h3 h4 h5 h6 args vals as' L h7 h8 h9 h10 h11=>h w s₀ s₁ mg mb G (PySem.W.InK.keeps w _ _ (PySem.W.X.z_facts e y).2.1 L.keeps) a o pm cd doc dV kV h1 h2 h3 h4 h5 h6 args vals as' h7 h8 h9 h10 h11
theorem walk{l:OpenLaw}{q:Program} {YP:World->Heap->Prop} {d:DefRec} {K:Params->Frag} (hn:l.most=some 63) (hdf:d.params.defaults=[])
  (hY:∀(w:World)(h:Heap),YP w h->(K w.params).In h)
  (hlaw:∀ns:List Int,ns.length<=63->aL7 [.lst (ns.map D.int)]=.ok (.bl true))
  (F:∀(w:World)(mg:Str->Option Value)(fa:Addr)(h:Heap),(K w.params).In h->h.Ns mainGlobals mg->mg d.name=some (.ref fa)->
   ∃fd:FuncData,(∀(s:Shared)(u:Value),BindsTo s fd ⟨[u],[]⟩ [("_law_script",u)])/\∀base:Heap,(K w.params).In base->base.Ns mainGlobals mg->FnOk l.prog w (K w.params) mg base CX0 12 fa fd ["_law_script"] (spI (K w.params) 1 aL7)) :
  WalkO q loose XP YP l.row.toRowW d [] (λf vs=>PySem.call f vs):=
 L2.walk_of (n:=63) (k:=12) (x:="_law_script") (CX:=λ_=>CX0) (sp:=λw=>spI (K w.params) 1 aL7) hn (by decide) hdf ⟨rfl,by decide,by decide⟩ hY F (λ_ _ a ns hl _ hS=>bGp hS (hlaw ns hl)) λ_ _ _ _ _ z=>z
end Pu
namespace PySem.W.Fast
def tw13764058502534356370:=0
def tw10702246334414842999:=0
def tw7237342705179438737:=0
def tw179463170620999957:=0
def tw3972714164726433692:=0
def tw12875496409742268293:=0
def tw6966521419907551875:=0
def tw11914285927379999770:=0
def tw3432140704591950538:=0
def tw16660140741466948937:=0
def tw12890946051260379861:=0
def tw6308103321514265940:=0
def tw11161820516068829418:=0
def tw10476778398564028252:=0
def tw6570907929283563011:=0
def tw18445457212451908484:=0
def tw16591466915241685950:=0
def tw6527361473636027466:=0
def tw17929317780056572439:=0
def tw14340852887166501593:=0
def tw15200487826688831734:=0
def tw17128086201591148319:=0
def tw17243112495039627106:=0
def tw14622100674163807619:=0
def tw10803831899441323202:=0
def tw11018315300163753045:=0
def tw2715837508474821830:=0
def tw6182429876880531016:=0
def tw14118926457836784227:=0
def tw15074053803255945064:=0
def tw18218723327403743069:=0
def tw15914355570671096258:=0
def tw15919840421041602074:=0
def tw13774598492774371807:=0
def tw4154735577034539184:=0
def tw16761299970435888392:=0
def tw14788818633546375849:=0
def tw18119864772936294364:=0
def tw13699294204197700940:=0
def tw3041177538631889685:=0
def tw6781605645177936028:=0
def tw3938532745522382706:=0
def tw5727523272597110279:=0
def tw2078337514028258415:=0
def tw5182629071336897968:=0
def tw17356888302480206604:=0
def tw16200546075536006560:=0
def tw15860778313835063091:=0
def tw9871241630572159344:=0
def tw15527311264790416105:=0
def tw8769405924148689220:=0
def tw14346744877385925432:=0
def tw9583451822485909546:=0
def tw8090924477324864560:=0
def tw6577364283158336806:=0
def tw13942761471444026215:=0
def tw2536970063162120551:=0
def tw7055484968951040825:=0
def tw14469027923707862218:=0
def tw812919441944892557:=0
def tw4450466301277822680:=0
def tw15654418714816522137:=0
def tw6454985221209315241:=0
def tw12432674434320265475:=0
def tw4720942750215157139:=0
def tw4053895196030418175:=0
def tw3452046771607765171:=0
def tw7445363088643775337:=0
def tw3032410772050440984:=0
def tw12874692207859604272:=0
def tw10241260037873250797:=0
def tw13159747587527054875:=0
def tw5186142151371026590:=0
def tw1182828606508543065:=0
def tw11744768538905162178:=0
def tw2384144599321911778:=0
def tw9508523191869016742:=0
def tw5371735196448637087:=0
def tw13474408425816526728:=0
def tw3305705400515899531:=0
def tw7210844941601636482:=0
def tw11767654995007648029:=0
def tw611502857188356162:=0
def tw16412436963531921731:=0
def tw16413157563221589877:=0
def tw15667899573986833596:=0
def tw7828469777114317764:=0
def tw8528073158686029123:=0
def tw1045113485197176507:=0
def tw12698515237649789670:=0
def tw3097511964511473538:=0
def tw8910883845425157449:=0
def tw609290612274638213:=0
def tw16490499804685015054:=0
def tw4233315923111034077:=0
def tw3622220624613905605:=0
def tw570792561882109217:=0
def tw12927958557115573206:=0
def tw8030763040200417347:=0
def tw4664919636926815038:=0
def tw3835519424499304176:=0
def tw4736504002771404113:=0
def tw9488401486764952777:=0
def tw8561070539989247547:=0
def tw7888374795070526769:=0
def tw17057620740775351350:=0
def tw675341516260431939:=0
def tw3286792746046856471:=0
def tw17812074442602670307:=0
def tw3431425219134299087:=0
def tw9171278421313130531:=0
def tw9168823786771084004:=0
def tw11481544213640504944:=0
def tw11950045048538598036:=0
def tw15483806313658057849:=0
def tw11297942151645163793:=0
def tw11418978931838338659:=0
def tw10553331326919035557:=0
def tw2484635241984603701:=0
def tw11101782513129623481:=0
def tw6308760867755929724:=0
def tw17739045368261599275:=0
def tw10126737228210454100:=0
end PySem.W.Fast
open PySem PySem.W PyProof.Rows
set_option maxRecDepth 100000 in
set_option maxHeartbeats 0 in
theorem PySem.Challenge.cw_looprank_k42_bars_holds : PySem.Challenge.rw_looprank_k42_bars.Holds := by
 w_on;o_law;z_head;(case hw=>w_witness2)
 k_fill
 refine Pu.bDt (λP=>by kernel_rfl) (Pu.walk (l:=PySem.Challenge.rw_looprank_k42_bars) rfl rfl (λw h Y=>Y) Pu.law_true ?F)
 case F=>
  intro w mg fa h KX G hmg;refine' Pu.all_mk KX G hmg ⟨?x_Again,?x1_Again,?x2_Again,?x3_Again,?x4_Again⟩ ⟨?x5_Again,?x7_Again,?x6_Again⟩ ⟨?x_EarlyNo,?x1_EarlyNo,?x2_EarlyNo,?x3_EarlyNo,?x4_EarlyNo⟩ ⟨?x5_EarlyNo,?x7_EarlyNo,?x6_EarlyNo⟩ ⟨?x_EarlyYes,?x1_EarlyYes,?x2_EarlyYes,?x3_EarlyYes,?x4_EarlyYes⟩ ⟨?x5_EarlyYes,?x7_EarlyYes,?x6_EarlyYes⟩ ⟨?x_Lasting,?x1_Lasting,?x2_Lasting,?x3_Lasting,?x4_Lasting⟩ ⟨?x5_Lasting,?x7_Lasting,?x6_Lasting⟩ ⟨?x_Machine,?x1_Machine,?x2_Machine,?x3_Machine,?x4_Machine⟩ ?x5_Machine ?x6_Machine ⟨?x_Settled,?x1_Settled,?x2_Settled,?x3_Settled,?x4_Settled⟩ ⟨?x5_Settled,?x7_Settled,?x6_Settled⟩ ?w_Machine_letters ?w_Machine_many ?w_Machine_ranks ?w_Machine_steps (Pu.cW ?a1 ?l1 ?c1 ?k1) (Pu.cW ?a2 ?l2 ?c2 ?k2) (Pu.cW ?a3 ?l3 ?c3 ?k3) (Pu.cW ?a4 ?l4 ?c4 ?k4) (Pu.cW ?a5 ?l5 ?c5 ?k5) (Pu.cW ?a6 ?l6 ?c6 ?k6) (Pu.cW ?a7 ?l7 ?c7 ?k7) (Pu.cW ?a8 ?l8 ?c8 ?k8) (Pu.cW ?a9 ?l9 ?c9 ?k9) (Pu.cW ?a10 ?l10 ?c10 ?k10) (Pu.cW ?a11 ?l11 ?c11 ?k11) (Pu.cW ?a12 ?l12 ?c12 ?k12) (Pu.cW ?a13 ?l13 ?c13 ?k13) (Pu.cW ?a14 ?l14 ?c14 ?k14) (Pu.cW ?a15 ?l15 ?c15 ?k15) (Pu.cW ?a16 ?l16 ?c16 ?k16) (Pu.cW ?a17 ?l17 ?c17 ?k17) (Pu.cW ?a18 ?l18 ?c18 ?k18) (Pu.cW ?a19 ?l19 ?c19 ?k19) (Pu.cW ?a20 ?l20 ?c20 ?k20) (Pu.cW ?a21 ?l21 ?c21 ?k21) (Pu.cW ?a22 ?l22 ?c22 ?k22) (Pu.cW ?a23 ?l23 ?c23 ?k23) (Pu.cW ?a24 ?l24 ?c24 ?k24) (Pu.cW ?a25 ?l25 ?c25 ?k25) (Pu.cW ?a26 ?l26 ?c26 ?k26) (Pu.cW ?a27 ?l27 ?c27 ?k27) (Pu.cW ?a28 ?l28 ?c28 ?k28) (Pu.cW ?a29 ?l29 ?c29 ?k29) (Pu.cW ?a30 ?l30 ?c30 ?k30) (Pu.cW ?a31 ?l31 ?c31 ?k31) (Pu.cW ?a32 ?l32 ?c32 ?k32) (Pu.cW ?a33 ?l33 ?c33 ?k33) (Pu.cW ?a34 ?l34 ?c34 ?k34) ?a35 ?e35 ?l35 ?c35 ?k35 (Pu.cW ?a36 ?l36 ?c36 ?k36) (Pu.cW ?a37 ?l37 ?c37 ?k37) (Pu.cW ?a38 ?l38 ?c38 ?k38) (Pu.cW ?a39 ?l39 ?c39 ?k39) (Pu.aH6 ?a40 ?e40 ?l40 ?c40 ?k40) (Pu.cW ?a41 ?l41 ?c41 ?k41) (Pu.aH6 ?a42 ?e42 ?l42 ?c42 ?k42) (Pu.aH6 ?a43 ?e43 ?l43 ?c43 ?k43) (Pu.cW ?a44 ?l44 ?c44 ?k44) (Pu.aH6 ?a45 ?e45 ?l45 ?c45 ?k45) (Pu.aH6 ?a46 ?e46 ?l46 ?c46 ?k46) (Pu.cW ?a47 ?l47 ?c47 ?k47) (Pu.cW ?a48 ?l48 ?c48 ?k48) (Pu.cW ?a49 ?l49 ?c49 ?k49) (Pu.cW ?a50 ?l50 ?c50 ?k50) (Pu.aH6 ?a51 ?e51 ?l51 ?c51 ?k51) (Pu.aH6 ?a52 ?e52 ?l52 ?c52 ?k52) (Pu.aH6 ?a53 ?e53 ?l53 ?c53 ?k53) (Pu.cW ?a54 ?l54 ?c54 ?k54) (Pu.cW ?a55 ?l55 ?c55 ?k55) (Pu.cW ?a56 ?l56 ?c56 ?k56) (Pu.cW ?a57 ?l57 ?c57 ?k57) (Pu.cW ?a58 ?l58 ?c58 ?k58) ?a59 ?e59 ?l59 ?c59 ?k59 ?a60 ?l60 ?c60 ?k60 ?v_LETTERS ?v_MOST_LETTERS ?v_MOST_ROOMS ?z_all ?z_bool ?z_int ?z_isinstance ?z_len ?z_list ?z_max ?z_min ?z_range ?z_set ?z_sorted ?z_str ?z_tuple ?z_zip
  (case x_Again|x1_Again|x2_Again|x3_Again|x4_Again|x5_Again|x7_Again|x6_Again|x_EarlyNo|x1_EarlyNo|x2_EarlyNo|x3_EarlyNo|x4_EarlyNo|x5_EarlyNo|x7_EarlyNo|x6_EarlyNo|x_EarlyYes|x1_EarlyYes|x2_EarlyYes|x3_EarlyYes|x4_EarlyYes|x5_EarlyYes|x7_EarlyYes|x6_EarlyYes=>k_is)
  (case x_Lasting|x1_Lasting|x2_Lasting|x3_Lasting|x4_Lasting|x5_Lasting|x7_Lasting|x6_Lasting|x_Machine|x1_Machine|x2_Machine|x3_Machine|x4_Machine|x5_Machine|x6_Machine|x_Settled|x1_Settled|x2_Settled|x3_Settled|x4_Settled|x5_Settled|x7_Settled|x6_Settled|w_Machine_letters=>k_is)
  (case w_Machine_many|w_Machine_ranks|w_Machine_steps|a1|l1|c1|k1|a2|l2|c2|k2|a3|l3|c3|k3|a4|l4|c4|k4|a5|l5|c5|k5|a6=>k_is)
  (case l6|c6|k6|a7|l7|c7|k7|a8|l8|c8|k8|a9|l9|c9|k9|a10|l10|c10|k10|a11|l11|c11|k11|a12=>k_is)
  (case l12|c12|k12|a13|l13|c13|k13|a14|l14|c14|k14|a15|l15|c15|k15|a16|l16|c16|k16|a17|l17|c17|k17|a18=>k_is)
  (case l18|c18|k18|a19|l19|c19|k19|a20|l20|c20|k20|a21|l21|c21|k21|a22|l22|c22|k22|a23|l23|c23|k23|a24=>k_is)
  (case l24|c24|k24|a25|l25|c25|k25|a26|l26|c26|k26|a27|l27|c27|k27|a28|l28|c28|k28|a29|l29|c29|k29|a30=>k_is)
  (case l30|c30|k30|a31|l31|c31|k31|a32|l32|c32|k32|a33|l33|c33|k33|a34|l34|c34|k34|a35|e35|l35|c35|k35=>k_is)
  (case a36|l36|c36|k36|a37|l37|c37|k37|a38|l38|c38|k38|a39|l39|c39|k39|a40|e40|l40|c40|k40|a41|l41|c41=>k_is)
  (case k41|a42|e42|l42|c42|k42|a43|e43|l43|c43|k43|a44|l44|c44|k44|a45|e45|l45|c45|k45|a46|e46|l46|c46=>k_is)
  (case k46|a47|l47|c47|k47|a48|l48|c48|k48|a49|l49|c49|k49|a50|l50|c50|k50|a51|e51|l51|c51|k51|a52|e52=>k_is)
  (case l52|c52|k52|a53|e53|l53|c53|k53|a54|l54|c54|k54|a55|l55|c55|k55|a56|l56|c56|k56|a57|l57|c57|k57=>k_is)
  (case a58|l58|c58|k58|a59|e59|l59|c59|k59|a60|l60|c60|k60|v_LETTERS|v_MOST_LETTERS|v_MOST_ROOMS|z_all|z_bool|z_int|z_isinstance|z_len|z_list|z_max|z_min=>k_is)
  (case z_range|z_set|z_sorted|z_str|z_tuple|z_zip=>k_is)
