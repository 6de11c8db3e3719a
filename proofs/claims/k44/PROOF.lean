import PyProof.Rows.All
import Wide.All
import OpenK.AllK
import Wide.FinOn
import Lean
import PyProof.EqAt
import PyProof.EqKinds
import PyProof.TupleCall
import PyProof.P3Eq
import PyProof.NeKinds
import PyProof.NsDelKeeps
import PyProof.RulesAs
import PyProof.ExcAttrAll.ValueError
import PySem.Challenge.RW_looprank_k44_early_ones
set_option Elab.async false
set_option linter.all false
set_option maxRecDepth 100000
namespace L2
open PySem PySem.Spec PyProof.Rows
abbrev Key:=Sum Int Str
def aGj:Key->Value->Bool
 |.inl k,v=>Value.isInt k v
 |.inr x,v=>Value.isStrOf x v
def bJd(w:World):Key->Int
 |.inl k=>hashInt k
 |.inr x=>hashStr w x
theorem fZ:∀{k:Key}{v:Value},aGj k v=true->(∃i t,k=Sum.inl i/\v=Value.int i t)\/(∃x t,k=Sum.inr x/\v=Value.str x t)
 |.inl i,v,h=>by
  obtain⟨t,e⟩:=Value.isInt_shape (k:=i) (v:=v) h;exact .inl ⟨i,t,rfl,e⟩
 |.inr x,v,h=>by
  obtain⟨t,e⟩:=Value.isStrOf_shape (x:=x) (v:=v) h;exact .inr ⟨x,t,rfl,e⟩
theorem aT4(i:Int)(t:Tok):aGj (.inl i) (.int i t)=true:=by simp[aGj,Value.isInt]
theorem aT5(x:Str)(t:Tok):aGj (.inr x) (.str x t)=true:=by simp[aGj,Value.isStrOf]
theorem aV7(a b:Int):decide ((Sum.inl a:Key)=Sum.inl b)=(a==b):=by
 by_cases e:a=b
 .subst e;simp
 .have h:¬ (Sum.inl a:Key)=Sum.inl b:=λq=>e (Sum.inl.inj q)
  rw[decide_eq_false h];exact(beq_eq_false_iff_ne.mpr e).symm
theorem aV8(a b:Str):decide ((Sum.inr a:Key)=Sum.inr b)=decide (a=b):=by
 by_cases e:a=b
 .subst e;simp
 .have h:¬ (Sum.inr a:Key)=Sum.inr b:=λq=>e (Sum.inr.inj q)
  rw[decide_eq_false h,decide_eq_false e]
theorem aV9(a:Int)(b:Str):decide ((Sum.inl a:Key)=Sum.inr b)=false:=decide_eq_false (λq=>nomatch q)
theorem aVa(a:Str)(b:Int):decide ((Sum.inr a:Key)=Sum.inl b)=false:=decide_eq_false (λq=>nomatch q)
def fO(prog:Program)(w:World):PySem.KeyKind prog w Key where
 is:=aGj
 hash:=bJd w
 inj:=λv a b ha hb=>by
  rcases fZ ha with ⟨i,t,rfl,rfl⟩|⟨x,t,rfl,rfl⟩
  .rcases fZ hb with ⟨j,u,rfl,e⟩|⟨y,u,rfl,e⟩
   .injection e with e1 _;rw[e1]
   .exact nomatch e
  .rcases fZ hb with ⟨j,u,rfl,e⟩|⟨y,u,rfl,e⟩
   .exact nomatch e
   .injection e with e1 _;rw[e1]
 byValue:=λk v h=>by
  rcases fZ h with ⟨i,t,rfl,rfl⟩|⟨x,t,rfl,rfl⟩ <;> rfl
 pyHash:=λhv h=>by
  rcases fZ hv with ⟨i,t,rfl,rfl⟩|⟨x,t,rfl,rfl⟩
  .exact wpAny_pyHash_int h
  .exact wpAny_pyHash_str h
 eqBool:=λhu hv h=>by
  rcases fZ hu with ⟨i,t,rfl,rfl⟩|⟨x,t,rfl,rfl⟩
  .rcases fZ hv with ⟨j,u,rfl,rfl⟩|⟨y,u,rfl,rfl⟩
   .rw[aV7]at h;exact wpAny_eqBool_int h
   .rw[aV9]at h;exact SeqAt.EqAt.int_str i t y u _ _ _ _ h
  .rcases fZ hv with ⟨j,u,rfl,rfl⟩|⟨y,u,rfl,rfl⟩
   .rw[aVa]at h;exact SeqAt.EqAt.str_int x t j u _ _ _ _ h
   .rw[aV8]at h;exact wpAny_eqBool_str h
 «strs» := λk x t v h=>by
  rcases fZ h with ⟨i,u,rfl,e⟩|⟨y,u,rfl,e⟩
  .exact nomatch e
  .injection e with e1 _
   subst e1;cases v<;>rfl
theorem aMp(prog:Program)(w:World)(i:Int)(t:Tok):(fO prog w).is (.inl i) (.int i t)=true:=aT4 i t
theorem aMq(prog:Program)(w:World)(x:Str)(t:Tok):(fO prog w).is (.inr x) (.str x t)=true:=aT5 x t
end L2
namespace L2
open PySem PySem.Spec PyProof.Rows
inductive V where
 |non|bl (b:Bool)|int (i:Int)|str (x:Str)|byt (b:Array UInt8)|flt (b:UInt64)|ref (a:Addr)|ty (n:String)
 deriving DecidableEq
def RelV:V->Value->Prop
 |.non,u=>u=Value.none
 |.bl b,u=>u=Value.bool b
 |.int i,u=>∃t,u=Value.int i t
 |.str x,u=>∃t,u=Value.str x t
 |.byt b,u=>∃t,u=Value.bytes b t
 |.flt b,u=>∃t,u=Value.float b t
 |.ref a,u=>u=Value.ref a
 |.ty n,u=>u=Value.type n
abbrev Vals:List V->List Value->Prop:=Paired RelV
theorem Vals.length{xs:List V}{us:List Value}(r:Vals xs us):xs.length=us.length:=Paired.length r
theorem Vals.get:∀{xs:List V}{us:List Value}{i:Nat}{x:V},Vals xs us->xs[i]?=some x->∃u,us[i]?=some u/\RelV x u
 |_,_,_,_,.nil,e=>by simp at e
 |_,_,0,_,.cons r _,e=>by simp at e;subst e;exact⟨_,rfl,r⟩
 |_,_,i+1,x,.cons _ t,e=>by
  obtain⟨u,h1,h2⟩:=Vals.get (i:=i) (x:=x) t (by simpa using e)
  exact⟨u,by simpa using h1,h2⟩
theorem Vals.set{x:V}{u:Value}(r:RelV x u):∀{xs:List V}{us:List Value}(i:Nat),Vals xs us->Vals (xs.set i x) (us.set i u)
 |_,_,_,.nil=>.nil
 |_,_,0,.cons _ t=>.cons r t
 |_,_,i+1,.cons q t=>.cons q (Vals.set r i t)
theorem Vals.append:∀{xs ys:List V}{us ws:List Value},Vals xs us->Vals ys ws->Vals (xs++ys) (us++ws)
 |_,_,_,_,.nil,s=>s
 |_,_,_,_,.cons r t,s=>.cons r (Vals.append t s)
theorem Vals.take:∀{xs:List V}{us:List Value}(n:Nat),Vals xs us->Vals (xs.take n) (us.take n)
 |_,_,0,_=>.nil
 |_,_,_+1,.nil=>.nil
 |_,_,n+1,.cons r t=>.cons r (Vals.take n t)
theorem Vals.drop:∀{xs:List V}{us:List Value}(n:Nat),Vals xs us->Vals (xs.drop n) (us.drop n)
 |_,_,0,r=>r
 |_,_,_+1,.nil=>.nil
 |_,_,n+1,.cons _ t=>Vals.drop n t
def vZ:Option V->Option Value->Prop
 |some v,some u=>RelV v u
 |none,none=>True
 |_,_=>False
def KV{κ:Type}:List (κ×V)->List (κ×Value)->Prop:=Paired λ(p:κ×V)(q:κ×Value)=>p.1=q.1/\RelV p.2 q.2
def kV:Key->V
 |.inl i=>.int i
 |.inr x=>.str x
inductive HO where
 |lst (xs:List V)
 |tup (xs:List V)
 |dK (kvs:List (Key×V))|dT (kvs:List (List Key×V))
 |set (S:Int->Bool) (n:Nat)
 |ins (C dx:Addr) (fs:List (Str×V))
 |own (x:Addr)
 |xd (fs:List (Str×V))
 |met (f x:Addr)
 |rng (lo hi:Int)
 |frz (o:Obj) (u:HO)
 |tbl (ps:Array Value)
 |ext (φ:Heap->Prop)
abbrev Hp:=Addr->Option HO
def upd(H:Hp)(a:Addr)(o:HO):Hp:=λb=>if b=a then some o else H b
theorem bZ{H:Hp}{a:Addr}{o:HO}:upd H a o a=some o:=by unfold upd;rw[if_pos rfl]
theorem bQ{H:Hp}{a b:Addr}{o:HO}(h:b≠a):upd H a o b=H b:=by unfold upd;rw[if_neg h]
theorem bGr{H:Hp}{a b:Addr}{o u:HO}(h:H a=some o)(h':H b=some u)(d:o≠u):a≠b:=by
 intro e;subst e;rw[h]at h';exact d (Option.some.inj h')
theorem bC{H:Hp}{a b:Addr}{o:HO}(h:H a=some o)(h':H b=none):a≠b:=by
 intro e;subst e;rw[h]at h';cases h'
section
variable(P:Program)(w:World)
def iU(H:Hp)(h:Heap)(a:Addr):HO->Prop
 |.lst xs=>xs.length<=sizeLine/\∃(its:List Value)(n:Nat),Vals xs its/\h.get? a=some {cls:=.type "list",data:=.seq its.toArray n}
 |.tup xs=>xs.length<=sizeLine/\∃its:List Value,Vals xs its/\IsTup h a its.toArray
 |.dK kvs=>kvs.length<=sizeLine/\(a==sysModules)=false/\∃vs,KV kvs vs/\h.DictOf (fO P w) a vs
 |.dT kvs=>kvs.length<=sizeLine/\(a==sysModules)=false/\∃xs:List (List Key×Addr×Value),
   Paired (λ(p:List Key×V)(q:List Key×Addr×Value)=>p.1=q.1/\H q.2.1=some (.tup (p.1.map kV))/\RelV p.2 q.2.2) kvs xs/\
   ∃o es ep,h.get? a=some o/\o.ExactDict/\o.data=.dict es ep/\es.toList=xs.map (entryOfKey (tupleKind (fO P w)))/\(xs.map (·.1)).Nodup
 |.set S n=>h.SetOf (intKind P w) a S n
 |.ins C dx fs=>H dx=some (.own a)/\fs.length<=1000/\dx≠a/\h.get? a=some (PySem.W.instObj C dx)/\
   ∃mA,h.Ns1 dx mA/\(∀f,vZ (fs.lookup f) (mA f))/\PySem.Within mA (fs.map (·.1))
 |.own _=>∃o,h.get? a=some o
 |.xd fs=>∃mA,h.Ns1 a mA/\∀f,vZ (fs.lookup f) (mA f)
 |.rng lo hi=>∃t u v,h.get? a=some {cls:=.type "range",data:=.fields #[.int lo t,.int hi u,.int 1 v]}
 |.frz o u=>h.get? a=some o/\iU H h a u
 |.tbl ps=>h.get? a=some {cls:=.none,data:=.fields ps}
 |.met f x=>h.get? a=some (PySem.W.methodObj (.ref f) (.ref x))
 |.ext φ=>φ h/\(∃o,h.get? a=some o)/\∀h1 h2:Heap,φ h1->(∀o,h1.get? a=some o->h2.get? a=some o)->φ h2
def HOk(H:Hp)(h:Heap):Prop:=∀a o,H a=some o->iU P w H h a o
end
section
variable{P:Program}{w:World}{H H':Hp}{h h':Heap}{a:Addr}{o:HO}
theorem iU.lt(x:iU P w H h a o):a<h.objs.size:=by
 cases o with
 |lst xs=>obtain⟨_,_,_,_,e⟩:=x;exact Heap.lt_size e
 |tup xs=>obtain⟨_,_,_,p⟩:=x;exact p.lt
 |dK kvs=>obtain⟨_,_,_,_,o,_,_,e,_⟩:=x;exact Heap.lt_size e
 |dT kvs=>obtain⟨_,_,_,_,o,_,_,e,_⟩:=x;exact Heap.lt_size e
 |set S n=>obtain⟨o,_,_,_,e,_⟩:=x;exact Heap.lt_size e
 |ins C dx fs=>obtain⟨_,_,_,e,_⟩:=x;exact Heap.lt_size e
 |own y=>obtain⟨_,e⟩:=x;exact Heap.lt_size e
 |xd fs=>obtain⟨_,⟨_,_,_,e,_⟩,_⟩:=x;exact Heap.lt_size e
 |rng lo hi=>obtain⟨_,_,_,e⟩:=x;exact Heap.lt_size e
 |frz ob u=>obtain⟨e,_⟩:=x;exact Heap.lt_size e
 |tbl ps=>exact Heap.lt_size (show h.get? a=some _ from x)
 |met f y=>exact Heap.lt_size (show h.get? a=some _ from x)
 |ext φ=>obtain⟨_,⟨_,e⟩,_⟩:=x;exact Heap.lt_size e
theorem Paired.mapP{α β:Type}{F G:α->β->Prop}:∀{l₁:List α}{l₂:List β},Paired F l₁ l₂->(∀a b,F a b->G a b)->Paired G l₁ l₂
 |_,_,.nil,_=>.nil
 |_,_,.cons r t,f=>.cons (f _ _ r) (Paired.mapP t f)
theorem iU.stay(x:iU P w H h a o)(k:∀b u,(b=a\/H b=some (.own a))->h.get? b=some u->h'.get? b=some u)
  (ho:∀b,H b=some (.own a)->H' b=some (.own a)) (ht:∀b xs,H b=some (.tup xs)->H' b=some (.tup xs)):iU P w H' h' a o:=by
 induction o with
 |lst xs=>obtain⟨z,its,n,r,e⟩:=x;exact⟨z,its,n,r,k _ _ (.inl rfl) e⟩
 |tup xs=>obtain⟨z,its,r,ob,e,c⟩:=x;exact⟨z,its,r,ob,k _ _ (.inl rfl) e,c⟩
 |dK kvs=>obtain⟨z,y,vs,r,ob,es,ep,e,c⟩:=x;exact⟨z,y,vs,r,ob,es,ep,k _ _ (.inl rfl) e,c⟩
 |dT kvs=>
  obtain⟨z,y,xs,r,ob,es,ep,e,c⟩:=x;exact⟨z,y,xs,Paired.mapP r λp q z=>⟨z.1,ht _ _ z.2.1,z.2.2⟩,ob,es,ep,k _ _ (.inl rfl) e,c⟩
 |set S n=>obtain⟨ob,es,ep,t,e,c⟩:=x;exact⟨ob,es,ep,t,k _ _ (.inl rfl) e,c⟩
 |ins C dx fs=>
  obtain⟨d,z,ne,e,mA,⟨od,es,ep,e2,c⟩,r⟩:=x;exact⟨ho _ d,z,ne,k _ _ (.inl rfl) e,mA,⟨od,es,ep,k _ _ (.inr d) e2,c⟩,r⟩
 |own y=>obtain⟨ob,e⟩:=x;exact⟨ob,k _ _ (.inl rfl) e⟩
 |xd fs=>obtain⟨mA,⟨od,es,ep,e,c⟩,r⟩:=x;exact⟨mA,⟨od,es,ep,k _ _ (.inl rfl) e,c⟩,r⟩
 |rng lo hi=>obtain⟨t,u,v,e⟩:=x;exact⟨t,u,v,k _ _ (.inl rfl) e⟩
 |frz ob u ih=>obtain⟨e,q⟩:=x;exact⟨k _ _ (.inl rfl) e,ih q⟩
 |tbl ps=>
  have e:h.get? a=some {cls:=.none,data:=.fields ps}:=x;show h'.get? a=some {cls:=.none,data:=.fields ps};exact k a _ (.inl rfl) e
 |met f y=>
  have e:h.get? a=some (PySem.W.methodObj (.ref f) (.ref y)):=x;show h'.get? a=some (PySem.W.methodObj (.ref f) (.ref y));exact k a _ (.inl rfl) e
 |ext φ=>obtain⟨p,⟨o,e⟩,st⟩:=x;exact⟨st _ _ p λo q=>k _ _ (.inl rfl) q,⟨o,k _ _ (.inl rfl) e⟩,st⟩
theorem HOk.lt(x:HOk P w H h)(e:H a=some o):a<h.objs.size:=(x a o e).lt
theorem HOk.fresh(x:HOk P w H h)(e:h.objs.size<=a):H a=none:=by
 cases q:H a with
 |none=>rfl
 |some u=>exact absurd (Nat.lt_of_lt_of_le (x.lt q) e) (Nat.lt_irrefl _)
theorem HOk.kept(x:HOk P w H h)(k:∀b u,h.get? b=some u->h'.get? b=some u):HOk P w H h':=λa o e=>
 (x a o e).stay (λb u _ q=>k b u q) (λ_ q=>q) λ_ _ q=>q
theorem HOk.laid(x:HOk P w H h)(k:∀b u,h.get? b=some u->h'.get? b=some u)(hp:h.objs.size<=a)(new:iU P w (upd H a o) h' a o):HOk P w (upd H a o) h':=λb u e=>by
 have hn:=x.fresh hp
 by_cases hb:b=a
 .subst hb;rw[bZ]at e;cases e;exact new
 .rw[bQ hb]at e;exact(x b u e).stay (λc v _ q=>k c v q) (λc q=>by rw[bQ (bC q hn)];exact q) λc xs q=>by rw[bQ (bC q hn)];exact q
end
def Rd(H:Hp)(a:Addr)(u:HO):Prop:=H a=some u\/∃o,H a=some (.frz o u)
theorem Rd.ok{P:Program}{w:World}{H:Hp}{h:Heap}{a:Addr}{u:HO}(r:Rd H a u)(x:HOk P w H h):iU P w H h a u:=by
 rcases r with r|⟨o,r⟩
 .exact x a u r
 .obtain⟨_,q⟩:=x a _ r;exact q
def Mut:Option HO->Prop
 |some (.lst _)=>True
 |some (.dK _)=>True
 |some (.dT _)=>True
 |some (.set _ _)=>True
 |some (.ins _ _ _)=>True
 |some (.ext _)=>True
 |_=>False
section
variable{P:Program}{w:World}{H:Hp}{h h':Heap}{x e:Addr}{o':HO}
theorem HOk.write(ok:HOk P w H h)(mu:Mut (H x))(he:e=x\/H e=some (.own x))(k:∀b u,b≠e->h.get? b=some u->h'.get? b=some u)(heo:∃u,h'.get? e=some u)
  (new:iU P w (upd H x o') h' x o'):HOk P w (upd H x o') h':=λb u q=>by
 have nown:∀c y,H c=some (.own y)->c≠x:=λc y r z=>by subst z;rw[r]at mu;exact mu
 have ntup:∀c xs,H c=some (.tup xs)->c≠x:=λc xs r z=>by subst z;rw[r]at mu;exact mu
 by_cases hb:b=x
 .subst hb;rw[bZ]at q;cases q;exact new
 .rw[bQ hb]at q
  by_cases hbe:b=e
  .have q':H b=some (.own x):=by
    rcases he with z|z
    .exact absurd (hbe.trans z) hb
    .rw[hbe];exact z
   rw[q]at q';cases q';obtain⟨v,hv⟩:=heo;exact⟨v,by rw[hbe];exact hv⟩
  .refine(ok b u q).stay (λc v hc r=>k c v ?_ r) (λc r=>by rw[bQ (nown c b r)];exact r) λc xs r=>by rw[bQ (ntup c xs r)];exact r
   rcases hc with rfl|hc
   .exact hbe
   .rintro rfl;rcases he with z|z
    .exact nown c b hc z
    .rw[hc]at z;cases z;exact hb rfl
end
structure Un(fs ex:List Addr)(H H':Hp)(h h':Heap):Prop where
 keep:∀b o,h.get? b=some o->H b=none->b∉fs->b∉ex->h'.get? b=some o
 slot:∀b o,h.get? b=some o->H b=none->b∈fs->b∉ex->∃sl,h'.get? b=some {o with slots:=sl}
 free:∀b o,h.get? b=some o->H b=none->b∉ex->H' b=none
 there:∀b o,h.get? b=some o->b∉ex->∃o',h'.get? b=some o'
 tups:∀b xs,H b=some (.tup xs)->H' b=some (.tup xs)
 frzs:∀b o u,H b=some (.frz o u)->H' b=some (.frz o u)
 tbls:∀b ps,H b=some (.tbl ps)->∃more,H' b=some (.tbl (ps++more))
section
variable{fs fs' ex ex':List Addr}{H H1 H2:Hp}{h h1 h2 h':Heap}{a x e:Addr}{o:HO}
theorem Un.any(u:Un fs ex H H1 h h1){b:Addr}{ob:Obj}(q:h.get? b=some ob)(n:H b=none)(hx:b∉ex):∃sl,h1.get? b=some {ob with slots:=sl}:=by
 by_cases hb:b∈fs
 .exact u.slot b ob q n hb hx
 .exact⟨ob.slots,u.keep b ob q n hb hx⟩
theorem Un.kept(k:∀b u,h.get? b=some u->h'.get? b=some u):Un fs ex H H h h':=
 ⟨λb ob q _ _ _=>k b ob q,λb ob q _ _ _=>⟨ob.slots,k b ob q⟩,λ_ _ _ n _=>n,λb ob q _=>⟨ob,k b ob q⟩,λ_ _ q=>q,λ_ _ _ q=>q,λ_ ps q=>⟨#[],by rw[q];simp⟩⟩
theorem Un.refl:Un fs ex H H h h:=Un.kept λ_ _ q=>q
theorem Un.laid(k:∀b u,h.get? b=some u->h'.get? b=some u)(hp:h.objs.size<=a)(hn:H a=none):Un fs ex H (upd H a o) h h' where
 keep:=λb u q _ _ _=>k b u q
 slot:=λb u q _ _ _=>⟨u.slots,k b u q⟩
 free:=λb u q n _=>by rw[bQ (Nat.ne_of_lt (Nat.lt_of_lt_of_le (Heap.lt_size q) hp))];exact n
 there:=λb u q _=>⟨u,k b u q⟩
 tups:=λb xs q=>by rw[bQ (bC q hn)];exact q
 frzs:=λb u xs q=>by rw[bQ (bC q hn)];exact q
 tbls:=λb ps q=>⟨#[],by rw[bQ (bC q hn),q];simp⟩
theorem Un.write(mu:Mut (H x))(he:e=x\/H e=some (.own x))(k:∀b u,b≠e->h.get? b=some u->h'.get? b=some u)(heo:∃u,h'.get? e=some u):Un fs ex H (upd H x o) h h':=by
 have hx:∀b,H b=none->b≠x:=λb n z=>by subst z;rw[n]at mu;exact mu
 have hb:∀b,H b=none->b≠e:=λb n z=>by
  subst z;rcases he with r|r
  .exact hx b n r
  .rw[n]at r;cases r
 have hm:∀b u,H b=some u->¬ Mut (some u)->b≠x:=λb u q nm z=>by subst z;rw[q]at mu;exact nm mu
 refine⟨λb u q n _ _=>k b u (hb b n) q,λb u q n _ _=>⟨u.slots,k b u (hb b n) q⟩,λb u q n _=>by rw[bQ (hx b n)];exact n,λb u q _=>?_,
  λb xs q=>by rw[bQ (hm b _ q λz=>z)];exact q,λb u xs q=>by rw[bQ (hm b _ q λz=>z)];exact q,λb ps q=>⟨#[],by rw[bQ (hm b _ q λz=>z),q];simp⟩⟩
 by_cases hbe:b=e
 .subst hbe;exact heo
 .exact⟨u,k b u hbe q⟩
end
def trk(h:Heap)(H:Hp):List Addr:=(List.range h.objs.size).filter λa=>(H a).isSome
def aKo(h:Heap)(H:Hp):Heap:=PySem.W.hideAll h (trk h H)
theorem aT6(h:Heap)(H:Hp):(aKo h H).objs.size=h.objs.size:=PySem.W.hideAll_size _ _
theorem aVb{h:Heap}{H:Hp}{b:Addr}{o:Obj}(e:h.get? b=some o)(n:H b=none):(aKo h H).get? b=some o:=
 PySem.W.hideAll_get _ e λhm=>by
  have q:(H b).isSome=true:=(List.mem_filter.mp hm).2;rw[n]at q;simp at q
theorem aZa{h:Heap}{H:Hp}{b:Addr}{o:Obj}(e:(aKo h H).get? b=some o):h.get? b=some o/\H b=none:=by
 have e':h.get? b=some o:=PySem.W.of_hideAll (trk h H) e;refine⟨e',?_⟩;cases q:H b with
 |none=>rfl
 |some x=>
  have hm:b∈trk h H:=List.mem_filter.mpr ⟨List.mem_range.mpr (Heap.lt_size e'),by simp[q]⟩
  have z:(aKo h H).get? b=none:=PySem.W.hideAll_none (trk h H) hm;rw[z]at e;cases e
def aZb(g h:Heap)(L:Addr):List (Addr×Obj):=(List.range h.objs.size).filterMap λa=>if a=L\/(g.get? a).isSome=true then none else (h.get? a).map λo=>(a,o)
def rest(g h:Heap)(L d:Addr):List (Addr×Obj):=(aZb g h L).filter λp=>decide (p.1≠d)
end L2
namespace L2
open PySem PySem.Spec PyProof.Rows
structure Mod(K:PySem.W.Frag)(mg:Str->Option Value)(base:Heap):Prop where
 kin:K.In base
 glob:base.Ns mainGlobals mg
 blt:∃mb,base.Ns builtinsNs mb/\∀x:Str,x≠"__name__"->mb x=bootBuiltins x
 nolimit:base.NoLimit
structure Cx where
 prog:Program
 w:World
 K:PySem.W.Frag
 mg:Str->Option Value
 base:Heap
 A:Around
 N:List Str
 s₀:Shared
 H₀:Hp
 env:Env
 outer:List Env
 stack:List Env
 ex:List Addr
 fn:Str->Bool
 calm:Bool
 pn:List (Addr×Obj)
 xe:Value->Shared->Prop
def frs(l:List Env):List Addr:=l.filterMap (·.frame)
abbrev Cx.fs(X:Cx):List Addr:=frs X.outer
def Vis(sc:Scope)(x:Str):Prop:=sc.names.lookup x=some .local\/sc.names.lookup x=some .cell\/sc.names.lookup x=some .free
def Loc(sc:Scope)(x:Str):Prop:=sc.names.lookup x=some .local\/sc.names.lookup x=some .cell
def Look(env:Env)(h:Heap)(m:Str->Option Value)(x:Str)(u:Value):Prop:=
 (env.kindOf x=some .local/\m x=some u)\/((env.kindOf x=some .cell\/env.kindOf x=some .free)/\∃c,env.cells.lookup x=some c/\h.IsCell c (some u))
structure Cx.Ok(X:Cx):Prop where
 mod:Mod X.K X.mg X.base
 kind:X.env.scope.kind=.function
 glob:X.env.globals=mainGlobals
 blt:X.env.builtins=builtinsNs
 above:X.s₀.heap.objs.size<=X.env.locals
 inj:∀x y c,X.env.cells.lookup x=some c->X.env.cells.lookup y=some c->x=y
 has:∀x,(X.env.kindOf x=some .cell\/X.env.kindOf x=some .free)->∃c,X.env.cells.lookup x=some c
 cab:∀x c,X.fn x=true->X.env.cells.lookup x=some c->X.s₀.heap.objs.size<=c
 hd:X.calm=true->X.A.handled=none
 frames:X.A.frames=some X.stack
 stk:X.stack=X.outer\/(X.stack=X.env::X.outer/\X.env.frame=some X.env.locals)
 exf:∀b∈X.ex,b≠X.env.locals/\∀x c,X.env.cells.lookup x=some c->c≠b
 bs:∀b o,X.base.get? b=some o->X.s₀.heap.get? b=some o/\X.H₀ b=none
 bsz:X.base.objs.size<=X.s₀.heap.objs.size
 noex:∀b o,X.base.get? b=some o->b∉X.ex
 exfs:∀b∈X.ex,b∉X.fs
 funs:X.s₀.heap.FunFrames X.base X.outer
 frf:∀b∈X.fs,X.H₀ b=none
structure Inv(X:Cx)(pins:List (Addr×Obj))(σ:List (Option V))(H:Hp)(s:Shared):Prop where
 ok:X.Ok
 os:s.os=X.s₀.os
 bare:AllBare s.gens
 base:Un X.fs X.ex X.H₀ H X.s₀.heap s.heap
 loc:∃m,s.heap.Ns X.env.locals m/\∀(i:Nat)(x:Str)(v:V),X.N[i]?=some x->σ[i]?=some (some v)->Vis X.env.scope x->∃u,RelV v u/\Look X.env s.heap m x u
 cell:∀x c,X.env.cells.lookup x=some c->∃v,s.heap.IsCell c v
 free:H X.env.locals=none
 freeC:∀x c,X.env.cells.lookup x=some c->H c=none
 pin:∀p∈X.pn++pins,s.heap.get? p.1=some p.2/\H p.1=none/\p.1≠X.env.locals/\p.1∉X.fs/\∀v,p.2.data≠.cell v
 hok:HOk X.prog X.w H s.heap
 len:σ.length=X.N.length
section
variable{X:Cx}{pins:List (Addr×Obj)}{σ:List (Option V)}{H H':Hp}{s:Shared}{h':Heap}
theorem Cx.Ok.nofr(ok:X.Ok){b:Addr}{o:Obj}(e:X.base.get? b=some o):b∉X.fs:=λhb=>by
 have:=(ok.funs.mem hb).1;rw[e]at this;cases this
theorem Inv.bs(I:Inv X pins σ H s):∀b o,X.base.get? b=some o->s.heap.get? b=some o/\H b=none:=λb o e=>
 ⟨I.base.keep b o (I.ok.bs b o e).1 (I.ok.bs b o e).2 (I.ok.nofr e) (I.ok.noex b o e),I.base.free b o (I.ok.bs b o e).1 (I.ok.bs b o e).2 (I.ok.noex b o e)⟩
theorem Inv.bk(I:Inv X pins σ H s):∀b o,X.base.get? b=some o->s.heap.get? b=some o:=λb o e=>(I.bs b o e).1
theorem Inv.mod(I:Inv X pins σ H s):Mod X.K X.mg X.base:=I.ok.mod
theorem Inv.kIn(I:Inv X pins σ H s):X.K.In s.heap:=I.ok.mod.kin.keeps I.bk
theorem Inv.lt(I:Inv X pins σ H s):X.env.locals<s.heap.objs.size:=let ⟨_,hn,_⟩:=I.loc;hn.lt
theorem Inv.sz(I:Inv X pins σ H s):X.s₀.heap.objs.size<=s.heap.objs.size:=Nat.le_trans I.ok.above (Nat.le_of_lt I.lt)
theorem Inv.nofs(I:Inv X pins σ H s){a:Addr}(h:s.heap.objs.size<=a):a∉X.fs:=λhb=>by
 obtain⟨_,o,ho,_⟩:=I.ok.funs.mem hb;exact absurd (Nat.lt_of_lt_of_le (Heap.lt_size ho) (Nat.le_trans I.sz h)) (Nat.lt_irrefl _)
theorem Inv.cne(I:Inv X pins σ H s):∀x c,X.env.cells.lookup x=some c->c≠X.env.locals:=λx c e z=>by
 obtain⟨v,o,ho,hd⟩:=I.cell x c e;obtain⟨m,⟨o',es,ep,ho',hd',_⟩,_⟩:=I.loc;rw[z,ho']at ho;cases ho;rw[hd']at hd;cases hd
theorem Inv.funs(I:Inv X pins σ H s):s.heap.FunFrames X.base X.outer:=by
 have all:∀(l:List Env),(∀b∈frs l,b∈X.fs)->X.s₀.heap.FunFrames X.base l->s.heap.FunFrames X.base l:=by
  intro l
  induction l with
  |nil=>intro _ _;trivial
  |cons env r ih=>
   intro hs hl;obtain⟨hk,⟨L,o,hf,hn,ho,hd⟩,hr⟩:=hl;have hL:L∈X.fs:=hs L (by unfold frs;rw[List.filterMap_cons,hf];exact List.mem_cons_self)
   obtain⟨sl,e⟩:=I.base.slot L o ho (I.ok.frf L hL) hL λz=>I.ok.exfs L z hL
   exact⟨hk,⟨L,_,hf,hn,e,hd⟩,ih (λb hb=>hs b (by unfold frs;rw[List.filterMap_cons,hf];exact List.mem_cons_of_mem _ hb)) hr⟩
 exact all X.outer (λ_ hb=>hb) I.ok.funs
theorem Inv.stack(I:Inv X pins σ H s):s.heap.FunFrames X.base X.stack:=by
 rcases I.ok.stk with e|⟨e,hf⟩
 .rw[e];exact I.funs
 .rw[e];obtain⟨m,hn,_⟩:=I.loc;refine .cons (by rw[I.ok.kind];decide) hf hn ?_ I.funs
  exact Heap.get?_none_of_le (Nat.le_trans I.ok.bsz I.ok.above)
theorem Inv.stkSub(I:Inv X pins σ H s):∀b∈frs X.stack,b∈X.env.locals::X.fs:=λb hb=>by
 rcases I.ok.stk with e|⟨e,hf⟩
 .rw[e]at hb;exact List.mem_cons_of_mem _ hb
 .rw[e]at hb;unfold frs at hb;rw[List.filterMap_cons,hf]at hb;exact hb
theorem Inv.stkFree(I:Inv X pins σ H s):∀b∈frs X.stack,H b=none:=λb hb=>by
 rcases List.mem_cons.mp (I.stkSub b hb) with e|hb
 .rw[e];exact I.free
 .obtain⟨_,o,ho,_⟩:=I.ok.funs.mem hb;exact I.base.free b o ho (I.ok.frf b hb) λz=>I.ok.exfs b z hb
theorem Inv.step{g':Array GenState}{t':Nat}{d':Drawn}{ch:List Addr}(I:Inv X pins σ H s)
  (hch:∀b∈ch,(b∈X.ex\/X.s₀.heap.objs.size<=b)/\b≠X.env.locals/\(∀x c,X.env.cells.lookup x=some c->c≠b)/\∀p∈X.pn++pins,p.1≠b)
  (keep:∀b o,b≠X.env.locals->b∉X.fs->b∉ch->s.heap.get? b=some o->H b=none->h'.get? b=some o)
  (slot:∀b o,b≠X.env.locals->b∈X.fs->b∉ch->s.heap.get? b=some o->H b=none->∃sl,h'.get? b=some {o with slots:=sl}) (free:∀b o,b∉ch->s.heap.get? b=some o->H b=none->H' b=none)
  (there:∀b o,b∉ch->s.heap.get? b=some o->∃o',h'.get? b=some o')
  (tups:∀b xs,H b=some (.tup xs)->H' b=some (.tup xs)) (frzs:∀b o u,H b=some (.frz o u)->H' b=some (.frz o u)) (tbls:∀b ps,H b=some (.tbl ps)->∃more,H' b=some (.tbl (ps++more)))
  (ns:∀m,s.heap.Ns X.env.locals m->h'.Ns X.env.locals m) (hok:HOk X.prog X.w H' h') (hg:AllBare g') :
  Inv X pins σ H' {s with heap:=h',gens:=g',drawn:=d',toks:=t'}:=by
 have neL:∀b o,X.s₀.heap.get? b=some o->b≠X.env.locals:=λb o e=>Nat.ne_of_lt (Nat.lt_of_lt_of_le (Heap.lt_size e) I.ok.above)
 have neC:∀b o,X.s₀.heap.get? b=some o->b∉X.ex->b∉ch:=λb o e hx hb=>by
  rcases (hch b hb).1 with z|z
  .exact hx z
  .exact absurd (Nat.lt_of_lt_of_le (Heap.lt_size e) z) (Nat.lt_irrefl _)
 have cellK:∀x c,X.env.cells.lookup x=some c->∀v,s.heap.IsCell c v->h'.IsCell c v:=λx c e v ⟨o,ho,hd⟩=>by
  have nch:c∉ch:=λz=>(hch c z).2.2.1 x c e rfl
  by_cases hc:c∈X.fs
  .obtain⟨sl,q⟩:=slot c o (I.cne x c e) hc nch ho (I.freeC x c e);exact⟨_,q,hd⟩
  .exact⟨o,keep c o (I.cne x c e) hc nch ho (I.freeC x c e),hd⟩
 refine⟨I.ok,I.os,hg,⟨λb o e n hb hx=>?_,λb o e n hb hx=>?_,λb o e n hx=>?_,λb o e hx=>?_,λb xs e=>tups b xs (I.base.tups b xs e),λb o xs e=>frzs b o xs (I.base.frzs b o xs e),λb ps e=>?_⟩,?_,λx c e=>?_,?_,λx c e=>?_,λp hp=>?_,hok,I.len⟩
 .exact keep b o (neL b o e) hb (neC b o e hx) (I.base.keep b o e n hb hx) (I.base.free b o e n hx)
 .obtain⟨sl,e1⟩:=I.base.slot b o e n hb hx;obtain⟨sl',e2⟩:=slot b _ (neL b o e) hb (neC b o e hx) e1 (I.base.free b o e n hx);exact⟨sl',e2⟩
 .obtain⟨o',e1⟩:=I.base.there b o e hx;exact free b o' (neC b o e hx) e1 (I.base.free b o e n hx)
 .obtain⟨o',e1⟩:=I.base.there b o e hx;exact there b o' (neC b o e hx) e1
 .obtain⟨m1,e1⟩:=I.base.tbls b ps e;obtain⟨m2,e2⟩:=tbls b _ e1;exact⟨m1++m2,by rw[e2,Array.append_assoc]⟩
 .obtain⟨m,hn,hl⟩:=I.loc;refine⟨m,ns m hn,λi x v e1 e2 e3=>?_⟩
  obtain⟨u,r,l⟩:=hl i x v e1 e2 e3;refine⟨u,r,?_⟩;rcases l with l|⟨k,c,e,z⟩
  .exact .inl l
  .exact .inr ⟨k,c,e,cellK x c e _ z⟩
 .obtain⟨v,z⟩:=I.cell x c e;exact⟨v,cellK x c e v z⟩
 .obtain⟨m,⟨o,_,_,ho,_⟩,_⟩:=I.loc;exact free _ o (λz=>(hch _ z).2.1 rfl) ho I.free
 .obtain⟨v,o,ho,hd⟩:=I.cell x c e;exact free c o (λz=>(hch c z).2.2.1 x c e rfl) ho (I.freeC x c e)
 .obtain⟨e,n,ne,nf,d⟩:=I.pin p hp;have nch:p.1∉ch:=λz=>(hch p.1 z).2.2.2 p hp rfl
  exact⟨keep p.1 p.2 ne nf nch e n,free p.1 p.2 nch e n,ne,nf,d⟩
theorem Inv.un{t':Nat}(I:Inv X pins σ H s)(u:Un X.fs [] H H' s.heap h')(hok:HOk X.prog X.w H' h'):Inv X pins σ H' {s with heap:=h',toks:=t'}:=by
 obtain⟨m,⟨o,es,ep,ho,r⟩,_⟩:=id I.loc;obtain⟨sl,hL⟩:=u.any ho I.free (by simp)
 exact I.step (g':=s.gens) (d':=s.drawn) (ch:=[]) (λ_ z=>nomatch z) (λb o _ hb _ e n=>u.keep b o e n hb (by simp)) (λb o _ hb _ e n=>u.slot b o e n hb (by simp)) (λb o _ e n=>u.free b o e n (by simp)) (λb o _ e=>u.there b o e (by simp)) u.tups u.frzs u.tbls (λm' hm=>by
  obtain⟨o',es',ep',ho',r'⟩:=hm;rw[ho]at ho';cases ho';exact⟨_,es',ep',hL,r'⟩) hok I.bare
theorem Inv.call{g':Array GenState}{t':Nat}{d':Drawn}{ch:List Addr}(I:Inv X pins σ H s)(u:Un (frs X.stack) ch H H' s.heap h')(hok:HOk X.prog X.w H' h')(hg:AllBare g')
  (hch:∀b∈ch,(b∈X.ex\/X.s₀.heap.objs.size<=b)/\b≠X.env.locals/\(∀x c,X.env.cells.lookup x=some c->c≠b)/\∀p∈X.pn++pins,p.1≠b) :
  Inv X pins σ H' {s with heap:=h',gens:=g',drawn:=d',toks:=t'}:=by
 obtain⟨m,⟨o,es,ep,ho,r⟩,_⟩:=id I.loc;obtain⟨sl,hL⟩:=u.any ho I.free λz=>(hch _ z).2.1 rfl
 exact I.step (ch:=ch) hch (λb o hL hb hc e n=>u.keep b o e n (λz=>(List.mem_cons.mp (I.stkSub b z)).elim hL hb) hc) (λb o _ _ hc e n=>u.any e n hc) (λb o hc e n=>u.free b o e n hc) (λb o hc e=>u.there b o e hc) u.tups u.frzs u.tbls (λm' hm=>by
  obtain⟨o',es',ep',ho',r'⟩:=hm;rw[ho]at ho';cases ho';exact⟨_,es',ep',hL,r'⟩) hok hg
theorem Inv.turned{t':Nat}{it:Addr}(I:Inv X pins σ H s)(k:∀b o,b≠it->s.heap.get? b=some o->h'.get? b=some o)(hn:H it=none)(hL:it≠X.env.locals)
  (h1:it∈X.ex\/X.s₀.heap.objs.size<=it) (h2:∀x c,X.env.cells.lookup x=some c->c≠it) (h3:∀p∈X.pn++pins,p.1≠it):Inv X pins σ H {s with heap:=h',toks:=t'}:=by
 have nit:∀b u,H b=some u->b≠it:=λb u e z=>by rw[z,hn]at e;cases e
 refine I.step (g':=s.gens) (d':=s.drawn) (ch:=[it]) (λb hb=>?_) (λb o _ _ hc e _=>k b o (λz=>hc (by simp[z])) e) (λb o _ _ hc e _=>⟨o.slots,k b o (λz=>hc (by simp[z])) e⟩) (λ_ _ _ _ n=>n)
  (λb o hc e=>⟨o,k b o (λz=>hc (by simp[z])) e⟩) (λ_ _ e=>e) (λ_ _ _ e=>e) (λb ps e=>⟨#[],by rw[e];simp⟩) (λm hm=>?_) (λb u e=>?_) I.bare
 .have e:b=it:=by simpa using hb
  subst e;exact⟨h1,hL,h2,h3⟩
 .obtain⟨o,es,ep,ho,r⟩:=hm;exact⟨o,es,ep,k _ o (Ne.symm hL) ho,r⟩
 .refine(I.hok b u e).stay (λc v hc q=>k c v ?_ q) (λ_ q=>q) λ_ _ q=>q
  rcases hc with z|z
  .rw[z];exact nit b u e
  .exact nit c _ z
theorem Inv.tok(I:Inv X pins σ H s)(t:Nat):Inv X pins σ H {s with toks:=t}:=I.un (h':=s.heap) (t':=t) Un.refl I.hok
theorem Inv.kept{t':Nat}(I:Inv X pins σ H s)(k:∀b u,s.heap.get? b=some u->h'.get? b=some u):Inv X pins σ H {s with heap:=h',toks:=t'}:=I.un (Un.kept k) (I.hok.kept k)
theorem Inv.laid{a:Addr}{o:HO}{t':Nat}(I:Inv X pins σ H s)(k:∀b u,s.heap.get? b=some u->h'.get? b=some u)(hp:s.heap.objs.size<=a)(new:iU X.prog X.w (upd H a o) h' a o) :
  Inv X pins σ (upd H a o) {s with heap:=h',toks:=t'}:=I.un (Un.laid k hp (I.hok.fresh hp)) (I.hok.laid k hp new)
theorem Inv.write{x e:Addr}{o:HO}{t':Nat}(I:Inv X pins σ H s)(mu:Mut (H x))(he:e=x\/H e=some (.own x))(k:∀b u,b≠e->s.heap.get? b=some u->h'.get? b=some u)(heo:∃u,h'.get? e=some u)
  (new:iU X.prog X.w (upd H x o) h' x o):Inv X pins σ (upd H x o) {s with heap:=h',toks:=t'}:=I.un (Un.write mu he k heo) (I.hok.write mu he k heo new)
theorem Inv.pins_of{pins':List (Addr×Obj)}(I:Inv X pins σ H s)(h:∀p∈pins',s.heap.get? p.1=some p.2/\H p.1=none/\p.1≠X.env.locals/\p.1∉X.fs/\∀v,p.2.data≠.cell v):Inv X pins' σ H s:=
 ⟨I.ok,I.os,I.bare,I.base,I.loc,I.cell,I.free,I.freeC,λp hp=>(List.mem_append.mp hp).elim (λz=>I.pin p (List.mem_append_left _ z)) (h p),I.hok,I.len⟩
theorem aMr{N:List Str}(hN:N.Nodup){i j:Nat}{x:Str}(a:N[i]?=some x)(b:N[j]?=some x):i=j:=by
 obtain⟨h1,e1⟩:=List.getElem?_eq_some_iff.mp a;obtain⟨h2,e2⟩:=List.getElem?_eq_some_iff.mp b;exact(List.getElem_inj hN).mp (e1.trans e2.symm)
theorem aJb{M:Model}{A:Around}{E:Value->Shared->Prop}{i:Nat}{x:Str}{v:V}{u:Value}{Q:Unit->Shared->Prop}(I:Inv X pins σ H s)(hN:X.N.Nodup)(hi:X.N[i]?=some x)(hx:Loc X.env.scope x)(r:RelV v u)
  (h:∀s',Inv X pins (σ.set i (some v)) H s'->(∃a,Heap.SameBut a s.heap s'.heap/\(a=X.env.locals\/X.env.cells.lookup x=some a))->Q () s') (hf:X.fn x=true\/X.env.scope.names.lookup x=some .local:=by first|exact .inl rfl|exact .inr rfl|assumption):wpAny M A (storeName X.env x u) Q E s:=by
 obtain⟨m,hn,hl⟩:=id I.loc;have hcls:(X.env.scope.kind == .class||(X.env.scope.kind == .module&&X.env.locals !=X.env.globals))=false:=by rw[I.ok.kind];rfl
 have hiσ:i<σ.length:=by rw[I.len];exact(List.getElem?_eq_some_iff.mp hi).1
 have cne:=I.cne;have tracked:∀{a:Addr}{h':Heap},(∃o,s.heap.get? a=some o/\H a=none)->Heap.SameBut a s.heap h'->HOk X.prog X.w H h':=λ{a h'} ha hs b ob e=>by
  obtain⟨_,_,hfree⟩:=ha;refine(I.hok b ob e).stay (λc w' hc q=>(hs.2 c ?_).trans q) (λ_ q=>q) λ_ _ q=>q
  rintro rfl;rcases hc with rfl|hc
  .rw[hfree]at e;cases e
  .rw[hfree]at hc;cases hc
 rcases hx with hk|hk
 .refine wpAny_storeName_local hk hn (λh' hn' hs=>?_) hcls
  obtain⟨oL,_,_,hoL,_⟩:=id hn;refine h _ ⟨I.ok,I.os,I.bare,⟨λb o e n hb hx=>?_,λb o e n hb hx=>?_,I.base.free,λb o e hx=>?_,I.base.tups,I.base.frzs,I.base.tbls⟩,⟨_,hn',λj y v' e1 e2 e3=>?_⟩,λy c e=>?_,I.free,I.freeC,λp hp=>?_,tracked ⟨oL,hoL,I.free⟩ hs,by simpa using I.len⟩ ⟨_,hs,.inl rfl⟩
  .exact(hs.2 b (Nat.ne_of_lt (Nat.lt_of_lt_of_le (Heap.lt_size e) I.ok.above))).trans (I.base.keep b o e n hb hx)
  .obtain⟨sl,e1⟩:=I.base.slot b o e n hb hx;exact⟨sl,(hs.2 b (Nat.ne_of_lt (Nat.lt_of_lt_of_le (Heap.lt_size e) I.ok.above))).trans e1⟩
  .obtain⟨o',e1⟩:=I.base.there b o e hx;exact⟨o',(hs.2 b (Nat.ne_of_lt (Nat.lt_of_lt_of_le (Heap.lt_size e) I.ok.above))).trans e1⟩
  .by_cases hj:j=i
   .subst hj;rw[hi]at e1;cases e1;rw[List.getElem?_set_self hiσ]at e2;cases e2;exact⟨u,r,.inl ⟨hk,by simp⟩⟩
   .rw[List.getElem?_set_ne (Ne.symm hj)]at e2;obtain⟨u',r',q⟩:=hl j y v' e1 e2 e3;refine⟨u',r',?_⟩;rcases q with ⟨k,e⟩|⟨k,c,e,z⟩
    .refine .inl ⟨k,?_⟩;have:y≠x:=λe=>hj (aMr hN e1 (e ▸ hi))
     simp[this,e]
    .exact .inr ⟨k,c,e,z.sameBut hs (cne y c e)⟩
  .obtain⟨w',z⟩:=I.cell y c e;exact⟨w',z.sameBut hs (cne y c e)⟩
  .obtain⟨e,n,ne,nf,d⟩:=I.pin p hp;exact⟨(hs.2 p.1 ne).trans e,n,ne,nf,d⟩
 .have hfn:X.fn x=true:=by
   rcases hf with z|z
   .exact z
   .rw[z]at hk;cases hk
  obtain⟨c,hc⟩:=I.ok.has x (.inl hk);obtain⟨w',z⟩:=I.cell x c hc;refine wpAny_storeName_cell I.ok.kind hk hc z (λh' hc' hs=>?_)
  obtain⟨oc,hoc,hocd⟩:=id z;refine h {s with heap:=h'} ⟨I.ok,I.os,I.bare,⟨λb o e n hb hx=>?_,λb o e n hb hx=>?_,I.base.free,λb o e hx=>?_,I.base.tups,I.base.frzs,I.base.tbls⟩,⟨m,hn.sameBut hs (Ne.symm (cne x c hc)),λj y v' e1 e2 e3=>?_⟩,λy c' e=>?_,I.free,I.freeC,λp hp=>?_,tracked ⟨oc,hoc,I.freeC x c hc⟩ hs,by simpa using I.len⟩ ⟨c,hs,.inr hc⟩
  .exact(hs.2 b (Nat.ne_of_lt (Nat.lt_of_lt_of_le (Heap.lt_size e) (I.ok.cab x c hfn hc)))).trans (I.base.keep b o e n hb hx)
  .obtain⟨sl,e1⟩:=I.base.slot b o e n hb hx;exact⟨sl,(hs.2 b (Nat.ne_of_lt (Nat.lt_of_lt_of_le (Heap.lt_size e) (I.ok.cab x c hfn hc)))).trans e1⟩
  .obtain⟨o',e1⟩:=I.base.there b o e hx;exact⟨o',(hs.2 b (Nat.ne_of_lt (Nat.lt_of_lt_of_le (Heap.lt_size e) (I.ok.cab x c hfn hc)))).trans e1⟩
  .by_cases hj:j=i
   .subst hj;rw[hi]at e1;cases e1;rw[List.getElem?_set_self hiσ]at e2;cases e2;exact⟨u,r,.inr ⟨.inl hk,c,hc,hc'⟩⟩
   .rw[List.getElem?_set_ne (Ne.symm hj)]at e2;obtain⟨u',r',q⟩:=hl j y v' e1 e2 e3;refine⟨u',r',?_⟩;rcases q with q|⟨k,c',e,z'⟩
    .exact .inl q
    .refine .inr ⟨k,c',e,z'.sameBut hs ?_⟩;rintro rfl;exact hj (aMr hN e1 (I.ok.inj _ _ _ e hc ▸ hi))
  .by_cases hcc:c'=c
   .subst hcc;exact⟨_,hc'⟩
   .obtain⟨w2,z2⟩:=I.cell y c' e;exact⟨w2,z2.sameBut hs hcc⟩
  .obtain⟨e,n,ne,nf,d⟩:=I.pin p hp;refine⟨(hs.2 p.1 ?_).trans e,n,ne,nf,d⟩;intro q;rw[q,hoc]at e;have q':oc=p.2:=Option.some.inj e;exact d w' (by rw[<-q'];exact hocd)
theorem store_ok{M:Model}{A:Around}{E:Value->Shared->Prop}{i:Nat}{x:Str}{v:V}{u:Value}{Q:Unit->Shared->Prop}(I:Inv X pins σ H s)(hN:X.N.Nodup)(hi:X.N[i]?=some x)(hx:Loc X.env.scope x)(r:RelV v u)
  (h:∀s',Inv X pins (σ.set i (some v)) H s'->Q () s') (hf:X.fn x=true\/X.env.scope.names.lookup x=some .local:=by first|exact .inl rfl|exact .inr rfl|assumption):wpAny M A (storeName X.env x u) Q E s:=
 aJb I hN hi hx r (λs' I' _=>h s' I') hf
end
abbrev XK:=Value->Option Addr->Hp->Prop
abbrev St:=List (Option V)
abbrev VK:=V->Hp->Prop
abbrev TE:=St->Hp->VK->Prop
abbrev TT:=St->Hp->(Bool->Hp->Prop)->Prop
abbrev TA:=St->Hp->(List V->Hp->Prop)->Prop
structure Ends where
 nx:St->Hp->Prop
 rt:VK
 bk:St->Hp->Prop:=λ_ _=>False
 ct:St->Hp->Prop:=λ_ _=>False
abbrev TS:=Ends->St->Hp->Prop
def EP(X:Cx)(pins:List (Addr×Obj))(σ:St)(Q:VK)(u:Value)(s':Shared):Prop:=∃v H',Inv X pins σ H' s'/\RelV v u/\Q v H'
def TP(X:Cx)(pins:List (Addr×Obj))(σ:St)(Q:Bool->Hp->Prop)(b:Bool)(s':Shared):Prop:=∃H',Inv X pins σ H' s'/\Q b H'
def AP(X:Cx)(pins:List (Addr×Obj))(σ:St)(Q:List V->Hp->Prop)(us:List Value)(s':Shared):Prop:=∃vs H',Inv X pins σ H' s'/\Vals vs us/\Q vs H'
def SP(X:Cx)(pins:List (Addr×Obj))(D:Ends)(f:Flow)(s':Shared):Prop:=
 match f with
 |.next=>∃σ' H',Inv X pins σ' H' s'/\D.nx σ' H'
 |.brk=>∃σ' H',Inv X pins σ' H' s'/\D.bk σ' H'
 |.cont=>∃σ' H',Inv X pins σ' H' s'/\D.ct σ' H'
 |.ret u=>∃v σ' H',Inv X pins σ' H' s'/\RelV v u/\D.rt v H'
def PE(X:Cx)(e:Expr)(t:TE):Prop:=
 ∀(pins:List (Addr×Obj)) (s:Shared) (σ:St) (H:Hp) (Q:VK),Inv X pins σ H s->t σ H Q->wpAny (model X.prog X.w) X.A (eval e X.env) (EP X pins σ Q) X.xe s
def PT(X:Cx)(e:Expr)(t:TT):Prop:=
 ∀(pins:List (Addr×Obj)) (s:Shared) (σ:St) (H:Hp) (Q:Bool->Hp->Prop),Inv X pins σ H s->t σ H Q->wpAny (model X.prog X.w) X.A (isTrue e X.env (eval e X.env)) (TP X pins σ Q) X.xe s
def PW(X:Cx)(e:Expr)(t:TT):Prop:=
 ∀(whole:Sem Value) (pins:List (Addr×Obj)) (s:Shared) (σ:St) (H:Hp) (Q:Bool->Hp->Prop),Inv X pins σ H s->t σ H Q->wpAny (model X.prog X.w) X.A (isTrue e X.env whole) (TP X pins σ Q) X.xe s
theorem PW.pt{X:Cx}{e:Expr}{t:TT}(h:PW X e t):PT X e t:=h _
def PA(X:Cx)(es:List Expr)(t:TA):Prop:=
 ∀(pos:Pos) (pins:List (Addr×Obj)) (s:Shared) (σ:St) (H:Hp) (Q:List V->Hp->Prop),Inv X pins σ H s->t σ H Q->wpAny (model X.prog X.w) X.A (spliced (backTo pos (starEach es X.env))) (AP X pins σ Q) X.xe s
def PS(X:Cx)(st:Stmt)(t:TS):Prop:=
 ∀(pins:List (Addr×Obj)) (s:Shared) (σ:St) (H:Hp) (D:Ends),Inv X pins σ H s->t D σ H->wpAny (model X.prog X.w) X.A (exec st X.env) (SP X pins D) X.xe s
def PSs(X:Cx)(st:List Stmt)(t:TS):Prop:=
 ∀(pins:List (Addr×Obj)) (s:Shared) (σ:St) (H:Hp) (D:Ends),Inv X pins σ H s->t D σ H->wpAny (model X.prog X.w) X.A (execs st X.env) (SP X pins D) X.xe s
theorem thn{α:Type}{t:Sem α}{Q Q':α->Shared->Prop}{M:Model}{A:Around}{E:Value->Shared->Prop}{s:Shared}(h:wpAny M A t Q E s)(hQ:∀a s,Q a s->Q' a s):wpAny M A t Q' E s:=wpAny_mono h hQ λ_ _ x=>x
end L2
namespace L2
open PySem PySem.Spec PyProof.Rows
section
variable{X:Cx}
def bGs(i:Nat):TE:=λσ H Q=>∃v,σ[i]?=some (some v)/\Q v H
def tC(v:V):TE:=λ_ H Q=>Q v H
theorem yL{i:Nat}{x:Str}{pos:Pos}(hN:X.N[i]?=some x)(hv:Vis X.env.scope x)(hd:(x==("__debug__":Str))=false:=by decide)(hcd:(x==("__classdict__":Str))=false:=by decide):PE X (.Name x pos) (bGs i):=by
 intro pins s σ H Q I h;obtain⟨v,e,h⟩:=h;obtain⟨m,hn,hl⟩:=I.loc;obtain⟨u,r,l⟩:=hl i x v hN e hv;have fin:EP X pins σ Q u s:=⟨v,H,I,r,h⟩;rcases l with ⟨hk,hm⟩|⟨hk,c,hc,hcell⟩
 .exact wpAny_Name (wpAny_loadName_local I.ok.kind hk hn hm fin) hd
 .rcases hk with hk|hk
  .exact wpAny_Name (wpAny_loadName_cell I.ok.kind hk hc hcell fin) hd
  .exact wpAny_Name (wpAny_loadName_free I.ok.kind hk hc hcell fin hcd) hd
theorem bDg{i j pos}:PE X (.Constant (.int i) j pos) (tC (.int i)):=λ_ _ _ H _ I h=>wpAny_Constant_int ⟨.int i,H,I.tok _,⟨_,rfl⟩,h⟩
theorem bGt{b j pos}:PE X (.Constant (.bool b) j pos) (tC (.bl b)):=λ_ _ _ H _ I h=>Constant_bool ⟨.bl b,H,I,rfl,h⟩
theorem bDh{j pos}:PE X (.Constant .none j pos) (tC .non):=λ_ _ _ H _ I h=>Constant_none ⟨.non,H,I,rfl,h⟩
theorem bDi{x j pos}:PE X (.Constant (.str x) j pos) (tC (.str x)):=λ_ _ _ H _ I h=>Calls.Constant_str ⟨.str x,H,I.tok _,⟨_,rfl⟩,h⟩
def Gl(X:Cx)(x:Str):Prop:=X.env.kindOf x=some .globalImplicit
theorem aG1{E:Value->Shared->Prop}{pins:List (Addr×Obj)}{s:Shared}{σ:St}{H:Hp}{x:Str}{u:Value}{pos:Pos}{Q:Value->Shared->Prop}(I:Inv X pins σ H s)(hg:Gl X x)(hm:X.mg x=some u)(h:Q u s)
  (hd:(x==("__debug__":Str))=false:=by decide):wpAny (model X.prog X.w) X.A (eval (.Name x pos) X.env) Q E s:=
 Calls.Name_function_global I.ok.kind hg (Calls.loadGlobal_global (by rw[I.ok.glob];exact I.mod.glob.keeps I.bk) hm h) hd
theorem aE4{E:Value->Shared->Prop}{pins:List (Addr×Obj)}{s:Shared}{σ:St}{H:Hp}{x:Str}{u:Value}{pos:Pos}{Q:Value->Shared->Prop}(I:Inv X pins σ H s)(hg:Gl X x)(hm:X.mg x=none)(hv:bootBuiltins x=some u)(h:Q u s)
  (hn:x≠"__name__":=by decide) (hd:(x==("__debug__":Str))=false:=by decide):wpAny (model X.prog X.w) X.A (eval (.Name x pos) X.env) Q E s:=by
 obtain⟨mb,h1,h2⟩:=I.mod.blt;exact Calls.Name_function_global I.ok.kind hg (Calls.loadGlobal_builtin (by rw[I.ok.glob];exact I.mod.glob.keeps I.bk) hm (by rw[I.ok.blt];exact h1.keeps I.bk) ((h2 x hn).trans hv) h) hd
theorem aKp{x:Str}{v:V}{u:Value}{pos:Pos}(hg:Gl X x)(hm:X.mg x=some u)(r:RelV v u)(hd:(x==("__debug__":Str))=false:=by decide):PE X (.Name x pos) (tC v):=
 λ_ _ _ H _ I h=>aG1 I hg hm ⟨v,H,I,r,h⟩ hd
theorem aZc{x:Str}{v:V}{u:Value}{pos:Pos}(hg:Gl X x)(hm:X.mg x=none)(hv:bootBuiltins x=some u)(r:RelV v u)(hn:x≠"__name__":=by decide)(hd:(x==("__debug__":Str))=false:=by decide):PE X (.Name x pos) (tC v):=
 λ_ _ _ H _ I h=>aE4 I hg hm hv ⟨v,H,I,r,h⟩ hn hd
variable{a b:Expr}{ta tb:TE}{pos:Pos}
def tB(t:TE):TT:=λσ H Q=>t σ H λx H1=>∃c,x=.bl c/\Q c H1
theorem bDj{e:Expr}{t:TE}(h:PE X e t)(he:∀whole,isTrue e X.env whole=(do let v <- whole;standAt e.pos;holding [v] (truthy v)):=by intro _;rfl):PT X e (tB t):=by
 intro pins s σ H Q I hw;refine isTrue_plain (thn (h pins s σ H _ I hw) λv s1 ⟨x,H1,I1,r1,q1⟩=>?_) (he _)
 obtain⟨d,rfl,q⟩:=q1;cases r1;exact wpAny_truthy_bool ⟨H1,I1,q⟩
variable{tA tB':TT}{rest:List Expr}
def bJe(t u:TT):TT:=λσ H Q=>t σ H λc H1=>if c=true then u σ H1 Q else Q false H1
def tOr(t u:TT):TT:=λσ H Q=>t σ H λc H1=>if c=true then Q true H1 else u σ H1 Q
def bJf(t:TT):TT:=λσ H Q=>t σ H λc H1=>Q (!c) H1
theorem aZd(ha:PT X a tA):PW X (.BoolOp .And [a] pos) tA:=by
 intro wh pins s σ H Q I h;refine isTrue_and (thn (ha pins s σ H Q I h) λc s1 e=>?_)
 cases c with
 |true=>exact isTrue_and_nil e
 |false=>exact e
theorem bDk(ha:PT X a tA):PW X (.BoolOp .Or [a] pos) tA:=by
 intro wh pins s σ H Q I h;refine isTrue_or (thn (ha pins s σ H Q I h) λc s1 e=>?_)
 cases c with
 |false=>exact isTrue_or_nil e
 |true=>exact e
theorem bDl(ha:PT X a tA)(hb:PW X (.BoolOp .And (b::rest) pos) tB'):PW X (.BoolOp .And (a::b::rest) pos) (bJe tA tB'):=by
 intro wh pins s σ H Q I h;refine isTrue_and (thn (ha pins s σ H _ I h) λc s1 ⟨H1,I1,q1⟩=>?_)
 cases c with
 |true=>exact hb wh pins s1 σ H1 Q I1 q1
 |false=>exact⟨H1,I1,q1⟩
theorem bGu(ha:PT X a tA)(hb:PW X (.BoolOp .Or (b::rest) pos) tB'):PW X (.BoolOp .Or (a::b::rest) pos) (tOr tA tB'):=by
 intro wh pins s σ H Q I h;refine isTrue_or (thn (ha pins s σ H _ I h) λc s1 ⟨H1,I1,q1⟩=>?_)
 cases c with
 |true=>exact⟨H1,I1,q1⟩
 |false=>exact hb wh pins s1 σ H1 Q I1 q1
theorem bDm(ha:PT X a tA):PT X (.UnaryOp .Not a pos) (bJf tA):=by
 intro pins s σ H Q I h;exact isTrue_not (ha pins s σ H (λc H1=>Q (!c) H1) I h)
def bGv(ta tb:TE):TE:=λσ H Q=>ta σ H λx H1=>∃c,x=.bl c/\if c=true then tb σ H1 Q else Q (.bl false) H1
def bJg(ta tb:TE):TE:=λσ H Q=>ta σ H λx H1=>∃c,x=.bl c/\if c=true then Q (.bl true) H1 else tb σ H1 Q
def bGw(ta:TE):TE:=λσ H Q=>ta σ H λx H1=>∃c,x=.bl c/\Q (.bl (!c)) H1
theorem aVc{op}{t:TE}(h:PE X a t):PE X (.BoolOp op [a] pos) t:=λpins s σ H Q I hw=>BoolOp_one (h pins s σ H Q I hw)
theorem bDn(ha:PE X a ta)(hb:PE X (.BoolOp .And (b::rest) pos) tb):PE X (.BoolOp .And (a::b::rest) pos) (bGv ta tb):=by
 intro pins s σ H Q I h;refine BoolOp_and (thn (ha pins s σ H _ I h) λv s1 ⟨x,H1,I1,r1,q1⟩=>?_)
 obtain⟨c,rfl,q1⟩:=q1;cases r1;refine wpAny_truthy_bool ?_
 cases c with
 |true=>exact hb pins s1 σ H1 Q I1 q1
 |false=>exact⟨.bl false,H1,I1,rfl,q1⟩
theorem bGx(ha:PE X a ta)(hb:PE X (.BoolOp .Or (b::rest) pos) tb):PE X (.BoolOp .Or (a::b::rest) pos) (bJg ta tb):=by
 intro pins s σ H Q I h;refine BoolOp_or (thn (ha pins s σ H _ I h) λv s1 ⟨x,H1,I1,r1,q1⟩=>?_)
 obtain⟨c,rfl,q1⟩:=q1;cases r1;refine wpAny_truthy_bool ?_
 cases c with
 |false=>exact hb pins s1 σ H1 Q I1 q1
 |true=>exact⟨.bl true,H1,I1,rfl,q1⟩
theorem bDo(ha:PE X a ta):PE X (.UnaryOp .Not a pos) (bGw ta):=by
 intro pins s σ H Q I h;refine UnaryOp_ (thn (ha pins s σ H _ I h) λv s1 ⟨x,H1,I1,r1,q1⟩=>?_)
 obtain⟨c,rfl,q1⟩:=q1;cases r1;exact not_of (wpAny_truthy_bool ⟨.bl (!c),H1,I1,rfl,q1⟩)
def tIf(t:TT)(ta tb:TE):TE:=λσ H Q=>t σ H λc H1=>if c=true then ta σ H1 Q else tb σ H1 Q
theorem aVd{c:Expr}(hc:PT X c tA)(ha:PE X a ta)(hb:PE X b tb):PE X (.IfExp c a b pos) (tIf tA ta tb):=by
 intro pins s σ H Q I h;refine wpAny_IfExp (thn (hc pins s σ H _ I h) λd s1 ⟨H1,I1,q1⟩=>?_)
 cases d with
 |true=>exact ha pins s1 σ H1 Q I1 q1
 |false=>exact hb pins s1 σ H1 Q I1 q1
end
end L2
namespace L2
open PySem PySem.Spec PyProof.Rows
def SqL(K:PySem.W.Frag)(H:Hp)(a:Addr)(xs:List V):Prop:=
 Rd H a (.lst xs)\/
  ∃(o:Obj)(its:Array Value)(n:Nat),K.lookup a=some o/\o.cls=.type "list"/\o.dict=none/\o.data=.seq its n/\its.size<=sizeLine/\Vals xs its.toList
def SqT(K:PySem.W.Frag)(H:Hp)(a:Addr)(xs:List V):Prop:=
 Rd H a (.tup xs)\/
  ∃(o:Obj)(its:Array Value)(n:Nat),K.lookup a=some o/\o.cls=.type "tuple"/\o.data=.seq its n/\its.size<=sizeLine/\Vals xs its.toList
def bJh:Value->Option V
 |.none=>some .non
 |.bool b=>some (.bl b)
 |.int i _=>some (.int i)
 |.str x _=>some (.str x)
 |.bytes b _=>some (.byt b)
 |.float b _=>some (.flt b)
 |.ref a=>some (.ref a)
 |.type n=>some (.ty n)
 |_=>none
theorem RelV.abs{x:V}{u:Value}(r:RelV x u):bJh u=some x:=by
 cases x with
 |non=>cases r;rfl
 |bl _=>cases r;rfl
 |int _=>obtain⟨t,rfl⟩:=r;rfl
 |str _=>obtain⟨t,rfl⟩:=r;rfl
 |byt _=>obtain⟨t,rfl⟩:=r;rfl
 |flt _=>obtain⟨t,rfl⟩:=r;rfl
 |ref _=>cases r;rfl
 |ty _=>cases r;rfl
theorem RelV.inj{x y:V}{u:Value}(r:RelV x u)(q:RelV y u):x=y:=Option.some.inj (r.abs.symm.trans q.abs)
theorem Vals.inj:∀{xs ys:List V}{us:List Value},Vals xs us->Vals ys us->xs=ys
 |_,_,_,.nil,.nil=>rfl
 |_,_,_,.cons r t,.cons r' t'=>by rw[r.inj r',Vals.inj t t']
section
variable{X:Cx}{pins:List (Addr×Obj)}{σ:St}{H:Hp}{s:Shared}{a:Addr}{xs ys:List V}
theorem SqL.of{K:PySem.W.Frag}(h:H a=some (.lst xs)):SqL K H a xs:=.inl (.inl h)
theorem SqT.of{K:PySem.W.Frag}(h:H a=some (.tup xs)):SqT K H a xs:=.inl (.inl h)
theorem Inv.list(I:Inv X pins σ H s)(h:SqL X.K H a xs):∃its:List Value,Vals xs its/\PlainL s.heap a its.toArray/\xs.length<=sizeLine:=by
 rcases h with h|⟨o,its,n,hk,hc,hd,hs,hz,r⟩
 .obtain⟨z,its,n,r,e⟩:=h.ok I.hok;exact⟨its,r,⟨_,n,e,rfl,rfl,rfl⟩,z⟩
 .refine⟨its.toList,r,⟨o,n,I.kIn a o hk,hc,hd,by simpa using hs⟩,?_⟩
  have e:=r.length;simp only[Array.length_toList]at e;omega
theorem Inv.tuple(I:Inv X pins σ H s)(h:SqT X.K H a xs):∃its:List Value,Vals xs its/\IsTup s.heap a its.toArray/\xs.length<=sizeLine:=by
 rcases h with h|⟨o,its,n,hk,hc,hs,hz,r⟩
 .obtain⟨z,its,r,p⟩:=h.ok I.hok;exact⟨its,r,p,z⟩
 .refine⟨its.toList,r,⟨o,I.kIn a o hk,hc,n,by simpa using hs⟩,?_⟩
  have e:=r.length;simp only[Array.length_toList]at e;omega
theorem Inv.list_inj(I:Inv X pins σ H s)(h:SqL X.K H a xs)(h':SqL X.K H a ys):xs=ys:=by
 obtain⟨its,r,⟨o,n,e,_,_,d⟩,_⟩:=I.list h;obtain⟨its',r',⟨o',n',e',_,_,d'⟩,_⟩:=I.list h';rw[e]at e';cases e';rw[d]at d';injection d' with d1 _
 have:its=its':=by simpa using congrArg Array.toList d1
 subst this;exact r.inj r'
theorem Inv.tuple_inj(I:Inv X pins σ H s)(h:SqT X.K H a xs)(h':SqT X.K H a ys):xs=ys:=by
 obtain⟨its,r,⟨o,e,_,n,d⟩,_⟩:=I.tuple h;obtain⟨its',r',⟨o',e',_,n',d'⟩,_⟩:=I.tuple h';rw[e]at e';cases e';rw[d]at d';injection d' with d1 _
 have:its=its':=by simpa using congrArg Array.toList d1
 subst this;exact r.inj r'
end
abbrev Cx.wish(X:Cx)(E:Value->Shared->Prop):Cx:={X with xe:=E}
abbrev Cx.nox(X:Cx):Cx:=X.wish λ_ _=>False
theorem Cx.Ok.wish{X:Cx}(ok:X.Ok)(E:Value->Shared->Prop):(X.wish E).Ok:=
 ⟨ok.mod,ok.kind,ok.glob,ok.blt,ok.above,ok.inj,ok.has,ok.cab,ok.hd,ok.frames,ok.stk,ok.exf,ok.bs,ok.bsz,ok.noex,ok.exfs,ok.funs,ok.frf⟩
theorem Cx.Ok.unwish{X:Cx}{E:Value->Shared->Prop}(ok:(X.wish E).Ok):X.Ok:=
 ⟨ok.mod,ok.kind,ok.glob,ok.blt,ok.above,ok.inj,ok.has,ok.cab,ok.hd,ok.frames,ok.stk,ok.exf,ok.bs,ok.bsz,ok.noex,ok.exfs,ok.funs,ok.frf⟩
section
variable{X:Cx}{pins:List (Addr×Obj)}{σ:St}{H:Hp}{s:Shared}{E:Value->Shared->Prop}
theorem Inv.wish(I:Inv X pins σ H s)(E:Value->Shared->Prop):Inv (X.wish E) pins σ H s:=⟨I.ok.wish E,I.os,I.bare,I.base,I.loc,I.cell,I.free,I.freeC,I.pin,I.hok,I.len⟩
theorem Inv.unwish(I:Inv (X.wish E) pins σ H s):Inv X pins σ H s:=⟨I.ok.unwish,I.os,I.bare,I.base,I.loc,I.cell,I.free,I.freeC,I.pin,I.hok,I.len⟩
theorem SP.unwish{D:Ends}{f:Flow}{s':Shared}(h:SP (X.wish E) pins D f s'):SP X pins D f s':=by
 cases f with
 |next=>obtain⟨σ',H',I,q⟩:=h;exact⟨σ',H',I.unwish,q⟩
 |brk=>obtain⟨σ',H',I,q⟩:=h;exact⟨σ',H',I.unwish,q⟩
 |cont=>obtain⟨σ',H',I,q⟩:=h;exact⟨σ',H',I.unwish,q⟩
 |ret u=>obtain⟨v,σ',H',I,r,q⟩:=h;exact⟨v,σ',H',I.unwish,r,q⟩
theorem PSs.nox{st:List Stmt}{t:TS}(h:PSs X.nox st t):PSs X st t:=λpins s σ H D I hw=>
 wpAny_mono (h pins s σ H D (I.wish _) hw) (λ_ _ q=>q.unwish) λ_ _ z=>False.elim z
end
section
variable{X:Cx}{st:Stmt}{rest:List Stmt}{t u:TS}{e:Expr}{te:TE}{pos:Pos}
def bGy:TS:=λD σ H=>D.nx σ H
def bJi(t u:TS):TS:=λD σ H=>t {D with nx:=u D} σ H
theorem aZe:PSs X [] bGy:=λ_ _ σ H _ I h=>wpAny_execs_nil ⟨σ,H,I,h⟩
theorem aGk(h1:PS X st t)(h2:PSs X rest u):PSs X (st::rest) (bJi t u):=by
 intro pins s σ H D I h;refine wpAny_execs_cons (thn (h1 pins s σ H {D with nx:=u D} I h) λf s1 q=>?_)
 cases f with
 |next=>
  obtain⟨σ',H',I',q⟩:=q;exact h2 pins s1 σ' H' D I' q
 |ret v=>exact q
 |brk=>exact q
 |cont=>exact q
theorem aKq(h1:PS X st t):PSs X [st] t:=by
 intro pins s σ H D I h;refine wpAny_execs_cons (thn (h1 pins s σ H D I h) λf s1 q=>?_)
 cases f with
 |next=>exact wpAny_execs_nil q
 |ret v=>exact q
 |brk=>exact q
 |cont=>exact q
theorem Inv.quiet{pins:List (Addr×Obj)}{σ:St}{H:Hp}{s:Shared}(I:Inv X pins σ H s):interactive X.env=false:=by simp[interactive,I.ok.kind]
def bGz(te:TE):TS:=λD σ H=>te σ H λ_ H1=>D.nx σ H1
theorem aKr(he:PE X e te)(hs:swapsWith e none pos.line X.env=pure false:=by rfl):PS X (.Expr e pos) (bGz te):=by
 intro pins s σ H D I h;exact wpAny_Expr_any (thn (he pins s σ H _ I h) λv s1 ⟨x,H1,I1,r1,q1⟩=>⟨σ,H1,I1,q1⟩) I.quiet hs
def bJj(te:TE):TS:=λD σ H=>te σ H D.rt
theorem aP9(he:PE X e te):PS X (.Return (some e) pos) (bJj te):=by
 intro pins s σ H D I h;exact wpAny_Return_some (thn (he pins s σ H _ I h) λv s1 ⟨x,H1,I1,r1,q1⟩=>⟨x,σ,H1,I1,r1,q1⟩)
def bJk(c:TT)(t u:TS):TS:=λD σ H=>c σ H λb H1=>if b=true then t D σ H1 else u D σ H1
theorem bH0{c:Expr}{a b:List Stmt}{tc:TT}(hc:PT X c tc)(ha:PSs X a t)(hb:PSs X b u):PS X (.If c a b pos) (bJk tc t u):=by
 intro pins s σ H D I h;refine wpAny_If (thn (hc pins s σ H _ I h) λd s1 ⟨H1,I1,q1⟩=>?_)
 cases d with
 |true=>exact ha pins s1 σ H1 D I1 q1
 |false=>exact hb pins s1 σ H1 D I1 q1
end
abbrev TG:=V->St->Hp->(St->Hp->Prop)->Prop
abbrev TGs:=List V->St->Hp->(St->Hp->Prop)->Prop
def PG(X:Cx)(target:Expr)(t:TG):Prop:=
 ∀(pins:List (Addr×Obj)) (s:Shared) (σ:St) (H:Hp) (v:V) (u:Value) (Q:St->Hp->Prop),Inv X pins σ H s->RelV v u->t v σ H Q->
  wpAny (model X.prog X.w) X.A (assign target X.env u) (λ_ s'=>∃σ' H',Inv X pins σ' H' s'/\Q σ' H') X.xe s
def PGs(X:Cx)(ts:List Expr)(t:TGs):Prop:=
 ∀(pins:List (Addr×Obj)) (s:Shared) (σ:St) (H:Hp) (vs:List V) (us:List Value) (Q:St->Hp->Prop),Inv X pins σ H s->Vals vs us->t vs σ H Q->
  wpAny (model X.prog X.w) X.A (assignInOrder ((assignEach ts X.env).map (·.2)) us) (λ_ s'=>∃σ' H',Inv X pins σ' H' s'/\Q σ' H') X.xe s
abbrev bDp:=V->V->V->Hp->(Hp->Prop)->Prop
def bH1(X:Cx)(t:bDp):Prop:=
 ∀(pins:List (Addr×Obj)) (s:Shared) (σ:St) (H:Hp) (o i v:V) (ov iv u:Value) (Q:Hp->Prop),Inv X pins σ H s->RelV o ov->RelV i iv->RelV v u->t o i v H Q->
  wpAny (model X.prog X.w) X.A (setItem ov iv u) (λ_ s'=>∃H',Inv X pins σ H' s'/\Q H') X.xe s
section
variable{X:Cx}{pos:Pos}
def bCn(i:Nat):TG:=λv σ H Q=>Q (σ.set i (some v)) H
theorem aZf{i:Nat}{x:Str}(hN:X.N.Nodup)(hi:X.N[i]?=some x)(hx:Loc X.env.scope x)(hf:X.fn x=true\/X.env.scope.names.lookup x=some .local:=by first|exact .inl rfl|exact .inr rfl|assumption):PG X (.Name x pos) (bCn i):=by
 intro pins s σ H v u Q I r h;exact wpAny_assign_Name (store_ok I hN hi hx r (λs' I'=>⟨_,H,I',h⟩) hf)
def bJl:TGs:=λvs σ H Q=>vs=[]/\Q σ H
def bH2(t:TG)(u:TGs):TGs:=λvs σ H Q=>∃v r,vs=v::r/\t v σ H λσ' H'=>u r σ' H' Q
theorem aZg:PGs X [] bJl:=by
 intro pins s σ H vs us Q I r h;obtain⟨e,h⟩:=h;subst e;cases r;exact assignInOrder_nil ⟨σ,H,I,h⟩
theorem aVe{e:Expr}{es:List Expr}{t:TG}{u:TGs}(h1:PG X e t)(h2:PGs X es u)
  (hs:(assignEach (e::es) X.env).map (·.2)=assign e X.env::(assignEach es X.env).map (·.2):=by rfl):PGs X (e::es) (bH2 t u):=by
 intro pins s σ H vs us Q I r h;obtain⟨v,vr,e1,h⟩:=h;subst e1;cases r with
 |cons r rr=>
  rw[hs];refine assignInOrder_cons (thn (h1 pins s σ H _ _ _ I r h) λ_ s1 ⟨σ1,H1,I1,q1⟩=>?_)
  exact h2 pins s1 σ1 H1 _ _ Q I1 rr q1
def bJm(K:PySem.W.Frag)(n:Nat)(t:TGs):TG:=λv σ H Q=>∃a xs,v=.ref a/\SqT K H a xs/\xs.length=n/\t xs σ H Q
theorem bDq{es:List Expr}{k:Nat}{t:TGs}{n:Nat}(hc:X.calm=true)(h:PGs X es t)
  (hn:(assignEach es X.env).length=n:=by rfl) (hst:(assignEach es X.env).findIdx? (·.1)=none:=by rfl):PG X (.Tuple es k pos) (bJm X.K n t):=by
 intro pins s σ H v u Q I r hw;obtain⟨a,xs,e1,hq,hl,hw⟩:=hw;subst e1;cases r;obtain⟨its,rv,ht,hz⟩:=I.tuple hq;refine assign_Tuple_tuple (I.ok.hd hc) ht (by simp[hn,<-hl,rv.length]) hst λh' hx=>?_
 have I1:Inv X pins σ H {s with heap:=h'}:=I.kept (t':=s.toks) λb o e=>hx b o (Nat.ne_of_lt (Heap.lt_size e)) e
 exact h pins _ σ H xs _ Q I1 (by simpa using rv) hw
def bJn(to ti:TE)(t:bDp):TG:=λv σ H Q=>to σ H λo H1=>ti σ H1 λi H2=>t o i v H2 λH3=>Q σ H3
theorem bDr{o i:Expr}{to ti:TE}{t:bDp}(ho:PE X o to)(hi:PE X i ti)(hs:bH1 X t)
  (ha:∀v,assign (.Subscript o i pos) X.env v=(do
   let ov <- holding [v] (eval o X.env);let iv <- holding [v,ov] (eval i X.env)
   standAt pos
   holding [v,ov,iv] (setItem ov iv v)
   release [v,ov,iv] []):=by intro _;rfl):PG X (.Subscript o i pos) (bJn to ti t):=by
 intro pins s σ H v u Q I r h;rw[ha];refine wpAny_bind (wpAny_holding (thn (ho pins s σ H _ I h) λov s1 ⟨x,H1,I1,r1,q1⟩=>?_))
 refine wpAny_bind (wpAny_holding (thn (hi pins s1 σ H1 _ I1 q1) λiv s2 ⟨y,H2,I2,r2,q2⟩=>?_))
 refine wpAny_bind (wpAny_standAt (wpAny_bind (wpAny_holding (thn (hs pins s2 σ H2 x y v ov iv u _ I2 r1 r2 r q2) λ_ s3 ⟨H3,I3,q3⟩=>?_))))
 exact wpAny_release ⟨σ,H3,I3,q3⟩
def bH3(te:TE)(g:TG):TS:=λD σ H=>te σ H λx H1=>g x σ H1 D.nx
theorem aVf{tg e:Expr}{te:TE}{g:TG}(he:PE X e te)(hg:PG X tg g)(hs:swapsWithSole [tg] e pos.line X.env=pure false:=by rfl)(hw:swappedStores [tg] e X.env=pure none:=by rfl)
  (h1:(assignEach [tg] X.env).map (·.2)=[assign tg X.env]:=by rfl):PS X (.Assign [tg] e pos) (bH3 te g):=by
 intro pins s σ H D I h;refine wpAny_Assign_stores (thn (he pins s σ H _ I h) λv s1 ⟨x,H1,I1,r1,q1⟩=>?_) hs hw
 rw[h1];exact thn (hg pins s1 σ H1 x v _ I1 r1 q1) λ_ s2 q=>q
theorem aKs{i:Nat}{x:Str}{e:Expr}{te:TE}{pos':Pos}(hN:X.N.Nodup)(hi:X.N[i]?=some x)(hx:Loc X.env.scope x)(he:PE X e te)(hs:swapsWith e (some (.Name x pos')) pos.line X.env=pure false:=by rfl)(hf:X.fn x=true\/X.env.scope.names.lookup x=some .local:=by first|exact .inl rfl|exact .inr rfl|assumption) :
  PS X (.Assign [.Name x pos'] e pos) (bH3 te (bCn i)):=by
 intro pins s σ H D I h;refine wpAny_Assign_Name (thn (he pins s σ H _ I h) λv s1 ⟨y,H1,I1,r1,q1⟩=>?_) hs
 exact store_ok I1 hN hi hx r1 (λs2 I2=>⟨_,H1,I2,q1⟩) hf
end
section
variable{X:Cx}{pos:Pos}
def bDs(c:TT)(tb:TS):TS:=λD σ H=>∃W:Nat->St->Hp->Prop,(∃m,W m σ H)/\∀m σ H,W m σ H->
 c σ H λb H1=>if b=true then ∃N:St->Hp->Prop,(∀σ' H',N σ' H'->∃m',m' < m/\W m' σ' H')/\tb {D with nx:=N,ct:=N,bk:=D.nx} σ H1 else D.nx σ H1
theorem aVg{c:Expr}{body:List Stmt}{tc:TT}{tb:TS}(hp:PassesOwn (model X.prog X.w) X.A X.env X.xe)(hc:PT X c tc)(hb:PSs X body tb):PS X (.While c body [] pos) (bDs tc tb):=by
 intro pins s σ H D I h;obtain⟨W,⟨m0,w0⟩,turn⟩:=h;refine wpAny_While (codeAny_whileLoop (λn s'=>∃σ' H',Inv X pins σ' H' s'/\W n σ' H') ?_ m0 ⟨σ,H,I,w0⟩)
 rintro n s1 ⟨σ1,H1,I1,w1⟩;refine wpAny_passesOwn hp (thn (hc pins s1 σ1 H1 _ I1 (turn n σ1 H1 w1)) λb s2 ⟨H2,I2,q2⟩=>?_)
 cases b with
 |true=>
  obtain⟨N,hN,q2⟩:=q2;rw[if_pos rfl];refine wpAny_passesOwn hp (thn (hb pins s2 σ1 H2 _ I2 q2) λf s3 q3=>?_)
  cases f with
  |next=>
   obtain⟨σ3,H3,I3,n3⟩:=q3;obtain⟨m',hm,w3⟩:=hN σ3 H3 n3;exact⟨m',hm,σ3,H3,I3,w3⟩
  |cont=>
   obtain⟨σ3,H3,I3,n3⟩:=q3;obtain⟨m',hm,w3⟩:=hN σ3 H3 n3;exact⟨m',hm,σ3,H3,I3,w3⟩
  |brk=>exact q3
  |ret v=>exact q3
 |false=>
  rw[if_neg Bool.false_ne_true];exact wpAny_execs_nil ⟨σ1,H2,I2,q2⟩
end
structure It where
 go:Nat->Hp->Prop
 yld:Nat->Hp->V->Hp->Prop
 stop:Nat->Hp->Prop
def aCh(X:Cx)(pins:List (Addr×Obj))(H:Hp)(b:Addr):Prop:=
 H b=none/\b≠X.env.locals/\b∉X.fs/\(b∈X.ex\/X.s₀.heap.objs.size<=b)/\(∀x c,X.env.cells.lookup x=some c->c≠b)/\∀p∈X.pn++pins,p.1≠b
theorem Inv.fpOk{X:Cx}{pins:List (Addr×Obj)}{σ:St}{H H':Hp}{s:Shared}{b:Addr}(I:Inv X pins σ H s)(hb:s.heap.objs.size<=b)(hn:H' b=none):aCh X pins H' b:=by
 refine⟨hn,Nat.ne_of_gt (Nat.lt_of_lt_of_le I.lt hb),I.nofs hb,.inr (Nat.le_trans I.sz hb),λx c e z=>?_,λp hp z=>?_⟩
 .obtain⟨v,q⟩:=I.cell x c e;exact absurd (Nat.lt_of_lt_of_le q.lt (by rw[z];exact hb)) (Nat.lt_irrefl _)
 .exact absurd (Nat.lt_of_lt_of_le (Heap.lt_size (I.pin p hp).1) (by rw[z];exact hb)) (Nat.lt_irrefl _)
structure Turn(P:Program)(w:World)(K:PySem.W.Frag)(tg:Expr)(J:It)(fp:List Addr)(it:Addr)(tn:Nat->Heap->Prop):Prop where
 mem:it∈fp
 obj:∀i h,tn i h->∀b∈fp,∃o,h.get? b=some o/\∀v,o.data≠.cell v
 keep:∀i h h',tn i h->(∀b∈fp,∀o,h.get? b=some o->h'.get? b=some o)->tn i h'
 item:∀(X:Cx),X.prog=P->X.w=w->X.K=K->X.calm=true->∀(i:Nat) (pins:List (Addr×Obj)) (s:Shared) (σ:St) (H:Hp) (E:Value->Shared->Prop),Inv X pins σ H s->(∀b∈fp,aCh X pins H b)->tn i s.heap->J.go i H->
  wpAny (model P w) X.A (pyNext (.ref it)) (λr s1=>∃u,r=some u/\
   wpAny (model P w) X.A (letOwnedTupleGo tg (.ref it) u) (λ_ s2=>∃x H',Inv X pins σ H' s2/\RelV x u/\J.yld i H x H'/\tn (i+1) s2.heap/\∀b∈fp,H' b=none) E s1) E s
 done:∀(X:Cx),X.prog=P->X.w=w->X.K=K->X.calm=true->∀(i:Nat) (pins:List (Addr×Obj)) (s:Shared) (σ:St) (H:Hp) (E:Value->Shared->Prop),Inv X pins σ H s->(∀b∈fp,aCh X pins H b)->tn i s.heap->J.stop i H->
  wpAny (model P w) X.A (pyNext (.ref it)) (λr s1=>r=none/\Inv X pins σ H s1) E s
 self:∀(A:Around)(i:Nat)(s:Shared)(Q:Value->Shared->Prop)(E:Value->Shared->Prop),tn i s.heap->Q (.ref it) s->wpAny (model P w) A (pyIter (.ref it)) Q E s
abbrev TI:=St->Hp->(It->Hp->Prop)->Prop
def PIE(X:Cx)(pins:List (Addr×Obj))(σ:St)(tg:Expr)(R:It->Hp->Prop)(itv:Value)(s2:Shared):Prop:=
 ∃(it:Addr)(fp:List Addr)(tn:Nat->Heap->Prop)(J:It)(H':Hp),itv=.ref it/\Inv X pins σ H' s2/\Turn X.prog X.w X.K tg J fp it tn/\tn 0 s2.heap/\(∀b∈fp,aCh X pins H' b)/\R J H'
def PI(X:Cx)(tg iter:Expr)(wi:TI):Prop:=
 ∀(pins:List (Addr×Obj)) (s:Shared) (σ:St) (H:Hp) (R:It->Hp->Prop),Inv X pins σ H s->wi σ H R->
  wpAny (model X.prog X.w) X.A (eval iter X.env) (λv s1=>wpAny (model X.prog X.w) X.A (pyIter v) (PIE X pins σ tg R) X.xe s1) X.xe s
theorem aQv{M:Model}{A:Around}{E:Value->Shared->Prop}{s:Shared}{tg:Expr}{it:Addr}{u:Value}{o:Obj}{n:String}{vs:Array Value}{Q:Unit->Shared->Prop}(ho:s.heap.get? it=some o)(hc:o.cls=.type n)(hd:o.data=.fields vs)
  (hn:["enumerate","zip","dict_itemiterator","dict_reverseitemiterator","odict_iterator","itertools.zip_longest","itertools.pairwise"].contains n=false) (hQ:Q () s):wpAny M A (letOwnedTupleGo tg (.ref it) u) Q E s:=by
 unfold letOwnedTupleGo;cases tg<;>first
  |exact wpAny_pure hQ
  |(cases u<;>first
    |exact wpAny_pure hQ
    | (refine wpAny_bind (wpAny_load ho ?_)
       rw[hc,hd];show wpAny M A (if (["enumerate","zip","dict_itemiterator","dict_reverseitemiterator","odict_iterator","itertools.zip_longest","itertools.pairwise"].contains n&&vs[0]?==some (rawInt _))=true then _ else _) Q E s
       rw[if_neg (by intro h;rw[hn,Bool.false_and]at h;cases h)]
       exact wpAny_pure hQ))
def Itl(K:PySem.W.Frag)(a:Addr):It:=
 ⟨λi H=>∃xs x,SqL K H a xs/\xs[i]?=some x,λi H x H'=>H'=H/\∀xs,SqL K H a xs->xs[i]?=some x,λi H=>∃xs,SqL K H a xs/\xs.length<=i⟩
def Itt(K:PySem.W.Frag)(a:Addr):It:=
 ⟨λi H=>∃xs x,SqT K H a xs/\xs[i]?=some x,λi H x H'=>H'=H/\∀xs,SqT K H a xs->xs[i]?=some x,λi H=>∃xs,SqT K H a xs/\xs.length<=i⟩
def Itr(lo:Int)(n:Nat):It:=⟨λi _=>i<n,λi H x H'=>H'=H/\x=.int (lo+i),λi _=>n<=i⟩
theorem aT7{P:Program}{w:World}{K:PySem.W.Frag}{tg:Expr}(a it:Addr):Turn P w K tg (Itl K a) [it] it (λi h=>h.IsListIter it a i) where
 mem:=by simp
 obj:=λi h st b hb=>by
  have e:b=it:=by simpa using hb
  subst e;obtain⟨o,e,c,d⟩:=st;exact⟨o,e,λv z=>by rw[d]at z;cases z⟩
 keep:=λi h h' st k=>st.at λo e=>k it (by simp) o e
 item:=by
  intro X hP hw hK hc i pins s σ H E I hf st hg;subst hP hw hK;obtain⟨xs,x,hq,hx⟩:=hg;obtain⟨its,rv,p,hz⟩:=I.list hq;obtain⟨u,hu,ru⟩:=rv.get hx;obtain⟨f0,f1,f2,f3,f4,f5⟩:=hf it (by simp)
  refine wpAny_pyNext_list_item st p.isList (x:=u) (by simpa using hu) λh' st' sb=>?_
  have I1:Inv X pins σ H {s with heap:=h'}:=I.turned (t':=s.toks) (λb o hb e=>(sb.2 b hb).trans e) f0 f1 f3 f4 f5
  obtain⟨o,e,c,d⟩:=id st';exact⟨u,rfl,aQv (s:={s with heap:=h'}) e c d (by decide) ⟨x,H,I1,ru,⟨rfl,λys hy=>by rw[I.list_inj hy hq];exact hx⟩,st',λb hb=>(hf b hb).1⟩⟩
 done:=by
  intro X hP hw hK hc i pins s σ H E I hf st hg;subst hP hw hK;obtain⟨xs,hq,hx⟩:=hg;obtain⟨its,rv,p,hz⟩:=I.list hq;obtain⟨f0,f1,f2,f3,f4,f5⟩:=hf it (by simp)
  have hl:=rv.length;exact wpAny_pyNext_list_end (I.ok.hd hc) st p.isList (by simp;omega) λh' eb=>⟨rfl,I.turned (t':=s.toks) (λb o hb e=>eb b o hb e) f0 f1 f3 f4 f5⟩
 self:=λ_ _ _ _ _ st h=>wpAny_pyIter_listiter st h
theorem aPa{P:Program}{w:World}{K:PySem.W.Frag}{tg:Expr}(a it:Addr):Turn P w K tg (Itt K a) [it] it (λi h=>h.IsTupleIter it a i) where
 mem:=by simp
 obj:=λi h st b hb=>by
  have e:b=it:=by simpa using hb
  subst e;obtain⟨o,e,c,d⟩:=st;exact⟨o,e,λv z=>by rw[d]at z;cases z⟩
 keep:=λi h h' st k=>st.at λo e=>k it (by simp) o e
 item:=by
  intro X hP hw hK hc i pins s σ H E I hf st hg;subst hP hw hK;obtain⟨xs,x,hq,hx⟩:=hg;obtain⟨its,rv,p,hz⟩:=I.tuple hq;obtain⟨u,hu,ru⟩:=rv.get hx;obtain⟨f0,f1,f2,f3,f4,f5⟩:=hf it (by simp)
  refine wpAny_pyNext_tuple_item st (show s.heap.IsTuple a its.toArray from p) (x:=u) (by simpa using hu) λh' st' sb=>?_
  have I1:Inv X pins σ H {s with heap:=h'}:=I.turned (t':=s.toks) (λb o hb e=>(sb.2 b hb).trans e) f0 f1 f3 f4 f5
  obtain⟨o,e,c,d⟩:=id st';exact⟨u,rfl,aQv (s:={s with heap:=h'}) e c d (by decide) ⟨x,H,I1,ru,⟨rfl,λys hy=>by rw[I.tuple_inj hy hq];exact hx⟩,st',λb hb=>(hf b hb).1⟩⟩
 done:=by
  intro X hP hw hK hc i pins s σ H E I hf st hg;subst hP hw hK;obtain⟨xs,hq,hx⟩:=hg;obtain⟨its,rv,p,hz⟩:=I.tuple hq;obtain⟨f0,f1,f2,f3,f4,f5⟩:=hf it (by simp)
  have hl:=rv.length;exact wpAny_pyNext_tuple_end (I.ok.hd hc) st (show s.heap.IsTuple a its.toArray from p) (by simp;omega) λh' eb=>⟨rfl,I.turned (t':=s.toks) (λb o hb e=>eb b o hb e) f0 f1 f3 f4 f5⟩
 self:=λ_ _ _ _ _ st h=>wpAny_pyIter_tupleiter st h
theorem aPb{P:Program}{w:World}{K:PySem.W.Frag}{tg:Expr}(it:Addr)(lo:Int)(n:Nat):Turn P w K tg (Itr lo n) [it] it (λi h=>IsRangeIter h it (lo+(i:Nat)*1) ((n:Int)-(i:Nat)) 1) where
 mem:=by simp
 obj:=λi h st b hb=>by
  have e:b=it:=by simpa using hb
  subst e;exact⟨_,st,λv z=>by
   have z':Data.fields _=Data.cell v:=z;cases z'⟩
 keep:=λi h h' st k=>k it (by simp) _ st
 item:=by
  intro X hP hw hK hc i pins s σ H E I hf st hg;subst hP hw hK;obtain⟨f0,f1,f2,f3,f4,f5⟩:=hf it (by simp)
  have W:=Walks.range (prog:=X.prog) (w:=X.w) (I.ok.hd hc) it lo 1 n;refine W.item i s _ _ hg st λv h' tk hv st' kk=>?_
  obtain⟨t,rfl⟩:=hv;have I1:Inv X pins σ H {s with heap:=h',toks:=tk}:=I.turned (λb o hb e=>kk b o (by simpa using hb) e) f0 f1 f3 f4 f5
  refine⟨_,rfl,aQv (s:={s with heap:=h',toks:=tk}) (n:="range_iterator") st' rfl rfl (by decide) ⟨.int (lo+i),H,I1,⟨t,?_⟩,⟨rfl,rfl⟩,st',λb hb=>(hf b hb).1⟩⟩
  rw[Int.mul_one]
 done:=by
  intro X hP hw hK hc i pins s σ H E I hf st hg;subst hP hw hK;obtain⟨f0,f1,f2,f3,f4,f5⟩:=hf it (by simp)
  exact wpAny_pyNext_range_end (I.ok.hd hc) st (by have:n<=i:=hg;omega) λh' eb=>⟨rfl,I.turned (t':=s.toks) (λb o hb e=>eb b o hb e) f0 f1 f3 f4 f5⟩
 self:=λ_ _ _ _ _ st h=>wpAny_pyIter_rangeiter st h
end L2
namespace L2
open PySem PySem.Spec PyProof.Rows
section
variable{X:Cx}{tg:Expr}
theorem aVh{pins:List (Addr×Obj)}{σ:St}{H:Hp}{s:Shared}{R:It->Hp->Prop}{E:Value->Shared->Prop}{lo hi:Int}{t u v:Tok}{tk:Nat}(I:Inv X pins σ H s)(h1 : -(2^62)<=lo)(h2:lo<2^62)(h3 : -(2^62)<=hi)(h4:hi<2^62)
  (q:R (Itr lo (hi-lo).toNat) H):wpAny (model X.prog X.w) X.A (pyIter (.ref s.heap.objs.size)) (PIE X pins σ tg R) E {s with heap:=s.heap.push {cls:=.type "range",data:=.fields #[.int lo t,.int hi u,.int 1 v]},toks:=tk}:=by
 refine wpAny_pyIter_range (IsRange.new ..) (small_one h1 h2 h3 h4) ?_
 have I1:Inv X pins σ H {s with heap:=s.heap.push {cls:=.type "range",data:=.fields #[.int lo t,.int hi u,.int 1 v]},toks:=tk}:=I.kept λb o e=>Heap.get?_push_of_some _ e
 refine⟨(s.heap.push {cls:=.type "range",data:=.fields #[.int lo t,.int hi u,.int 1 v]}).objs.size,[(s.heap.push {cls:=.type "range",data:=.fields #[.int lo t,.int hi u,.int 1 v]}).objs.size],_,_,H,rfl,
  I1.kept (t':=tk) λb o e=>Heap.get?_push_of_some _ e,aPb _ lo (hi-lo).toNat,?_,λb hb=>?_,q⟩
 .have e1:lo+((0:Nat):Int)*1=lo:=by simp
  have e2:(((hi-lo).toNat:Nat):Int)-((0:Nat):Int)=Builtin.Range.rangeSize lo hi 1:=by rw[rangeSize_one];split<;>omega
  show IsRangeIter _ _ (lo+((0:Nat):Int)*1) ((((hi-lo).toNat:Nat):Int)-((0:Nat):Int)) 1;rw[e1,e2];exact Heap.get?_push_size _ rfl
 .have e:b=(s.heap.push {cls:=.type "range",data:=.fields #[.int lo t,.int hi u,.int 1 v]}).objs.size:=by simpa using hb
  subst e;exact I1.fpOk (Nat.le_refl _) (I1.hok.fresh (Nat.le_refl _))
def bH4(ta:TA):TI:=λσ H R=>ta σ H λvs H1=>∃j:Int,vs=[.int j]/\-(2^62)<=j/\j<2^62/\R (Itr 0 j.toNat) H1
theorem aT8{a:Expr}{ta:TA}{p pos:Pos}(hg:Gl X "range")(hm:X.mg "range"=none)(ha:PA X [a] ta)(hs:starEach [a] X.env=[(false,eval a X.env)]:=by rfl):PI X tg (.Call (.Name "range" p) [a] [] pos) (bH4 ta):=by
 intro pins s σ H R I h;refine Call_ (aE4 I hg hm boot_range (PyProof.Rows.callWith_type1 (thn (ha pos pins s σ H _ I h) λus s1 ⟨vs,H1,I1,r1,q1⟩=>?_) hs rfl))
 obtain⟨j,e,q1,q2,q⟩:=q1;subst e;cases r1 with
 |cons r rr=>
  cases rr;obtain⟨t,rfl⟩:=r;exact call_range_1 (aVh I1 (by omega) (by omega) q1 q2 (by simpa using q))
def bJo(wi:TI)(g:TG)(tb:TS):TS:=λD σ H=>wi σ H λJ H1=>∃W:Nat->Nat->St->Hp->Prop,(∃m,W 0 m σ H1)/\∀i m σ H,W i m σ H->
 (J.stop i H/\D.nx σ H)\/(J.go i H/\∃N:St->Hp->Prop,(∀σ' H',N σ' H'->∃m',m' < m/\W (i+1) m' σ' H')/\∀x H',J.yld i H x H'->g x σ H' λσ2 H2=>tb {D with nx:=N,ct:=N,bk:=D.nx} σ2 H2)
def aKt(fp:List Addr)(h:Heap):List (Addr×Obj):=fp.filterMap λb=>(h.get? b).map λo=>(b,o)
theorem wA{fp:List Addr}{h:Heap}{b:Addr}{o:Obj}(hb:b∈fp)(e:h.get? b=some o):(b,o)∈aKt fp h:=List.mem_filterMap.mpr ⟨b,hb,by rw[e];rfl⟩
theorem aT9{fp:List Addr}{h:Heap}{p:Addr×Obj}(hp:p∈aKt fp h):p.1∈fp/\h.get? p.1=some p.2:=by
 obtain⟨b,hb,e⟩:=List.mem_filterMap.mp hp;cases q:h.get? b with
 |none=>rw[q]at e;cases e
 |some o=>
  rw[q]at e;have e':(b,o)=p:=Option.some.inj e;subst e';exact⟨hb,q⟩
theorem Inv.pinned{pins:List (Addr×Obj)}{σ:St}{H:Hp}{s:Shared}{fp:List Addr}(I:Inv X pins σ H s)(hf:∀b∈fp,aCh X pins H b)(ho:∀b∈fp,∃o,s.heap.get? b=some o/\∀v,o.data≠.cell v):Inv X (pins++aKt fp s.heap) σ H s:=
 I.pins_of λp hp=>(List.mem_append.mp hp).elim (λz=>I.pin p (List.mem_append_right _ z)) λz=>by
  obtain⟨hb,e⟩:=aT9 z;obtain⟨f0,f1,f2,_⟩:=hf p.1 hb;obtain⟨o,e',d⟩:=ho p.1 hb;rw[e]at e';cases e';exact⟨e,f0,f1,f2,d⟩
theorem Inv.unpinned{pins pl:List (Addr×Obj)}{σ:St}{H:Hp}{s:Shared}(I:Inv X (pins++pl) σ H s):Inv X pins σ H s:=I.pins_of λp hp=>I.pin p (List.mem_append_right _ (List.mem_append_left _ hp))
theorem bDt{iter:Expr}{body:List Stmt}{wi:TI}{g:TG}{tb:TS}{pos:Pos}(hp:PassesOwn (model X.prog X.w) X.A X.env X.xe)(hc:X.calm=true)(hi:PI X tg iter wi)(hg:PG X tg g)(hb:PSs X body tb)
  (hs:∀x,foldedSetIterable iter X.env x=pure x:=by intro _;rfl):PS X (.For tg iter body [] pos) (bJo wi g tb):=by
 intro pins s σ H D I h;refine wpAny_For (thn (hi pins s σ H _ I h) λv s1 h1=>thn h1 λitv s2 h2=>?_) hs
 obtain⟨it,fp,tn,J,H2,e,I2,T,st2,f2,W,⟨m0,w0⟩,turn⟩:=h2;subst e;have stat:∀{H':Hp},(∀b∈fp,H' b=none)->∀b∈fp,aCh X pins H' b:=λhn b hb=>⟨hn b hb,(f2 b hb).2⟩
 refine codeAny_forLoop_any (λn s'=>∃i σ' H',Inv X pins σ' H' s'/\tn i s'.heap/\(∀b∈fp,H' b=none)/\W i n σ' H') ?_ m0 ⟨0,σ,H2,I2,st2,λb hb=>(f2 b hb).1,w0⟩
 rintro n s3 ⟨i,σ3,H3,I3,st3,fr3,w3⟩;rcases turn i n σ3 H3 w3 with ⟨stop,qn⟩|⟨go,N,hN,step⟩
 .refine wpAny_passesOwn hp (thn (T.done X rfl rfl rfl hc i pins s3 σ3 H3 X.xe I3 (stat fr3) st3 stop) λr s4 ⟨hr,I4⟩=>?_)
  subst hr;exact wpAny_execs_nil ⟨σ3,H3,I4,qn⟩
 .refine wpAny_passesOwn hp (thn (T.item X rfl rfl rfl hc i pins s3 σ3 H3 X.xe I3 (stat fr3) st3 go) λr s4 ⟨u,hr,h4⟩=>?_)
  subst hr;refine wpAny_passesOwn hp (thn h4 λ_ s5 ⟨x,H5,I5,r5,y5,st5,fr5⟩=>?_)
  have I5':=I5.pinned (stat fr5) (T.obj _ _ st5);refine wpAny_passesOwn hp (thn (hg _ s5 σ3 H5 x u _ I5' r5 (step x H5 y5)) λ_ s6 ⟨σ6,H6,I6,q6⟩=>?_)
  refine wpAny_passesOwn hp (thn (hb _ s6 σ6 H6 _ I6 q6) λf s7 q7=>?_)
  have again:∀{σ7:St}{H7:Hp},Inv X (pins++aKt fp s5.heap) σ7 H7 s7->N σ7 H7->∃m,m<n/\∃i σ' H',Inv X pins σ' H' s7/\tn i s7.heap/\(∀b∈fp,H' b=none)/\W i m σ' H':=λ{σ7 H7} I7 n7=>by
   obtain⟨m',hm,w7⟩:=hN σ7 H7 n7;refine⟨m',hm,i+1,σ7,H7,I7.unpinned,T.keep _ _ _ st5 λb hb o e=>(I7.pin (b,o) (List.mem_append_right _ (List.mem_append_right _ (wA hb e)))).1,λb hb=>?_,w7⟩
   obtain⟨o,e,d⟩:=T.obj _ _ st5 b hb;exact(I7.pin (b,o) (List.mem_append_right _ (List.mem_append_right _ (wA hb e)))).2.1
  cases f with
  |next=>obtain⟨σ7,H7,I7,n7⟩:=q7;exact again I7 n7
  |cont=>obtain⟨σ7,H7,I7,n7⟩:=q7;exact again I7 n7
  |brk=>obtain⟨σ7,H7,I7,q7⟩:=q7;exact⟨σ7,H7,I7.unpinned,q7⟩
  |ret v=>obtain⟨x7,σ7,H7,I7,r7,q7⟩:=q7;exact⟨x7,σ7,H7,I7.unpinned,r7,q7⟩
end
end L2
namespace L2
open PySem PySem.Spec PyProof.Rows
abbrev R2:=V->V->Hp->VK->Prop
def OpR(X:Cx)(f:Value->Value->Sem Value)(r:R2):Prop:=
 ∀(pins:List (Addr×Obj)) (s:Shared) (σ:St) (H:Hp) (x y:V) (v u:Value) (Q:VK),Inv X pins σ H s->RelV x v->RelV y u->r x y H Q->
  wpAny (model X.prog X.w) X.A (f v u) (EP X pins σ Q) X.xe s
def UnR(X:Cx)(f:Value->Sem Value)(r:V->Hp->VK->Prop):Prop:=
 ∀(pins:List (Addr×Obj)) (s:Shared) (σ:St) (H:Hp) (x:V) (v:Value) (Q:VK),Inv X pins σ H s->RelV x v->r x H Q->
  wpAny (model X.prog X.w) X.A (f v) (EP X pins σ Q) X.xe s
def mG(X:Cx)(f:Value)(r:List V->Hp->VK->Prop):Prop:=
 ∀(pins:List (Addr×Obj)) (s:Shared) (σ:St) (H:Hp) (xs:List V) (us:List Value) (Q:VK),Inv X pins σ H s->Vals xs us->r xs H Q->
  wpAny (model X.prog X.w) X.A (call f us) (EP X pins σ Q) X.xe s
def tOp(r:R2)(ta tb:TE):TE:=λσ H Q=>ta σ H λx H1=>tb σ H1 λy H2=>r x y H2 Q
def tUn(r:V->Hp->VK->Prop)(ta:TE):TE:=λσ H Q=>ta σ H λx H1=>r x H1 Q
def rI(C:Int->Int->Prop)(g:Int->Int->V):R2:=λx y H Q=>∃i j,x=.int i/\y=.int j/\C i j/\Q (g i j) H
def rI0(g:Int->Int->V):R2:=λx y H Q=>∃i j,x=.int i/\y=.int j/\Q (g i j) H
def rU(g:Int->V):V->Hp->VK->Prop:=λx H Q=>∃i,x=.int i/\Q (g i) H
section
variable{X:Cx}{a b c:Expr}{ta tb tc:TE}{pos:Pos}
theorem bDu(ha:PE X a ta)(hb:PE X b tb){pins:List (Addr×Obj)}{s:Shared}{σ:St}{H:Hp}{R:V->V->Hp->Prop}(I:Inv X pins σ H s)
  (h:ta σ H λx H1=>tb σ H1 λy H2=>R x y H2) {Q:Value->Shared->Prop} {f:Value->Value->Sem Value}
  (hf:∀v u s2 x y H2,Inv X pins σ H2 s2->RelV x v->RelV y u->R x y H2->wpAny (model X.prog X.w) X.A (f v u) Q X.xe s2) :
  wpAny (model X.prog X.w) X.A (eval a X.env) (λv s₁=>wpAny (model X.prog X.w) X.A (eval b X.env) (λu s₂=>wpAny (model X.prog X.w) X.A (f v u) Q X.xe s₂) X.xe s₁) X.xe s:=by
 refine thn (ha pins s σ H _ I h) λv s1 ⟨x,H1,I1,r1,q1⟩=>?_
 refine thn (hb pins s1 σ H1 _ I1 q1) λu s2 ⟨y,H2,I2,r2,q2⟩=>?_
 exact hf v u s2 x y H2 I2 r1 r2 q2
theorem bCo{op:Operator}{r:R2}(ho:OpR X (binaryOp op) r)(ha:PE X a ta)(hb:PE X b tb):PE X (.BinOp a op b pos) (tOp r ta tb):=by
 intro pins s σ H Q I h;exact wpAny_BinOp (bDu ha hb I h λv u s2 x y H2 I2 rx ry q=>ho pins s2 σ H2 x y v u Q I2 rx ry q)
theorem bH5{op:UnaryOp}{r:V->Hp->VK->Prop}(ho:UnR X (unaryOp op) r)(ha:PE X a ta):PE X (.UnaryOp op a pos) (tUn r ta):=by
 intro pins s σ H Q I h;exact UnaryOp_ (thn (ha pins s σ H _ I h) λv s1 ⟨x,H1,I1,r1,q1⟩=>ho pins s1 σ H1 x v Q I1 r1 q1)
theorem opI{f:Value->Value->Sem Value}{C:Int->Int->Prop}{g:Int->Int->Int}
  (rule:∀(i j:Int)(t u:Tok)(s:Shared)(Q:Value->Shared->Prop)(E:Value->Shared->Prop),C i j->Q (.int (g i j) s.toks) {s with toks:=s.toks+1}->wpAny (model X.prog X.w) X.A (f (.int i t) (.int j u)) Q E s) :
  OpR X f (rI C λi j=>.int (g i j)):=by
 intro pins s σ H x y v u Q I rx ry h;obtain⟨i,j,rfl,rfl,hc,q⟩:=h;obtain⟨t,rfl⟩:=rx;obtain⟨t',rfl⟩:=ry;exact rule i j t t' s _ _ hc ⟨.int (g i j),H,I.tok _,⟨_,rfl⟩,q⟩
theorem aVi{f:Value->Value->Sem Value}{g:Int->Int->Int}
  (rule:∀(i j:Int)(t u:Tok)(s:Shared)(Q:Value->Shared->Prop)(E:Value->Shared->Prop),Q (.int (g i j) s.toks) {s with toks:=s.toks+1}->wpAny (model X.prog X.w) X.A (f (.int i t) (.int j u)) Q E s) :
  OpR X f (rI0 λi j=>.int (g i j)):=by
 intro pins s σ H x y v u Q I rx ry h;obtain⟨i,j,rfl,rfl,q⟩:=h;obtain⟨t,rfl⟩:=rx;obtain⟨t',rfl⟩:=ry;exact rule i j t t' s _ _ ⟨.int (g i j),H,I.tok _,⟨_,rfl⟩,q⟩
theorem aZh{f:Value->Value->Sem Value}{g:Int->Int->Bool}
  (rule:∀(i j:Int)(t u:Tok)(s:Shared)(Q:Value->Shared->Prop)(E:Value->Shared->Prop),Q (.bool (g i j)) s->wpAny (model X.prog X.w) X.A (f (.int i t) (.int j u)) Q E s) :
  OpR X f (rI0 λi j=>.bl (g i j)):=by
 intro pins s σ H x y v u Q I rx ry h;obtain⟨i,j,rfl,rfl,q⟩:=h;obtain⟨t,rfl⟩:=rx;obtain⟨t',rfl⟩:=ry;exact rule i j t t' s _ _ ⟨.bl (g i j),H,I,rfl,q⟩
def bJp(i j:Int):Prop:=0<j/\j<1073741824
def bH6(i j:Int):Prop:=0<=j/\j<=1000000/\i.natAbs<2^64
def aPc(i j:Int):Prop:=(-(2^64)<i/\i<2^64)\/(-(2^64)<j/\j<2^64)
theorem aPc.ok{i j:Int}(h:aPc i j):IntMulOk i j:=by
 rcases h with ⟨h1,h2⟩|⟨h1,h2⟩
 .exact .of_left (intBits_le_64 h1 h2)
 .exact .of_right (intBits_le_64 h1 h2)
theorem aPd(k:Nat):(0:Int)<=2^k:=by
 rw[two_pow_cast];exact Int.natCast_nonneg _
theorem bDv:OpR X (binaryOp .Add) (rI0 λi j=>.int (i+j)):=aVi λ_ _ _ _ _ _ _ q=>add_int q
theorem bDw:OpR X (binaryOp .Sub) (rI0 λi j=>.int (i-j)):=aVi λ_ _ _ _ _ _ _ q=>sub_int q
theorem aVj:OpR X (binaryOp .Mult) (rI aPc λi j=>.int (i*j)):=opI λ_ _ _ _ _ _ _ hc q=>mul_int q hc.ok
theorem aZi:OpR X (binaryOp .FloorDiv) (rI bJp λi j=>.int (i/j)):=opI λi j _ _ _ _ _ hc q=>by
 have h1:(0:Int)<j:=hc.1;have h2:j<1073741824:=hc.2;exact floordiv_int (by omega) (by rw[Int.fdiv_eq_ediv_of_nonneg i (by omega)];exact q) (.inl (PyProof.noPylong_small (by omega)))
theorem bDx:OpR X (binaryOp .Mod) (rI (λ_ j=>0<j) λi j=>.int (i%j)):=opI λi j _ _ _ _ _ hc q=>by
 have h1:(0:Int)<j:=hc;exact mod_int' (by omega) (by rw[Int.fmod_eq_emod_of_nonneg i (by omega)];exact q)
theorem bDy:OpR X (binaryOp .Pow) (rI bH6 λi j=>.int (i^j.toNat)):=opI λ_ _ _ _ _ _ _ hc q=>pow_int_small hc.1 hc.2.1 hc.2.2 q
theorem bDz:OpR X (binaryOp .LShift) (rI bH6 λi j=>.int (i*2^j.toNat)):=opI λ_ _ _ _ _ _ _ hc q=>lshift_int_small hc.1 hc.2.1 hc.2.2 q
theorem bE0:OpR X (binaryOp .RShift) (rI (λ_ j=>0<=j) λi j=>.int (i/2^j.toNat)):=opI λi j _ _ _ _ _ hc q=>
 rshift_int hc (by rw[Int.fdiv_eq_ediv_of_nonneg i (aPd _)];exact q)
theorem bE1:OpR X (binaryOp .BitAnd) (rI0 λi j=>.int (Builtin.bitAnd i j)):=aVi λ_ _ _ _ _ _ _ q=>and_int q
theorem bH7:OpR X (binaryOp .BitOr) (rI0 λi j=>.int (Builtin.bitOr i j)):=aVi λ_ _ _ _ _ _ _ q=>or_int q
theorem bE2:OpR X (binaryOp .BitXor) (rI0 λi j=>.int (Builtin.bitXor i j)):=aVi λ_ _ _ _ _ _ _ q=>xor_int q
theorem unI{f:Value->Sem Value}{g:Int->Int}
  (rule:∀(i:Int)(t:Tok)(s:Shared)(Q:Value->Shared->Prop)(E:Value->Shared->Prop),Q (.int (g i) s.toks) {s with toks:=s.toks+1}->wpAny (model X.prog X.w) X.A (f (.int i t)) Q E s) :
  UnR X f (rU λi=>.int (g i)):=by
 intro pins s σ H x v Q I rx h;obtain⟨i,rfl,q⟩:=h;obtain⟨t,rfl⟩:=rx;exact rule i t s _ _ ⟨.int (g i),H,I.tok _,⟨_,rfl⟩,q⟩
theorem bE3:UnR X (unaryOp .USub) (rU λi=>.int (-i)):=unI λ_ _ _ _ _ q=>neg_int q
end
section
variable{X:Cx}{a b c:Expr}{ta tb tc:TE}{pos:Pos}
theorem aPe{pins:List (Addr×Obj)}{σ:St}{H:Hp}{s:Shared}{Q:VK}{k k':Bool}(I:Inv X pins σ H s)(q:Q (.bl k) H)(e:k=k'):EP X pins σ Q (.bool k') s:=by
 subst e;exact⟨.bl k,H,I,rfl,q⟩
theorem aVk:OpR X (compareOp .Lt) (rI0 λi j=>.bl (decide (i<j))):=aZh λ_ _ _ _ _ _ _ q=>lt_int q
theorem aQw:OpR X (compareOp .LtE) (rI0 λi j=>.bl (decide (i<=j))):=aZh λ_ _ _ _ _ _ _ q=>le_int q
theorem aVl:OpR X (compareOp .Gt) (rI0 λi j=>.bl (decide (j<i))):=aZh λ_ _ _ _ _ _ _ q=>gt_int q
theorem aMs:OpR X (compareOp .GtE) (rI0 λi j=>.bl (decide (j<=i))):=aZh λ_ _ _ _ _ _ _ q=>ge_int q
theorem aTa:OpR X (compareOp .In) (λx y H Q=>∃i j,x=.str i/\y=.str j/\Q (.bl (!(Builtin.Str.occurrences j i 0 j.length 1).isEmpty)) H):=by
 intro pins s σ H x y v u Q I rx ry h;obtain⟨i,j,rfl,rfl,q⟩:=h;obtain⟨t,rfl⟩:=rx;obtain⟨t',rfl⟩:=ry;exact in_str (aPe I q rfl)
theorem aZj:OpR X (compareOp .IsNot) (λx y H Q=>y=.non/\Q (.bl (!decide (x=.non))) H):=by
 intro pins s σ H x y v u Q I rx ry h;obtain⟨rfl,q⟩:=h;cases ry;refine isnot_none_gen (aPe I q ?_);cases x<;>first
  |(cases rx;rfl)
  |(obtain⟨t,rfl⟩:=rx;rfl)
theorem aKu:OpR X (compareOp .NotIn) (λx y H Q=>∃i j,x=.str i/\y=.str j/\Q (.bl (!(!(Builtin.Str.occurrences j i 0 j.length 1).isEmpty))) H):=by
 intro pins s σ H x y v u Q I rx ry h;obtain⟨i,j,rfl,rfl,q⟩:=h;obtain⟨t,rfl⟩:=rx;obtain⟨t',rfl⟩:=ry;exact notIn_str (aPe I q rfl)
theorem OpR.or{f:Value->Value->Sem Value}{r r':R2}(h:OpR X f r)(h':OpR X f r'):OpR X f (λx y H Q=>r x y H Q\/r' x y H Q):=by
 intro pins s σ H x y v u Q I rx ry q;rcases q with q|q
 .exact h pins s σ H x y v u Q I rx ry q
 .exact h' pins s σ H x y v u Q I rx ry q
theorem cG(b:Expr){op:CmpOp}(h:op≠.In:=by decide)(h2:op≠.NotIn:=by decide):behindInMarks op b=false:=by
 have e1:(op==CmpOp.In)=false:=by cases op<;>first|rfl|exact absurd rfl h
 have e2:(op==CmpOp.NotIn)=false:=by cases op<;>first|rfl|exact absurd rfl h2
 cases b<;>simp[behindInMarks,e1,e2]
theorem aZk{op:CmpOp}{r:R2}(ho:OpR X (compareOp op) r)(ha:PE X a ta)(hb:PE X b tb)(hm:behindInMarks op b=false):PE X (.Compare a [op] [b] pos) (tOp r ta tb):=by
 intro pins s σ H Q I h;exact wpAny_Compare1 (bDu ha hb I h λv u s2 x y H2 I2 rx ry q=>ho pins s2 σ H2 x y v u Q I2 rx ry q) hm
def bCp(t:TE):TT:=λσ H Q=>t σ H λx H'=>∃k,x=.bl k/\Q k H'
theorem aZl{op:CmpOp}{r:R2}(ho:OpR X (compareOp op) r)(ha:PE X a ta)(hb:PE X b tb)(hm:behindInMarks op b=false):PT X (.Compare a [op] [b] pos) (bCp (tOp r ta tb)):=by
 intro pins s σ H Q I h;refine wpAny_isTrue_Compare1 (thn (ha pins s σ H _ I h) λv s1 ⟨x,H1,I1,r1,q1⟩=>thn (hb pins s1 σ H1 _ I1 q1) λu s2 ⟨y,H2,I2,r2,q2⟩=>
  thn (ho pins s2 σ H2 x y v u _ I2 r1 r2 q2) λc s3 ⟨z,H3,I3,r3,k,e,q3⟩=>?_) hm
 subst e;cases r3;exact wpAny_truthy_bool ⟨H3,I3,q3⟩
def aVm(r r':R2)(ta tb tc:TE):TE:=λσ H Q=>ta σ H λx H1=>tb σ H1 λy H2=>r x y H2 λz H3=>∃k,z=.bl k/\
 (if k=true then tc σ H3 λw' H4=>r' y w' H4 Q else Q (.bl false) H3)
theorem aVn{op op':CmpOp}{r r':R2}(ho:OpR X (compareOp op) r)(ho':OpR X (compareOp op') r')(ha:PE X a ta)(hb:PE X b tb)(hc:PE X c tc)
  (hm:lastMarks [op,op'] [b,c]=false:=by with_unfolding_all rfl):PT X (.Compare a [op,op'] [b,c] pos) (bCp (aVm r r' ta tb tc)):=by
 intro pins s σ H Q I h;refine isTrue_chain (thn (ha pins s σ H _ I h) λv s1 ⟨x,H1,I1,r1,q1⟩=>test_link (thn (hb pins s1 σ H1 _ I1 q1) λu s2 ⟨y,H2,I2,r2,q2⟩=>
  thn (ho pins s2 σ H2 x y v u _ I2 r1 r2 q2) λd s3 ⟨z,H3,I3,r3,k,e,q3⟩=>?_)) hm
 subst e;cases r3;refine wpAny_truthy_bool ?_
 cases k with
 |false=>
  obtain⟨k',e',q'⟩:=q3;cases e';exact ite_ff ⟨H3,I3,q'⟩
 |true=>
  refine ite_tt (test_last (thn (hc pins s3 σ H3 _ I3 q3) λw' s4 ⟨z',H4,I4,r4,q4⟩=>thn (ho' pins s4 σ H4 y z' u w' _ I4 r2 r4 q4) λd' s5 ⟨z2,H5,I5,r5,k2,e2,q5⟩=>?_))
  subst e2;cases r5;exact wpAny_truthy_bool ⟨H5,I5,q5⟩
theorem aGl:(sizeLine:Nat)<2^63:=by rw[sizeLine_eq];decide
theorem aPf:OpR X (binaryOp .Add) (λx y H Q=>∃i j,x=.str i/\y=.str j/\i.length+j.length<=sizeLine/\Q (.str (i++j)) H):=by
 intro pins s σ H x y v u Q I rx ry h;obtain⟨i,j,rfl,rfl,hz,q⟩:=h;obtain⟨t,rfl⟩:=rx;obtain⟨t',rfl⟩:=ry;exact add_str (λt' tk=>⟨.str (i++j),H,I.tok _,⟨_,rfl⟩,q⟩) hz
theorem vals1{x:V}{us:List Value}(r:Vals [x] us):∃u,us=[u]/\RelV x u:=by
 cases r with
 |cons r1 r2=>cases r2;exact⟨_,rfl,r1⟩
theorem vals2{x y:V}{us:List Value}(r:Vals [x,y] us):∃u w',us=[u,w']/\RelV x u/\RelV y w':=by
 cases r with
 |cons r1 r2=>
  cases r2 with
  |cons r3 r4=>cases r4;exact⟨_,_,rfl,r1,r3⟩
theorem aTb(hc:X.calm=true):mG X (.builtin "max") (λxs H Q=>∃i j,xs=[.int i,.int j]/\Q (.int (if j>i then j else i)) H):=by
 intro pins s σ H xs us Q I r h;obtain⟨i,j,rfl,q⟩:=h;obtain⟨u,w',rfl,⟨t,rfl⟩,⟨t',rfl⟩⟩:=vals2 r;refine max_two_ints (I.ok.hd hc) λh' tk k=>⟨_,H,I.kept k,?_,q⟩
 by_cases hj:j>i
 .rw[if_pos hj,if_pos hj];exact⟨_,rfl⟩
 .rw[if_neg hj,if_neg hj];exact⟨_,rfl⟩
theorem aTc:mG X (.type "int") (λxs H Q=>(∃i,xs=[.int i]/\Q (.int i) H)\/∃k,xs=[.bl k]/\Q (.int (if k then 1 else 0)) H):=by
 intro pins s σ H xs us Q I r h;rcases h with ⟨i,rfl,q⟩|⟨k,rfl,q⟩
 .obtain⟨u,rfl,t,rfl⟩:=vals1 r;exact call_int_int ⟨.int i,H,I,⟨_,rfl⟩,q⟩
 .obtain⟨u,rfl,r1⟩:=vals1 r;cases r1;exact call_int_bool ⟨.int (if k then 1 else 0),H,I.tok _,⟨_,rfl⟩,q⟩
end
end L2
namespace L2
open PySem PySem.Spec PyProof.Rows
structure ObjM(h:Heap)(x dx C:Addr)(mA:Str->Option Value):Prop where
 obj:h.get? x=some (PySem.W.instObj C dx)
 ns:h.Ns1 dx mA
 ne:dx≠x
theorem aTd{h:Heap}{dx:Addr}{mA:Str->Option Value}(n:h.Ns1 dx mA):∃od,h.get? dx=some od/\∀name,PySem.W.lookIn name od=some (mA name):=by
 obtain⟨o,es,ep,ho,hd,hk,_,hm⟩:=n;refine⟨o,ho,λname=>?_⟩
 have e:=hm name;unfold nsFind findBy at e;rw[<-Array.find?_toList]at e;unfold PySem.W.lookIn;rw[hd];dsimp only;split
 .rename_i y q;rw[q]at e;exact congrArg some e
 .rename_i q;rw[q]at e;have a:es.toList.any (·.refKey)=false:=by
   rw[List.any_eq_false];intro y hy;obtain⟨z,t,hkey⟩:=hk y (Array.mem_toList_iff.mp hy);simp[DictEntry.refKey,hkey]
  have a':¬ es.toList.any (·.refKey)=true:=by rw[a];exact Bool.false_ne_true
  rw[if_neg a'];exact congrArg some e
theorem ObjM.look{h:Heap}{x dx C:Addr}{mA:Str->Option Value}(I:ObjM h x dx C mA):∃od,PySem.W.InstAt h x (PySem.W.instObj C dx) C (some od)/\∀name,PySem.W.lookIn name od=some (mA name):=
 let ⟨od,ho,hl⟩:=aTd I.ns
 ⟨od,⟨I.obj,rfl,rfl,ho⟩,hl⟩
section
variable{prog:Program}{w:World}{A:Around}{E:Value->Shared->Prop}{s:Shared}{K:PySem.W.Frag}{x dx C f:Addr}{mA:Str->Option Value}{name:Str}{v:Value}
theorem aZm{expr:Bool}{Q:Value->Shared->Prop}(X:K.In s.heap)(I:ObjM s.heap x dx C mA)(hg:PySem.W.plainGet K C name=true)(hh:PySem.W.hasDictIn K C=true)
  (ha:PySem.W.findIn K (.ref C) name=some none) (hv:mA name=some v) (hv':PySem.W.handedIn v=true) (h:Q v {s with toks:=s.toks+1}) :
  wpAny (model prog w) A (getAttr (.ref x) name expr) Q E s:=by
 obtain⟨od,J,hl⟩:=I.look;exact PySem.W.get_value X J (PySem.W.plainGet_of hg).1 (PySem.W.findObj_own hh ha rfl (by rw[hl,hv])) hv' h
theorem aVo{pl:Sem Bool}{Q:Value×List Value->Shared->Prop}(X:K.In s.heap)(I:ObjM s.heap x dx C mA)(hg:PySem.W.plainGet K C name=true)
  (hf:PySem.W.findIn K (.ref C) name=some (some (.ref f))) (ht:PySem.W.isFn K (.ref f)=true) (hv:mA name=none) (h:Q (.ref f,[.ref x]) s) :
  wpAny (model prog w) A (getMethod (.ref x) name pl) Q E s:=by
 obtain⟨od,J,hl⟩:=I.look;exact PySem.W.method_fn X J (PySem.W.plainGet_of hg).1 (PySem.W.plainGet_of hg).2 hf (beq_iff_eq.mp ht) (by show (PySem.W.lookIn name od).map (·.isSome)=some false;rw[hl,hv];rfl) h
theorem aZn{ns:List Str}{Q:Unit->Shared->Prop}(X:K.In s.heap)(I:ObjM s.heap x dx C mA)
  (hs:PySem.W.findIn K (.ref C) "__setattr__"=some (some (.builtin "object.__setattr__"))) (hp:PySem.W.plainOver K C=true) (ht:PySem.W.takerIn K C name=some none) (hh:PySem.W.hasDictIn K C=true)
  (hw:PySem.Within mA ns) (hsz:ns.length<=sizeLine)
  (h:∀h',ObjM h' x dx C (λy=>if y=name then some v else mA y)->Heap.SameBut dx s.heap h'->Q () {s with heap:=h',toks:=s.toks+2}) :
  wpAny (model prog w) A (setAttr (.ref x) name v) Q E s:=by
 obtain⟨od,J,hl⟩:=I.look;refine PySem.W.set_plain X J hs (PySem.W.osa_open (s:={s with toks:=s.toks+1}) (r:=none) X J hp ht λb=>?_)
 obtain⟨cd,hc,hd'⟩:=PySem.W.any_some hh;have hx:s.heap.get? x=some ⟨.ref C,some dx,.plain, #[]⟩:=I.obj;refine wpAny_bind (wpAny_pure (wpAny_bind (wpAny_bind (wpAny_loadPart hx (wpAny_bind (PySem.W.Looks.here (s:={s with toks:=s.toks+1}) (PySem.W.looks_clsIn X hc) ?_))))))
 rw[hd'];refine wpAny_pure (a:=some dx) (wpAny_bind (wpAny_pure (wpAny_bind ?_)));refine wpAny_nsSet1 (s:={s with toks:=s.toks+1}) I.ns λh' hn2 hs2=>?_
 obtain⟨oD,esD,epD,hoD,hdD,hcD⟩:=hn2.count (PySem.Within.cons name v hw);refine wpAny_bind (wpAny_lookBehind hoD (by rw[hdD];exact pastItsLine_dict (Nat.le_trans hcD (by rw[List.length_cons];omega))) ?_)
 exact wpAny_pure (h _ ⟨(hs2.2 _ (Ne.symm I.ne)).trans I.obj,hn2,I.ne⟩ hs2)
theorem aVp{R:Result->Shared->Prop}{vs:List Value}{kw:List (Str×Value)}(X:K.In s.heap)(hm:PySem.W.makesIn K C=true)
  (hi:PySem.W.findIn K (.ref C) "__init__"=some (some (.ref f))) (hf:PySem.W.typeIn K (.ref f)=some (.type "function"))
  (h:codeAny (model prog w) (A.under (.builtin "type.__call__" ⟨.ref C::vs,kw⟩)) (.call (.ref f) ⟨.ref (s.heap.objs.size+1)::vs,kw⟩) (PySem.W.InitBack (s.heap.objs.size+1) R)
   {s with heap:=(s.heap.push PySem.W.emptyDict).push (PySem.W.instObj C s.heap.objs.size)}) :
  codeAny (model prog w) A (.call (.ref C) ⟨vs,kw⟩) R s:=by
 obtain⟨hh,g,d,t,os⟩:=s;exact PySem.W.make_core (PySem.W.makes_of X hm) (PySem.W.looks_findIn X hi) (λself=>PySem.W.bind_fn X self hf) (.inl rfl) h
theorem aTe{R:Result->Shared->Prop}(X:K.In s.heap)(hm:PySem.W.makesIn K C=true)
  (hi:PySem.W.findIn K (.ref C) "__init__"=some (some (.builtin "object.__init__")))
  (hb:∀self,PySem.W.Looks (model prog w) s.heap (bindSpecial (.builtin "object.__init__") self) (.builtin "object.__init__",[self]))
  (h:codeAny (model prog w) (A.under (.builtin "type.__call__" ⟨[.ref C],[]⟩)) (.call (.builtin "object.__init__") ⟨[.ref (s.heap.objs.size+1)],[]⟩) (PySem.W.InitBack (s.heap.objs.size+1) R)
   {s with heap:=(s.heap.push PySem.W.emptyDict).push (PySem.W.instObj C s.heap.objs.size)}) :
  codeAny (model prog w) A (.call (.ref C) ⟨[],[]⟩) R s:=by
 obtain⟨hh,g,d,t,os⟩:=s;exact PySem.W.make_core (PySem.W.makes_of X hm) (PySem.W.looks_findIn X hi) hb (.inr ⟨rfl,rfl⟩) h
end
def yF(f:Str)(v:V):List (Str×V)->List (Str×V)
 |[]=>[(f,v)]
 |(g,x)::r=>if g=f then (g,v)::r else (g,x)::yF f v r
theorem aEx(f g:Str)(v:V):∀fs:List (Str×V),(yF f v fs).lookup g=if g=f then some v else fs.lookup g
 |[]=>by
  show List.lookup g [(f,v)]=_
  by_cases h:g=f
  .have hb:(g==f)=true:=beq_iff_eq.mpr h;simp only[List.lookup,hb,if_pos h]
  .have hb:(g==f)=false:=beq_eq_false_iff_ne.mpr h;simp only[List.lookup,hb,if_neg h]
 |(k,x)::r=>by
  have ih:=aEx f g v r;rw[show yF f v ((k,x)::r)=(if k=f then (k,v)::r else (k,x)::yF f v r) from rfl]
  by_cases hk:k=f
  .rw[if_pos hk]
   by_cases h:g=k
   .have hb:(g==k)=true:=beq_iff_eq.mpr h;simp only[List.lookup,hb,if_pos (h.trans hk)]
   .have hb:(g==k)=false:=beq_eq_false_iff_ne.mpr h;simp only[List.lookup,hb,if_neg (λe:g=f=>h (e.trans hk.symm))]
  .rw[if_neg hk]
   by_cases h:g=k
   .have hb:(g==k)=true:=beq_iff_eq.mpr h;simp only[List.lookup,hb,if_neg (λe:g=f=>hk (h.symm.trans e))]
   .have hb:(g==k)=false:=beq_eq_false_iff_ne.mpr h;simp only[List.lookup,hb];exact ih
theorem aE5(f:Str)(v:V):∀fs:List (Str×V),f∈(yF f v fs).map (·.1)/\∀g,g∈fs.map (·.1)->g∈(yF f v fs).map (·.1)
 |[]=>⟨by simp[yF],λg h=>by simp at h⟩
 |(k,x)::r=>by
  obtain⟨i1,i2⟩:=aE5 f v r;rw[show yF f v ((k,x)::r)=(if k=f then (k,v)::r else (k,x)::yF f v r) from rfl]
  by_cases hk:k=f
  .rw[if_pos hk];subst hk;exact⟨by simp,λg h=>by simpa using h⟩
  .rw[if_neg hk];refine⟨?_,λg h=>?_⟩
   .rw[List.map_cons];exact List.mem_cons_of_mem _ i1
   .rw[List.map_cons]at h ⊢;rcases List.mem_cons.mp h with e|e
    .exact List.mem_cons.mpr (.inl e)
    .exact List.mem_cons_of_mem _ (i2 g e)
theorem aEy(f:Str)(v:V):∀fs:List (Str×V),(yF f v fs).length<=fs.length+1
 |[]=>by simp[yF]
 |(k,x)::r=>by
  have ih:=aEy f v r;rw[show yF f v ((k,x)::r)=(if k=f then (k,v)::r else (k,x)::yF f v r) from rfl]
  by_cases hk:k=f
  .rw[if_pos hk,List.length_cons,List.length_cons];omega
  .rw[if_neg hk,List.length_cons,List.length_cons];omega
theorem vZ.some_of{v:V}{o:Option Value}(r:vZ (some v) o):∃u,o=some u/\RelV v u:=by
 cases o with
 |none=>exact(show False from r).elim
 |some u=>exact⟨u,rfl,r⟩
theorem vZ.none_of{o:Option Value}(r:vZ none o):o=none:=by
 cases o with
 |none=>rfl
 |some u=>exact(show False from r).elim
theorem aTf{v:V}{u:Value}(r:RelV v u):PySem.W.handedIn u=true:=by
 cases v with
 |non=>cases (show u=Value.none from r);rfl
 |bl b=>cases (show u=Value.bool b from r);rfl
 |int i=>obtain⟨t,e⟩:=(show ∃t,u=Value.int i t from r);cases e;rfl
 |str x=>obtain⟨t,e⟩:=(show ∃t,u=Value.str x t from r);cases e;rfl
 |byt b=>obtain⟨t,e⟩:=(show ∃t,u=Value.bytes b t from r);cases e;rfl
 |flt b=>obtain⟨t,e⟩:=(show ∃t,u=Value.float b t from r);cases e;rfl
 |ref a=>cases (show u=Value.ref a from r);rfl
 |ty n=>cases (show u=Value.type n from r);rfl
section
variable{P:Program}{w:World}{H H':Hp}{h h':Heap}{a C dx:Addr}{fs fs':List (Str×V)}
theorem aG2(hok:HOk P w H h)(e:H a=some (.ins C dx fs)):∃mA,ObjM h a dx C mA/\(∀f,vZ (fs.lookup f) (mA f))/\PySem.Within mA (fs.map (·.1))/\fs.length<=1000/\H dx=some (.own a):=by
 obtain⟨d,z,ne,ob,mA,n,r,q⟩:=(show iU P w H h a (.ins C dx fs) from hok a _ e)
 exact⟨mA,⟨ob,n,ne⟩,r,q,z,d⟩
end
structure Cls(K:PySem.W.Frag)(C:Addr):Prop where
 pg:PySem.W.plainGet K C Str.empty=true
 hd:PySem.W.hasDictIn K C=true
 po:PySem.W.plainOver K C=true
 sa:PySem.W.findIn K (.ref C) "__setattr__"=some (some (.builtin "object.__setattr__"))
theorem Cls.get{K:PySem.W.Frag}{C:Addr}(c:Cls K C)(f:Str):PySem.W.plainGet K C f=true:=c.pg
def lX(K:PySem.W.Frag)(C:Addr)(f:Str):Prop:=PySem.W.findIn K (.ref C) f=some none
theorem lX.taker{K:PySem.W.Frag}{C:Addr}{f:Str}(n:lX K C f):PySem.W.takerIn K C f=some none:=by
 unfold PySem.W.takerIn;rw[show PySem.W.findIn K (.ref C) f=some none from n]
 rfl
structure Meth(K:PySem.W.Frag)(C:Addr)(m:Str)(f:Addr):Prop where
 at_:PySem.W.findIn K (.ref C) m=some (some (.ref f))
 fn:PySem.W.isFn K (.ref f)=true
 kp:PySem.W.keepIn K (.ref f)=true
section
variable{X:Cx}{pins:List (Addr×Obj)}{σ:St}{H:Hp}{s:Shared}{a C dx:Addr}{fs:List (Str×V)}{f:Str}{v:V}{A:Around}{E:Value->Shared->Prop}
theorem aPg{b:Bool}{Q:Value->Shared->Prop}(I:Inv X pins σ H s)(e:H a=some (.ins C dx fs))(c:Cls X.K C)(n:lX X.K C f)(l:fs.lookup f=some v)
  (h:∀u s',Inv X pins σ H s'->RelV v u->Q u s'):wpAny (model X.prog X.w) A (getAttr (.ref a) f b) Q E s:=by
 obtain⟨mA,O,r,_,_,_⟩:=aG2 I.hok e;obtain⟨u,hu,ru⟩:=vZ.some_of (v:=v) (o:=mA f) (by rw[<-l];exact r f)
 exact aZm I.kIn O (c.get f) c.hd n hu (aTf ru) (h u _ (I.tok _) ru)
theorem aPh{m:Str}{g:Addr}{pl:Sem Bool}{Q:Value×List Value->Shared->Prop}(I:Inv X pins σ H s)(e:H a=some (.ins C dx fs))(c:Cls X.K C)(k:Meth X.K C m g)(l:fs.lookup m=none)
  (h:Q (.ref g,[.ref a]) s):wpAny (model X.prog X.w) A (getMethod (.ref a) m pl) Q E s:=by
 obtain⟨mA,O,r,_,_,_⟩:=aG2 I.hok e;have hn:mA m=none:=vZ.none_of (by rw[<-l];exact r m)
 exact aVo I.kIn O (c.get m) k.at_ k.fn hn h
theorem aPi{y:V}{u:Value}{Q:Unit->Shared->Prop}(I:Inv X pins σ H s)(e:H a=some (.ins C dx fs))(c:Cls X.K C)(n:lX X.K C f)(hl:fs.length<1000)(ry:RelV y u)
  (h:∀s',Inv X pins σ (upd H a (.ins C dx (yF f y fs))) s'->Q () s'):wpAny (model X.prog X.w) A (setAttr (.ref a) f u) Q E s:=by
 obtain⟨mA,O,r,wi,_,ho⟩:=aG2 I.hok e;have hz:(fs.map (·.1)).length<=sizeLine:=by rw[List.length_map,sizeLine_eq];omega
 refine aZn I.kIn O c.sa c.po n.taker c.hd wi hz λh' O' sb=>h _ ?_
 have hd:∃o,h'.get? dx=some o:=let ⟨o,_,_,e',_⟩:=O'.ns;⟨o,e'⟩;refine I.write (x:=a) (e:=dx) (by rw[e];exact True.intro) (.inr ho) (λb q hb z=>(sb.2 b hb).trans z) hd ?_
 refine⟨by rw[bQ O.ne];exact ho,?_,O.ne,O'.obj,_,O'.ns,λg=>?_,λg hg=>?_⟩
 .have:=aEy f y fs;omega
 .show vZ ((yF f y fs).lookup g) (if g=f then some u else mA g)
  rw[aEx]
  by_cases q:g=f
  .rw[if_pos q,if_pos q];exact ry
  .rw[if_neg q,if_neg q];exact r g
 .by_cases q:g=f
  .rw[q];exact(aE5 f y fs).1
  .refine(aE5 f y fs).2 g (wi g λz=>hg ?_)
   show (if g=f then some u else mA g)=none
   rw[if_neg q];exact z
theorem Inv.made(I:Inv X pins σ H s):Inv X pins σ (upd (upd H s.heap.objs.size (.own (s.heap.objs.size+1))) (s.heap.objs.size+1) (.ins C s.heap.objs.size []))
  {s with heap:=(s.heap.push PySem.W.emptyDict).push (PySem.W.instObj C s.heap.objs.size)}:=by
 have e1:(s.heap.push PySem.W.emptyDict).get? s.heap.objs.size=some PySem.W.emptyDict:=Heap.get?_push_size s.heap rfl;have e2:((s.heap.push PySem.W.emptyDict).push (PySem.W.instObj C s.heap.objs.size)).get? (s.heap.objs.size+1)=some (PySem.W.instObj C s.heap.objs.size):=by
  have:=Heap.get?_push_size (s.heap.push PySem.W.emptyDict) (o:=PySem.W.instObj C s.heap.objs.size) rfl
  rwa [Heap.size_push]at this
 have e3:(s.heap.push PySem.W.emptyDict).Ns s.heap.objs.size (λ_=>none):=⟨PySem.W.emptyDict, #[],_,e1,rfl,(λe he=>absurd he (by simp)),λ_=>rfl⟩
 have I1:=I.laid (a:=s.heap.objs.size) (o:=.own (s.heap.objs.size+1)) (h':=s.heap.push PySem.W.emptyDict) (t':=s.toks) (λb u q=>Heap.get?_push_of_some _ q) (Nat.le_refl _) ⟨_,e1⟩
 refine I1.laid (a:=s.heap.objs.size+1) (o:=.ins C s.heap.objs.size []) (t':=s.toks) (λb u q=>Heap.get?_push_of_some _ q) (Nat.le_of_eq (Heap.size_push _ _)) ?_
 have ne:s.heap.objs.size≠s.heap.objs.size+1:=Nat.ne_of_lt (Nat.lt_succ_self _);refine⟨by rw[bQ ne,bZ],Nat.zero_le _,ne,e2,λ_=>none,(Heap.Ns1.of_empty e3).at λo q=>Heap.get?_push_of_some _ q,λ_=>True.intro,λy hy=>absurd rfl hy⟩
theorem aZo{prog:Program}{w:World}{env:Env}{e:Expr}{f:Str}{pos:Pos}{s:Shared}{Q:Value->Shared->Prop}(hb:attributeBase e f env (eval e env)=eval e env)
  (h:wpAny (model prog w) A (eval e env) (λo s₁=>wpAny (model prog w) A (getAttr o f true) Q E s₁) E s):wpAny (model prog w) A (eval (.Attribute e f pos) env) Q E s:=
 Attribute_any_ h (by rw[arm_eval_Attribute,hb])
end
def bJq(K:PySem.W.Frag)(ta:TE)(f:Str):TE:=λσ H Q=>ta σ H λx H1=>∃a C dx fs v,x=.ref a/\H1 a=some (.ins C dx fs)/\Cls K C/\lX K C f/\fs.lookup f=some v/\Q v H1
def bJr(K:PySem.W.Frag)(ta tv:TE)(f:Str):TS:=λD σ H=>tv σ H λy H1=>ta σ H1 λx H2=>∃a C dx fs,x=.ref a/\H2 a=some (.ins C dx fs)/\Cls K C/\lX K C f/\fs.length<1000/\
 D.nx σ (upd H2 a (.ins C dx (yF f y fs)))
section
variable{X:Cx}{o e value:Expr}{f:Str}{pos pos' tpos:Pos}{ta tv:TE}
theorem bE4(he:PE X e ta)(hb:attributeBase e f X.env (eval e X.env)=eval e X.env):PE X (.Attribute e f pos) (bJq X.K ta f):=by
 intro pins s σ H Q I h;refine aZo hb (thn (he pins s σ H _ I h) λu s1 ⟨x,H1,I1,rx,a,C,dx,fs,v,ex,ea,c,n,l,q⟩=>?_)
 subst ex;obtain rfl:u=Value.ref a:=rx;exact aPg I1 ea c n l λu' s2 I2 ru=>⟨v,H1,I2,ru,q⟩
theorem bE5(ha:PE X o ta)(hv:PE X value tv)(hs:swapsWith value (some (.Attribute o f pos')) pos.line X.env=pure false):PS X (.Assign [.Attribute o f pos'] value pos) (bJr X.K ta tv f):=by
 intro pins s σ H D I h;refine plainObj_wpAny_Assign_Attribute (thn (hv pins s σ H _ I h) λu s1 ⟨y,H1,I1,ry,q⟩=>thn (ha pins s1 σ H1 _ I1 q) λov s2 ⟨x,H2,I2,rx,a,C,dx,fs,ex,ea,c,n,l,q2⟩=>?_) hs
 subst ex;obtain rfl:ov=Value.ref a:=rx;exact aPi I2 ea c n l ry λs3 I3=>⟨σ,_,I3,q2⟩
end
section
variable{X:Cx}{pins:List (Addr×Obj)}{σ:St}{H:Hp}{s:Shared}{A:Around}{E:Value->Shared->Prop}{Q:Value->Shared->Prop}{c:Value}{b:Bool}
inductive TyOf (K:PySem.W.Frag) (H:Hp):V->Value->Prop where
 |non:TyOf K H .non (.type "NoneType")
 |bl (x:Bool):TyOf K H (.bl x) (.type "bool")
 |int (i:Int):TyOf K H (.int i) (.type "int")
 |str (x:Str):TyOf K H (.str x) (.type "str")
 |flt (x:UInt64):TyOf K H (.flt x) (.type "float")
 |lst {a:Addr} {xs:List V} (e:H a=some (.lst xs)):TyOf K H (.ref a) (.type "list")
 |frz {a:Addr} {o:Obj} {xs:List V} (e:H a=some (.frz o (.lst xs))):TyOf K H (.ref a) (.type "list")
 |tup {a:Addr} {xs:List V} (e:H a=some (.tup xs)):TyOf K H (.ref a) (.type "tuple")
 |dK {a:Addr} {kvs:List (Key×V)} (e:H a=some (.dK kvs)):TyOf K H (.ref a) (.type "dict")
 |dT {a:Addr} {kvs:List (List Key×V)} (e:H a=some (.dT kvs)):TyOf K H (.ref a) (.type "dict")
 |ins {a C dx:Addr} {fs:List (Str×V)} (e:H a=some (.ins C dx fs)) (cl:Cls K C) (ha:PySem.W.findIn K (.ref C) "__class__"=some (some (.builtin "object.__class__")))
   (hn:PySem.W.specialIn K (.builtin "object.__class__") "__get__"=some (some (.builtin "getset_descriptor.__get__"))) (htk:PySem.W.takesIn K (.builtin "object.__class__")=some true)
   (hm:PySem.W.mroIn K C (.type "object")=some true):TyOf K H (.ref a) (.ref C)
theorem aTg{x:V}{u t:Value}(I:Inv X pins σ H s)(rx:RelV x u)(ty:TyOf X.K H x t)(e:PySem.W.kitOne X.K t c=some b)(h:∀tk,Q (.bool b) {s with toks:=tk}) :
  wpAny (model X.prog X.w) A (call (.builtin "isinstance") [u,c]) Q E s:=by
 cases ty with
 |non=>cases (show u=Value.none from rx);exact PySem.W.kia_one PySem.W.kitx_none I.kIn True.intro e (λz=>nomatch z) h
 |bl y=>cases (show u=Value.bool y from rx);exact PySem.W.kia_one PySem.W.kitx_bool I.kIn True.intro e (λz=>nomatch z) h
 |int i=>obtain⟨t,q⟩:=(show ∃t,u=Value.int i t from rx);cases q;exact PySem.W.kia_one PySem.W.kitx_int I.kIn True.intro e (λz=>nomatch z) h
 |str y=>obtain⟨t,q⟩:=(show ∃t,u=Value.str y t from rx);cases q;exact PySem.W.kia_one PySem.W.kitx_str I.kIn True.intro e (λz=>nomatch z) h
 |flt y=>obtain⟨t,q⟩:=(show ∃t,u=Value.float y t from rx);cases q;exact PySem.W.kia_one PySem.W.kitx_float I.kIn True.intro e (λz=>nomatch z) h
 |@lst a xs ea=>
  cases (show u=Value.ref a from rx)
  obtain⟨_,_,n,_,h1⟩:=(show iU X.prog X.w H s.heap a (.lst xs) from I.hok a _ ea)
  exact PySem.W.kia_one PySem.W.kitx_list I.kIn ⟨_,h1,rfl⟩ e (λz=>nomatch z) h
 |@frz a ob xs ea=>
  cases (show u=Value.ref a from rx)
  obtain⟨_,_,_,n,_,h1⟩:=(show iU X.prog X.w H s.heap a (.frz ob (.lst xs)) from I.hok a _ ea)
  exact PySem.W.kia_one PySem.W.kitx_list I.kIn ⟨_,h1,rfl⟩ e (λz=>nomatch z) h
 |@tup a xs ea=>
  cases (show u=Value.ref a from rx)
  obtain⟨_,_,_,p⟩:=(show iU X.prog X.w H s.heap a (.tup xs) from I.hok a _ ea)
  obtain⟨o,h1,h2,_⟩:=p;exact PySem.W.kia_one PySem.W.kitx_tuple I.kIn ⟨o,h1,h2⟩ e (λz=>nomatch z) h
 |@dK a kvs ea=>
  cases (show u=Value.ref a from rx)
  obtain⟨_,_,vs,_,p⟩:=(show iU X.prog X.w H s.heap a (.dK kvs) from I.hok a _ ea)
  obtain⟨o,es,ep,h1,h2,_⟩:=p;exact PySem.W.kia_one PySem.W.kitx_dict I.kIn ⟨o,h1,h2.1⟩ e (λz=>nomatch z) h
 |@dT a kvs ea=>
  cases (show u=Value.ref a from rx)
  obtain⟨_,_,xs,_,o,es,ep,h1,h2,_⟩:=(show iU X.prog X.w H s.heap a (.dT kvs) from I.hok a _ ea)
  exact PySem.W.kia_one PySem.W.kitx_dict I.kIn ⟨o,h1,h2.1⟩ e (λz=>nomatch z) h
 |@ins a C dx fs ea cl ha hn htk hm=>
  cases (show u=Value.ref a from rx)
  obtain⟨mA,O,_⟩:=aG2 I.hok ea;obtain⟨od,J,_⟩:=O.look;exact PySem.W.kia_one (PySem.W.kitx_own (cl.get _) cl.hd ha hn htk hm) I.kIn J e (λz=>nomatch z) h
end
end L2
namespace L2
open PySem PySem.Spec PyProof.Rows
structure Room(k:Nat)(A:Around):Prop where
 hd:A.handled=none
 dp:A.depth+3*k+5<recursionLimit
 un:A.units+16*k+200<cLine
theorem Room.mono{j k:Nat}{A:Around}(r:Room k A)(h:j<=k):Room j A:=⟨r.hd,by have:=r.dp;omega,by have:=r.un;omega⟩
theorem Room.deeper{k:Nat}{A:Around}(r:Room (k+1) A)(env:Env):Room k (A.deeper env):=
 ⟨r.hd,by have:=r.dp;show A.depth+1+3*k+5<_;omega,by have:=r.un;show A.units+3+16*k+200<_;omega⟩
theorem aPj{A:Around}{C:Addr}{us:List Value}{kw:List (Str×Value)}:(A.under (.builtin "type.__call__" ⟨.ref C::us,kw⟩)).depth=A.depth+1:=by
 first|rfl|simp[Around.under,Code.weight,Code.isCreation,Code.isGuard,Code.isCaller,Code.frames,Code.isFrame,guardIds]
theorem aPk{A:Around}{C:Addr}{us:List Value}{kw:List (Str×Value)}:(A.under (.builtin "type.__call__" ⟨.ref C::us,kw⟩)).units=A.units+1:=by
 first|rfl|simp[Around.under,Code.cUnits,Code.frames,Code.isFrame]
theorem Room.make{k:Nat}{A:Around}(r:Room (k+1) A)(C:Addr)(us:List Value)(kw:List (Str×Value)):Room k (A.under (.builtin "type.__call__" ⟨.ref C::us,kw⟩)):=
 ⟨r.hd,by have:=r.dp;rw[aPj];omega,by have:=r.un;rw[aPk];omega⟩
theorem Room.depth{k:Nat}{A:Around}(r:Room k A):A.depth<recursionLimit:=by have:=r.dp;omega
theorem Room.units{k:Nat}{A:Around}(r:Room k A):A.units+64<cLine:=by have:=r.un;omega
def bJs:TA:=λ_ H Q=>Q [] H
def bH8(ta:TE)(tr:TA):TA:=λσ H Q=>ta σ H λx H1=>tr σ H1 λxs H2=>Q (x::xs) H2
section
variable{X:Cx}{e:Expr}{es:List Expr}{te:TE}{t:TA}{pos:Pos}
theorem jG:PA X [] bJs:=λ_ _ _ _ H Q I h=>Calls.spliced_nil ⟨[],H,I,.nil,h⟩
theorem eE(ha:PE X e te)(hr:PA X es t)(hs:starEach (e::es) X.env=(false,eval e X.env)::starEach es X.env:=by rfl):PA X (e::es) (bH8 te t):=by
 intro pos pins s σ H Q I h;rw[hs];show wpAny _ _ (spliced ((false,eval e X.env)::backTo pos (starEach es X.env))) _ _ s;refine Calls.spliced_cons (thn (ha pins s σ H _ I h) λu s1 ⟨x,H1,I1,r1,q1⟩=>?_)
 exact thn (hr pos pins s1 σ H1 _ I1 q1) λus s2 ⟨xs,H2,I2,r2,q2⟩=>⟨x::xs,H2,I2,.cons r1 r2,q2⟩
def bJt(t:TA):TE:=λσ H Q=>t σ H λxs H1=>xs.length<=sizeLine/\∀p,H1 p=none->Q (.ref p) (upd H1 p (.tup xs))
def bJu(t:TA):TE:=λσ H Q=>t σ H λxs H1=>xs.length<=sizeLine/\∀p,H1 p=none->Q (.ref p) (upd H1 p (.lst xs))
theorem bE6{x1}(h:PA X es t):PE X (.Tuple es x1 pos) (bJt t):=by
 intro pins s σ H Q I hq;refine wpAny_Tuple_spliced (thn (h pos pins s σ H _ I hq) λus s1 ⟨xs,H1,I1,r,z,q⟩=>⟨by rw[<-r.length];exact z,?_⟩)
 have hf:H1 s1.heap.objs.size=none:=I1.hok.fresh (Nat.le_refl _);refine⟨.ref s1.heap.objs.size,upd H1 s1.heap.objs.size (.tup xs),I1.laid (t':=s1.toks) (λb u e=>Heap.get?_push_of_some _ e) (Nat.le_refl _) ?_,rfl,q _ hf⟩
 exact⟨z,us,r,⟨_,Heap.get?_push_size _ rfl,rfl,_,rfl⟩⟩
theorem aPl(h:PA X es t):PE X (.List es pos) (bJu t):=by
 intro pins s σ H Q I hq;refine wpAny_List_spliced (thn (h pos pins s σ H _ I hq) λus s1 ⟨xs,H1,I1,r,z,q⟩=>⟨by rw[<-r.length];exact z,?_⟩)
 have hf:H1 s1.heap.objs.size=none:=I1.hok.fresh (Nat.le_refl _);refine⟨.ref s1.heap.objs.size,upd H1 s1.heap.objs.size (.lst xs),I1.laid (t':=s1.toks) (λb u e=>Heap.get?_push_of_some _ e) (Nat.le_refl _) ?_,rfl,q _ hf⟩
 exact⟨z,us,0,r,Heap.get?_push_size _ rfl⟩
end
abbrev Sp:=List V->Hp->VK->XK->Prop
abbrev CXT:=List Env->Hp->Shared->XK->Value->Shared->Prop
structure Env0(P:Program)(w:World)(K:PySem.W.Frag)(mg:Str->Option Value)(base:Heap)(A:Around)(outer:List Env)(s:Shared)(H:Hp):Prop where
 frames:A.frames=some outer
 mod:Mod K mg base
 bs:∀b o,base.get? b=some o->s.heap.get? b=some o/\H b=none
 bsz:base.objs.size<=s.heap.objs.size
 funs:s.heap.FunFrames base outer
 frf:∀b∈frs outer,H b=none
 hok:HOk P w H s.heap
 bare:AllBare s.gens
def CE(outer:List Env)(P:Program)(w:World)(H:Hp)(s:Shared)(Q:VK)(u:Value)(s':Shared):Prop:=
 ∃v H',s'.os=s.os/\AllBare s'.gens/\Un (frs outer) [] H H' s.heap s'.heap/\HOk P w H' s'.heap/\RelV v u/\Q v H'
def CR(CX:CXT)(outer:List Env)(P:Program)(w:World)(H:Hp)(s:Shared)(Q:VK)(E:XK)(r:Result)(s':Shared):Prop:=
 match r with
 |.ok (.ret u)=>CE outer P w H s Q u s'
 |.ok _=>False
 |.error e=>CX outer H s E e s'
structure FnOk(P:Program)(w:World)(K:PySem.W.Frag)(mg:Str->Option Value)(base:Heap)(CX:CXT)(k:Nat)(f:Addr)(fd:FuncData)(ps:List Str)(sp:Sp):Prop where
 len:∀vs H Q E,sp vs H Q E->vs.length=ps.length
 run:∀(A:Around)(outer:List Env)(s:Shared)(H:Hp)(args:Args)(us:List Value)(vs:List V)(Q:VK)(E:XK),Room k A->Env0 P w K mg base A outer s H->BindsTo s fd args (ps.zip us)->Vals vs us->sp vs H Q E->
  codeAny (model P w) A (.call (.ref f) args) (CR CX outer P w H s Q E) s
theorem Env0.make{P:Program}{w:World}{K:PySem.W.Frag}{mg:Str->Option Value}{base:Heap}{A:Around}{outer:List Env}{s:Shared}{H:Hp}(e:Env0 P w K mg base A outer s H)(C:Addr)(us:List Value)(kw:List (Str×Value)) :
  Env0 P w K mg base (A.under (.builtin "type.__call__" ⟨.ref C::us,kw⟩)) outer s H:=⟨by first|exact e.frames|(simpa [Around.under,Code.envs,Code.isFrame,pushEnvs] using e.frames),e.mod,e.bs,e.bsz,e.funs,e.frf,e.hok,e.bare⟩
section
variable{X:Cx}{pins:List (Addr×Obj)}{σ:St}{H:Hp}{s s':Shared}
theorem Inv.env0(I:Inv X pins σ H s):Env0 X.prog X.w X.K X.mg X.base X.A X.stack s H:=
 ⟨I.ok.frames,I.ok.mod,I.bs,Nat.le_trans I.ok.bsz I.sz,I.stack,I.stkFree,I.hok,I.bare⟩
theorem Inv.after{Q:VK}{u:Value}(I:Inv X pins σ H s)(h:CE X.stack X.prog X.w H s Q u s'):EP X pins σ Q u s':=by
 obtain⟨v,H',os,bare,un,hok,r,q⟩:=h;obtain⟨hh,g,d,t,os'⟩:=s';obtain rfl:os'=s.os:=os;exact⟨v,H',I.call (h':=hh) (g':=g) (d':=d) (t':=t) (ch:=[]) un hok bare (λb z=>absurd z (by simp)),r,q⟩
end
def bH9(sp:Sp)(dvs:List V)(E:XK)(t:TA):TE:=λσ H Q=>t σ H λvs H1=>sp (vs++dvs) H1 Q E
def bHa(C:Addr)(m:Str)(sp:Sp)(dvs:List V)(E:XK)(ta:TE)(t:TA):TE:=λσ H Q=>ta σ H λx H1=>∃a dx fs,x=.ref a/\H1 a=some (.ins C dx fs)/\fs.lookup m=none/\
 t σ H1 λvs H2=>sp (x::(vs++dvs)) H2 Q E
def bHb(C:Addr)(sp:Sp)(dvs:List V)(E:XK)(t:TA):TE:=λσ H Q=>t σ H λvs H1=>∀x dx,H1 x=none->H1 dx=none->dx≠x->
 sp (.ref x::(vs++dvs)) (upd (upd H1 dx (.own x)) x (.ins C dx [])) (λv H2=>v=.non/\Q (.ref x) H2) E
def Binds(K:PySem.W.Frag)(fd:FuncData)(ps:List Str)(ds:List Value):Prop:=
 ∀(s:Shared)(us:List Value),K.In s.heap->(us++ds).length=ps.length->BindsTo s fd ⟨us,[]⟩ (ps.zip (us++ds))
theorem Binds.all{K:PySem.W.Frag}{fd:FuncData}{ps:List Str}(h:∀us:List Value,us.length=ps.length->bindArgs fd ⟨us,[]⟩=pure (ps.zip us)):Binds K fd ps []:=λs us _ hl=>by
 rw[List.append_nil]at hl ⊢;exact .of_eq (h us hl)
def aE6(CX:CXT)(X:Cx)(E:XK):Prop:=∀(pins:List (Addr×Obj)) (σ:St) (H:Hp) (s:Shared) (e:Value) (s':Shared),Inv X pins σ H s->CX X.stack H s E e s'->X.xe e s'
section
variable{X:Cx}{CX:CXT}{k:Nat}{f C:Addr}{fd:FuncData}{ps:List Str}{sp:Sp}{dvs:List V}{ds:List Value}{E:XK}{x m:Str}{p pos apos:Pos}{e o:Expr}{es:List Expr}{ta:TE}{t:TA}
theorem aVq{pins:List (Addr×Obj)}{σ:St}{H:Hp}{s:Shared}{Q:VK}{us:List Value}{vs:List V}(F:FnOk X.prog X.w X.K X.mg X.base CX k f fd ps sp)(hr:Room k X.A)(hb:Binds X.K fd ps ds)(hd:Vals dvs ds)(hx:aE6 CX X E)
  (I:Inv X pins σ H s) (r:Vals vs us) (h:sp (vs++dvs) H Q E):wpAny (model X.prog X.w) X.A (call (.ref f) us) (EP X pins σ Q) X.xe s:=by
 have r2:Vals (vs++dvs) (us++ds):=r.append hd;have hl:(us++ds).length=ps.length:=by rw[<-r2.length];exact F.len _ _ _ _ h
 refine wpAny_call (codeAny_mono (F.run X.A X.stack s H ⟨us,[]⟩ (us++ds) (vs++dvs) Q E hr I.env0 (hb s us I.kIn hl) r2 h) λr s' hq=>?_)
 cases r with
 |error e=>exact hx pins σ H s e s' I hq
 |ok fl=>
  cases fl with
  |ret u=>exact I.after hq
  |next=>exact False.elim hq
  |brk=>exact False.elim hq
  |cont=>exact False.elim hq
theorem aQx(F:FnOk X.prog X.w X.K X.mg X.base CX k f fd ps sp)(hr:Room k X.A)(hg:Gl X x)(hm:X.mg x=some (.ref f))(hk:PySem.W.keepIn X.K (.ref f)=true)(hb:Binds X.K fd ps ds)(hd:Vals dvs ds)(hx:aE6 CX X E)
  (ha:PA X (e::es) t) (hdb:(x==("__debug__":Str))=false:=by decide) (he:starEach (e::es) X.env=(false,eval e X.env)::starEach es X.env:=by rfl) (hpl:(backTo pos (starEach es X.env)).any (·.1)=false:=by rfl) :
  PE X (.Call (.Name x p) (e::es) [] pos) (bH9 sp dvs E t):=by
 intro pins s σ H Q I h;refine wpAny_Call_Name_kw (aG1 I hg hm ?_ hdb);refine PySem.W.callWith_K (h₀:=X.base) I.ok.mod.kin hk (thn (ha pos pins s σ H _ I h) λus s1 ⟨vs,H1,I1,r,q⟩=>⟨I1.kIn,?_⟩) he hpl
 exact aVq F hr hb hd hx I1 r q
theorem aQy{pl:Sem Bool}(he:PE X o ta)(c:Cls X.K C)(hm:Meth X.K C m f)(F:FnOk X.prog X.w X.K X.mg X.base CX k f fd ps sp)(hr:Room k X.A)(hb:Binds X.K fd ps ds)(hd:Vals dvs ds)(hx:aE6 CX X E)(ha:PA X (e::es) t)
  (hst:starEach (e::es) X.env=(false,eval e X.env)::starEach es X.env:=by rfl) (hpl:(backTo pos (starEach es X.env)).any (·.1)=false:=by rfl)
  (ht:eval (.Call (.Attribute o m apos) (e::es) [] pos) X.env=(do
   let ov <- eval o X.env
   standAt apos.atName
   let (f,first) <- holding [ov] (getMethod ov m pl)
   callWith pos f first (backTo pos (starEach (e::es) X.env)) (backToKw pos (keywordEach [] X.env))):=by rfl) :
  PE X (.Call (.Attribute o m apos) (e::es) [] pos) (bHa C m sp dvs E ta t):=by
 intro pins s σ H Q I h;refine PySem.W.methodCall_KW (pl:=pl) (thn (he pins s σ H _ I h) λu s1 ⟨x,H1,I1,rx,a,dx,fs,ex,ea,l,q⟩=>?_) ht
 subst ex;obtain rfl:u=Value.ref a:=rx;refine aPh I1 ea c hm l ?_
 refine PySem.W.callWith_K (first:=[.ref a]) (h₀:=X.base) I.ok.mod.kin hm.kp (thn (ha pos pins s1 σ H1 _ I1 q) λus s2 ⟨vs,H2,I2,r,q2⟩=>⟨I2.kIn,?_⟩) hst hpl
 exact aVq (us:=.ref a::us) (vs:=.ref a::vs) F hr hb hd hx I2 (.cons rfl r) q2
structure Mk(K:PySem.W.Frag)(C f:Addr):Prop where
 makes:PySem.W.makesIn K C=true
 init:PySem.W.findIn K (.ref C) "__init__"=some (some (.ref f))
 fn:PySem.W.isFn K (.ref f)=true
 kp:PySem.W.keepIn K (.ref C)=true
theorem aVr{pins:List (Addr×Obj)}{σ:St}{H:Hp}{s:Shared}{Q:VK}{us:List Value}{vs:List V}(M:Mk X.K C f)(F:FnOk X.prog X.w X.K X.mg X.base CX k f fd ps sp)(hr:Room (k+1) X.A)(hb:Binds X.K fd ps ds)(hd:Vals dvs ds)
  (hx:aE6 CX X E) (I:Inv X pins σ H s) (r:Vals vs us)
  (h:∀x dx,H x=none->H dx=none->dx≠x->sp (.ref x::(vs++dvs)) (upd (upd H dx (.own x)) x (.ins C dx [])) (λv H2=>v=.non/\Q (.ref x) H2) E) :
  wpAny (model X.prog X.w) X.A (call (.ref C) us) (EP X pins σ Q) X.xe s:=by
 have hq:=h (s.heap.objs.size+1) s.heap.objs.size (I.hok.fresh (Nat.le_succ _)) (I.hok.fresh (Nat.le_refl _)) (Nat.ne_of_lt (Nat.lt_succ_self _));have I2:=Inv.made (C:=C) I;have r2:Vals (V.ref (s.heap.objs.size+1)::(vs++dvs)) (Value.ref (s.heap.objs.size+1)::(us++ds)):=.cons rfl (r.append hd);have hl:(Value.ref (s.heap.objs.size+1)::us++ds).length=ps.length:=by
  have e:=r2.length;rw[F.len _ _ _ _ hq]at e;exact e.symm
 refine wpAny_call (aVp (f:=f) I.kIn M.makes M.init (beq_iff_eq.mp M.fn) (codeAny_mono (F.run _ X.stack _ _ ⟨Value.ref (s.heap.objs.size+1)::us,[]⟩ (Value.ref (s.heap.objs.size+1)::(us++ds)) _ _ E (hr.make C us [])
  (I2.env0.make C us []) (hb _ (Value.ref (s.heap.objs.size+1)::us) I2.kIn hl) r2 hq) λr s' hq'=>?_))
 cases r with
 |error e=>exact hx pins σ _ _ e s' I2 hq'
 |ok fl=>
  cases fl with
  |ret u=>
   obtain⟨v,H',I3,rv,ev,q3⟩:=I2.after hq';subst ev;exact⟨rv,⟨V.ref (s.heap.objs.size+1),H',I3,rfl,q3⟩⟩
  |next=>exact False.elim hq'
  |brk=>exact False.elim hq'
  |cont=>exact False.elim hq'
theorem aZp(M:Mk X.K C f)(F:FnOk X.prog X.w X.K X.mg X.base CX k f fd ps sp)(hr:Room (k+1) X.A)(hg:Gl X x)(hm:X.mg x=some (.ref C))(hb:Binds X.K fd ps ds)(hd:Vals dvs ds)(hx:aE6 CX X E)
  (ha:PA X (e::es) t) (hdb:(x==("__debug__":Str))=false:=by decide) (he:starEach (e::es) X.env=(false,eval e X.env)::starEach es X.env:=by rfl) (hpl:(backTo pos (starEach es X.env)).any (·.1)=false:=by rfl) :
  PE X (.Call (.Name x p) (e::es) [] pos) (bHb C sp dvs E t):=by
 intro pins s σ H Q I h;refine wpAny_Call_Name_kw (aG1 I hg hm ?_ hdb);refine PySem.W.callWith_K (h₀:=X.base) I.ok.mod.kin M.kp (thn (ha pos pins s σ H _ I h) λus s1 ⟨vs,H1,I1,r,q⟩=>⟨I1.kIn,?_⟩) he hpl
 exact aVr M F hr hb hd hx I1 r q
end
structure FnScope(N P:List Str)(sc:Scope):Prop where
 kind:sc.kind=.function
 co:sc.isCoroutine=false
 gen:sc.isGenerator=false
 nd:N.Nodup
 pre:N.take P.length=P
 par:∀x∈P,sc.names.lookup x=some .local\/sc.names.lookup x=some .cell
 nofree:∀y∈sc.names,y.2≠.free
theorem aJc{kindOf:Str->Option NameKind}{x:Str}:∀{binds:List (Str×Value)} {m:Str->Option Value},(∀v,(x,v)∉binds)->bindL kindOf binds m x=m x
 |[],_,_=>rfl
 |(n,v)::r,m,h=>by
  unfold bindL;rw[aJc λw hw=>h w (List.mem_cons_of_mem _ hw)]
  split
  .have:x≠n:=by rintro rfl;exact h v List.mem_cons_self
   simp[this]
  .rfl
theorem aJd{kindOf:Str->Option NameKind}{x:Str}:∀{binds:List (Str×Value)} {m:Str->Option Value},(∀v,(x,v)∉binds)->bindC kindOf binds m x=m x
 |[],_,_=>rfl
 |(n,v)::r,m,h=>by
  unfold bindC;rw[aJd λw hw=>h w (List.mem_cons_of_mem _ hw)]
  split
  .rfl
  .have:x≠n:=by rintro rfl;exact h v List.mem_cons_self
   simp[this]
theorem aJe{kindOf:Str->Option NameKind}{x:Str}{v:Value}:∀{P:List Str}{vs:List Value}{i:Nat}{m:Str->Option Value},P.Nodup->P[i]?=some x->vs[i]?=some v->kindOf x=some .local->
  bindL kindOf (P.zip vs) m x=some v
 |[],_,_,_,_,h,_,_=>by simp at h
 |_::_,[],_,_,_,_,h,_=>by simp at h
 |p::P,w::vs,0,m,nd,h1,h2,hk=>by
  simp at h1 h2;subst h1;subst h2;show bindL kindOf ((p,w)::P.zip vs) m p=_;unfold bindL;rw[aJc λv hv=>(List.nodup_cons.mp nd).1 (List.of_mem_zip hv).1,if_pos hk]
  simp
 |p::P,w::vs,i+1,m,nd,h1,h2,hk=>by
  show bindL kindOf ((p,w)::P.zip vs) m x=_;unfold bindL;exact aJe (i:=i) (List.nodup_cons.mp nd).2 (by simpa using h1) (by simpa using h2) hk
theorem aJf{kindOf:Str->Option NameKind}{x:Str}{v:Value}:∀{P:List Str}{vs:List Value}{i:Nat}{m:Str->Option Value},P.Nodup->P[i]?=some x->vs[i]?=some v->kindOf x≠some .local->
  bindC kindOf (P.zip vs) m x=some v
 |[],_,_,_,_,h,_,_=>by simp at h
 |_::_,[],_,_,_,_,h,_=>by simp at h
 |p::P,w::vs,0,m,nd,h1,h2,hk=>by
  simp at h1 h2;subst h1;subst h2;show bindC kindOf ((p,w)::P.zip vs) m p=_;unfold bindC;rw[aJd λv hv=>(List.nodup_cons.mp nd).1 (List.of_mem_zip hv).1,if_neg hk]
  simp
 |p::P,w::vs,i+1,m,nd,h1,h2,hk=>by
  show bindC kindOf ((p,w)::P.zip vs) m x=_;unfold bindC;exact aJf (i:=i) (List.nodup_cons.mp nd).2 (by simpa using h1) (by simpa using h2) hk
def start(N:List Str)(vs:List V):St:=vs.map some++List.replicate (N.length-vs.length) none
def aGm(CX:CXT)(P:Program)(w:World)(K:PySem.W.Frag)(mg:Str->Option Value)(base:Heap)(N:List Str)(qual:Str)(scope:Scope)(f:Addr)(cd:Value)(A:Around)(outer:List Env)(s:Shared)(H:Hp)(E:XK):Cx where
 prog:=P
 w:=w
 K:=K
 mg:=mg
 base:=base
 A:=A.deeper (envOfC qual scope s.heap.objs.size f cd)
 N:=N
 s₀:=s
 H₀:=H
 env:=envOfC qual scope s.heap.objs.size f cd
 outer:=outer
 stack:=envOfC qual scope s.heap.objs.size f cd::outer
 ex:=[]
 calm:=true
 fn:=λ_=>true
 pn:=[]
 xe:=λe s'=>wpAny (model P w) (A.deeper (envOfC qual scope s.heap.objs.size f cd)) (leaving (envOfC qual scope s.heap.objs.size f cd) e) (λ_ s''=>CX outer H s E e s'') (λe' s''=>CX outer H s E e' s'') s'
theorem aMt{sc:Scope}{n:Nat}{x:Str}(h:sc.names.lookup x=some .cell):∃c,(cellsFrom n sc.names []).lookup x=some c:=by
 have q:=PySem.W.cellsFrom_some sc.names n [] (.inl h);exact Option.isSome_iff_exists.mp q
theorem aTh{CX:CXT}{P:Program}{w:World}{K:PySem.W.Frag}{mg:Str->Option Value}{base:Heap}{N ps:List Str}{qual:Str}{scope:Scope}{f:Addr}{cd:Value}{A:Around}{outer:List Env}{s s1:Shared}{H:Hp}{E:XK}{us:List Value}{vs:List V}
  (S:FnScope N ps scope) (hd:A.handled=none) (e0:Env0 P w K mg base A outer s H) (hl:vs.length=ps.length) (r:Vals vs us)
  (x:InCallC s s.heap.objs.size (bindL (envOfC qual scope s.heap.objs.size f cd).kindOf (ps.zip us) λ_=>none) (cellsFrom (s.heap.objs.size+1) scope.names []) (bindC (envOfC qual scope s.heap.objs.size f cd).kindOf (ps.zip us) λ_=>none) s1) :
  Inv (aGm CX P w K mg base N qual scope f cd A outer s H E) [] (start N vs) H s1:=by
 have hpl:ps.length<=N.length:=by have:=congrArg List.length S.pre;rw[List.length_take]at this;omega
 obtain⟨h1,tk,rfl,hk⟩:=x.done;have noA:∀b:Addr,b∉(aGm CX P w K mg base N qual scope f cd A outer s H E).ex:=λb z=>absurd (show b∈([]:List Addr) from z) (by simp)
 refine⟨⟨e0.mod,S.kind,rfl,rfl,Nat.le_refl _,λy z c h1 h2=>?_,λy hy=>?_,λy c _ h=>?_,λ_=>hd,Around.frames_deeper e0.frames,.inr ⟨rfl,rfl⟩,λb z=>absurd z (noA b),e0.bs,e0.bsz,λb _ _=>noA b,λb z=>absurd z (noA b),e0.funs,e0.frf⟩,
  rfl,e0.bare,Un.kept hk,⟨_,x.toInCall.ns,λi y v h1 h2 h3=>?_⟩,λy c h=>⟨_,x.cell y c h⟩,e0.hok.fresh (Nat.le_refl _),λy c h=>?_,λp hp=>absurd (show p∈([]:List (Addr×Obj)) from hp) (by simp),e0.hok.kept hk,?_⟩
 .exact name_of_addr x.apart (PySem.mem_of_lookup h1) (PySem.mem_of_lookup h2)
 .have hy:scope.names.lookup y=some .cell\/scope.names.lookup y=some .free:=hy;rcases hy with hy|hy
  .exact aMt hy
  .exact absurd rfl (S.nofree _ (PySem.mem_of_lookup hy))
 .exact Nat.le_of_lt (x.above y c (PySem.mem_of_lookup h))
 .have hi:i<vs.length:=by
   unfold start at h2
   by_cases hi:i<vs.length
   .exact hi
   .rw[List.getElem?_append_right (by simpa using hi)]at h2
    rw[List.getElem?_replicate]at h2;split at h2<;>cases h2
  have ha:vs[i]?=some v:=by
   unfold start at h2;rw[List.getElem?_append_left (by simpa using hi),List.getElem?_map]at h2
   cases e:vs[i]? with
   |none=>rw[e]at h2;cases h2
   |some a=>rw[e]at h2;cases h2;rfl
  obtain⟨u,hu,rv⟩:=r.get ha;have hp:ps[i]?=some y:=by
   rw[<-S.pre,List.getElem?_take_of_lt (by omega)];exact h1
  have ndP:ps.Nodup:=by rw[<-S.pre];exact S.nd.sublist (List.take_sublist _ _)
  refine⟨u,rv,?_⟩;rcases S.par y (List.mem_of_getElem? hp) with k|k
  .exact .inl ⟨k,aJe ndP hp hu k⟩
  .obtain⟨c,e⟩:=aMt (n:=s.heap.objs.size+1) k;refine .inr ⟨.inl k,c,e,?_⟩;have q:=x.cell y c e;rw[aJf ndP hp hu (by show scope.names.lookup y≠_;rw[k];decide)]at q
   exact q
 .exact e0.hok.fresh (Nat.le_of_lt (x.above y c (PySem.mem_of_lookup h)))
 .unfold start;show _=N.length;rw[List.length_append,List.length_map,List.length_replicate];omega
theorem bCq{CX:CXT}{P:Program}{w:World}{K:PySem.W.Frag}{mg:Str->Option Value}{base:Heap}{k:Nat}{f:Addr}{name qual:Str}{params:Arguments}{body:List Stmt}{scope:Scope}{dV kV doc pm cdv ct oc:Value}{an od:Option Addr}
  {osl:Array (Option Value)} {N ps:List Str} {sp:Sp} (lk:K.lookup f=some ⟨oc,od,.func (PySem.W.fnOf name qual params body scope dV kV doc pm an cdv ct),osl⟩) (hcd:PySem.W.codeIn K cdv qual=true) (S:FnScope N ps scope)
  (len:∀vs H Q E,sp vs H Q E->vs.length=ps.length)
  (hbody:∀(A:Around)(outer:List Env)(s:Shared)(H:Hp)(vs:List V)(Q:VK)(E:XK),Room k (A.deeper (envOfC qual scope s.heap.objs.size f cdv))->sp vs H Q E->
   ∃t,PSs (aGm CX P w K mg base N qual scope f cdv A outer s H E) body t/\t {nx:=λ_ H'=>Q .non H',rt:=Q} (start N vs) H) :
  FnOk P w K mg base CX (k+1) f (PySem.W.fnOf name qual params body scope dV kV doc pm an cdv ct) ps sp:=by
 refine⟨len,λA outer s H args us vs Q E hr e0 hb r hsp=>?_⟩
 have hl:=len _ _ _ _ hsp;have KX:K.In s.heap:=e0.mod.kin.keeps λb o e=>(e0.bs b o e).1
 have lim:s.heap.NoLimit:=e0.mod.nolimit.keeps λb o e=>(e0.bs b o e).1
 have hkind:∀y∈ps.zip us,scope.names.lookup y.1=some .local\/(scope.names.lookup y.1=some .cell/\((cellsFrom (s.heap.objs.size+1) scope.names []).lookup y.1).isSome=true):=λ⟨n,v⟩ hy=>by
  rcases S.par n (List.of_mem_zip hy).1 with q|q
  .exact .inl q
  .exact .inr ⟨q,PySem.W.cellsFrom_some _ _ _ (.inl q)⟩
 refine codeAny_call_function hr.depth (KX _ _ lk) rfl S.co S.gen rfl (PySem.W.codeRec_of KX hcd) (hb _ _ _ _ ?_);refine wpAny_newFunctionEnv_cells S.kind hkind λenv he s1 x=>?_
 subst he;refine⟨lim.keeps x.toInCall.keep,codeAny_func ?_⟩;obtain⟨t,ht,hq⟩:=hbody A outer s H vs Q E (hr.deeper _) hsp;have I:Inv (aGm CX P w K mg base N qual scope f cdv A outer s H E) [] (start N vs) H s1:=aTh S hr.hd e0 hl r x;refine wpAny_mono (ht [] s1 (start N vs) H _ I hq) (λfl s' hs=>?_) λe s' hs=>hs
 have fin:∀{σ':St}{H':Hp}{v:V}{u:Value},Inv (aGm CX P w K mg base N qual scope f cdv A outer s H E) [] σ' H' s'->RelV v u->Q v H'->CE outer P w H s Q u s':=
  λ{σ' H' v u} J rv q=>⟨v,H',J.os,J.bare,J.base,J.hok,rv,q⟩
 cases fl with
 |ret u=>
  obtain⟨v,σ',H',J,rv,q⟩:=hs;exact fin J rv q
 |next=>
  obtain⟨σ',H',J,q⟩:=hs;exact fin (v:=V.non) (u:=Value.none) J rfl q
 |brk=>
  obtain⟨_,_,_,q⟩:=hs;exact False.elim q
 |cont=>
  obtain⟨_,_,_,q⟩:=hs;exact False.elim q
end L2
namespace L2
open PySem PySem.Spec PyProof.Rows
section
variable{X:Cx}{x:Str}{p pos:Pos}{e:Expr}{es:List Expr}{t:TA}{id T:String}{r:List V->Hp->VK->Prop}
def tCB(r:List V->Hp->VK->Prop)(t:TA):TE:=λσ H Q=>t σ H λvs H1=>r vs H1 Q
theorem qG(hc:mG X (.builtin id) r)(hg:Gl X x)(hm:X.mg x=none)(hv:bootBuiltins x=some (.builtin id))(ha:PA X (e::es) t)(hn:x≠"__name__":=by decide)(hdb:(x==("__debug__":Str))=false:=by decide)
  (he:starEach (e::es) X.env=(false,eval e X.env)::starEach es X.env:=by rfl) (hpl:(backTo pos (starEach es X.env)).any (·.1)=false:=by rfl):PE X (.Call (.Name x p) (e::es) [] pos) (tCB r t):=by
 intro pins s σ H Q I h;refine wpAny_Call_Name_kw (aE4 I hg hm hv ?_ hn hdb);exact PyProof.Rows.callWith_builtin1 (thn (ha pos pins s σ H _ I h) λus s1 ⟨vs,H1,I1,r1,q1⟩=>hc pins s1 σ H1 vs us Q I1 r1 q1) he hpl
theorem vA(hc:mG X (.type T) r)(hg:Gl X x)(hm:X.mg x=none)(hv:bootBuiltins x=some (.type T))(ha:PA X (e::es) t)(hn:x≠"__name__":=by decide)(hdb:(x==("__debug__":Str))=false:=by decide)
  (he:starEach (e::es) X.env=(false,eval e X.env)::starEach es X.env:=by rfl) (hpl:(backTo pos (starEach es X.env)).any (·.1)=false:=by rfl):PE X (.Call (.Name x p) (e::es) [] pos) (tCB r t):=by
 intro pins s σ H Q I h;refine wpAny_Call_Name_kw (aE4 I hg hm hv ?_ hn hdb);exact PyProof.Rows.callWith_type1 (thn (ha pos pins s σ H _ I h) λus s1 ⟨vs,H1,I1,r1,q1⟩=>hc pins s1 σ H1 vs us Q I1 r1 q1) he hpl
end
end L2
namespace HT
open PySem PyProof.Rows
section
open PySem.SeqAt
open PySem.AutoSeq1 (wpAny_loadPart')
open PySem.MeetsSeq PySem.MeetsSeq2 PySem.MeetsSeq3
end
section
variable{prog:Program}{w:World}{A:Around}{E:Value->Shared->Prop}{s:Shared}
def sIx(n d:Nat):Option Int->Nat
 |none=>d
 |some v=>if v<0 then (v+(n:Int)).toNat else min v.toNat n
theorem sIx_none(n d:Nat):sIx n d none=d:=rfl
theorem sIx_nat(n d k:Nat):sIx n d (some (k:Int))=min k n:=by
 show (if (k:Int)<0 then ((k:Int)+(n:Int)).toNat else min (k:Int).toNat n)=min k n
 rw[if_neg (by omega),Int.toNat_natCast]
end
end HT
namespace L2
open PySem PySem.Spec PyProof.Rows
abbrev TO:=St->Hp->(Option Int->Hp->Prop)->Prop
def PO(X:Cx)(e:Option Expr)(t:TO):Prop:=
 ∀(pins:List (Addr×Obj)) (s:Shared) (σ:St) (H:Hp) (Q:Option Int->Hp->Prop),Inv X pins σ H s->t σ H Q->
  wpAny (model X.prog X.w) X.A (evalPart e X.env) (λu s'=>∃o H',Inv X pins σ H' s'/\IsPart u o/\Q o H') X.xe s
def aZq:TO:=λ_ H Q=>Q none H
def bHc(t:TE):TO:=λσ H Q=>t σ H λx H1=>∃i,x=.int i/\Q (some i) H1
section
variable{X:Cx}{e:Expr}{te:TE}{lo hi:Option Expr}{tl th:TO}{pos p2:Pos}
theorem aZr:PO X none aZq:=by
 intro pins s σ H Q I h;rw[evalPart_none];exact wpAny_pure ⟨none,H,I,.none,h⟩
theorem aZs(h:PE X e te):PO X (some e) (bHc te):=by
 intro pins s σ H Q I hw;rw[evalPart_some];refine thn (h pins s σ H _ I hw) λu s1 ⟨x,H1,I1,r1,q1⟩=>?_
 obtain⟨i,rfl,q⟩:=q1;obtain⟨t,rfl⟩:=r1;exact⟨some i,H1,I1,.int i t,q⟩
def SlR(X:Cx)(r:V->Option Int->Option Int->Hp->VK->Prop):Prop:=
 ∀(pins:List (Addr×Obj)) (s:Shared) (σ:St) (H:Hp) (x:V) (v vl vu:Value) (lo hi:Option Int) (sl:Addr) (Q:VK),Inv X pins σ H s->RelV x v->s.heap.IsSliceOf sl vl vu .none->IsPart vl lo->IsPart vu hi->r x lo hi H Q->
  ∃T id,typeLookup (.type T) "__getitem__"=pure (some (.builtin id))/\s.TypeIs v T/\wpAny (model X.prog X.w) X.A (getItem v (.ref sl)) (EP X pins σ Q) X.xe s
theorem SlR.or{r r':V->Option Int->Option Int->Hp->VK->Prop}(h:SlR X r)(h':SlR X r'):SlR X (λx lo hi H Q=>r x lo hi H Q\/r' x lo hi H Q):=by
 intro pins s σ H x v vl vu lo hi sl Q I rx hs pl pu q;rcases q with q|q
 .exact h pins s σ H x v vl vu lo hi sl Q I rx hs pl pu q
 .exact h' pins s σ H x v vl vu lo hi sl Q I rx hs pl pu q
def tSl(r:V->Option Int->Option Int->Hp->VK->Prop)(te:TE)(tl th:TO):TE:=λσ H Q=>te σ H λx H1=>tl σ H1 λl H2=>th σ H2 λu H3=>r x l u H3 Q
theorem aMu{r:V->Option Int->Option Int->Hp->VK->Prop}(hr:SlR X r)(he:PE X e te)(hl:PO X lo tl)(hu:PO X hi th):PE X (.Subscript e (.Slice lo hi none p2) pos) (tSl r te tl th):=by
 intro pins s σ H Q I h;refine Subscript_ (thn (he pins s σ H _ I h) λv s1 ⟨x,H1,I1,r1,q1⟩=>?_)
 refine wpAny_Slice (thn (hl pins s1 σ H1 _ I1 q1) λvl s2 ⟨l,H2,I2,pl,q2⟩=>thn (hu pins s2 σ H2 _ I2 q2) λvu s3 ⟨u,H3,I3,pu,q3⟩=>?_)
 rw[evalPart_none];refine wpAny_pure ?_
 have I4:Inv X pins σ H3 {s3 with heap:=s3.heap.push {cls:=.type "slice",data:=.fields #[vl,vu,.none]} }:=I3.kept (t':=s3.toks) λb ob q=>Heap.get?_push_of_some _ q
 obtain⟨T,id,hT,ht,hg⟩:=hr pins {s3 with heap:=s3.heap.push {cls:=.type "slice",data:=.fields #[vl,vu,.none]} } σ H3 x v vl vu l u s3.heap.objs.size Q I4 r1 (Heap.IsSliceOf.new ..) pl pu q3
 show wpAny (model X.prog X.w) X.A (subscriptTail e (.Slice lo hi none p2) v (.ref s3.heap.objs.size)) (EP X pins σ Q) X.xe {s3 with heap:=s3.heap.push {cls:=.type "slice",data:=.fields #[vl,vu,.none]} }
 exact tail_any (ops:=[.ref s3.heap.objs.size,v]) ht hT hg (by with_unfolding_all rfl)
def aTi(xs:List V)(lo hi:Option Int):List V:=(xs.drop (HT.sIx xs.length 0 lo)).take (HT.sIx xs.length xs.length hi-HT.sIx xs.length 0 lo)
theorem aMv(xs:List V)(lo hi:Option Int):(aTi xs lo hi).length<=xs.length:=by
 unfold aTi;rw[List.length_take,List.length_drop];omega
end
end L2
namespace L2
open PySem PySem.Spec PyProof.Rows
def ixN(n:Nat)(i:Int):Option Nat:=if 0<=i then (if i<n then some i.toNat else none) else if -(n:Int)<=i then some (i+n).toNat else none
def atI{α:Type}(xs:List α)(i:Int):Option α:=(ixN xs.length i).bind λj=>xs[j]?
theorem aZt{n:Nat}{i:Int}{j:Nat}(h:ixN n i=some j):seqIndex? i n=some j/\j<n/\-(n:Int)<=i/\i<n:=by
 unfold ixN at h
 by_cases h0:0<=i
 .rw[if_pos h0]at h
  by_cases h1:i<n
  .rw[if_pos h1]at h;have e:i.toNat=j:=Option.some.inj h;exact⟨by rw[seqIndex_of h0 h1,e],by omega,by omega,h1⟩
  .rw[if_neg h1]at h;cases h
 .rw[if_neg h0]at h
  by_cases h1 : -(n:Int)<=i
  .rw[if_pos h1]at h;have e:(i+n).toNat=j:=Option.some.inj h;exact⟨by rw[seqIndex_neg (by omega) h1,e],by omega,h1,by omega⟩
  .rw[if_neg h1]at h;cases h
theorem aKv{α:Type}{xs:List α}{i:Int}{v:α}(h:atI xs i=some v):∃j,seqIndex? i xs.length=some j/\xs[j]?=some v/\j<xs.length/\-(xs.length:Int)<=i/\i<xs.length:=by
 unfold atI at h;cases e:ixN xs.length i with
 |none=>rw[e]at h;cases h
 |some j=>
  rw[e]at h;obtain⟨h1,h2,h3,h4⟩:=aZt e;exact⟨j,h1,h,h2,h3,h4⟩
theorem atI_nat{α:Type}{xs:List α}{j:Nat}{v:α}(h:xs[j]?=some v):atI xs (j:Int)=some v:=by
 have hj:j<xs.length:=(List.getElem?_eq_some_iff.mp h).1;have e:ixN xs.length (j:Int)=some j:=by
  unfold ixN;rw[if_pos (by omega),if_pos (by omega)];simp
 unfold atI;rw[e];exact h
theorem atI_last{α:Type}(xs:List α)(v:α):atI (xs++[v]) (-1)=some v:=by
 have hl:(xs++[v]).length=xs.length+1:=by simp
 have e:ixN (xs++[v]).length (-1)=some xs.length:=by
  unfold ixN;rw[hl,if_neg (by decide),if_pos (by omega)]
  congr 1;omega
 unfold atI;rw[e];show (xs++[v])[xs.length]?=some v;simp
def aQz(b:Expr):Prop:=∀o i,subscripted b false o i=operate [o,i] (getItem o i)
def IxR(X:Cx)(r:R2):Prop:=
 ∀(value slice:Expr) (pins:List (Addr×Obj)) (s:Shared) (σ:St) (H:Hp) (x y:V) (v u:Value) (Q:VK),Inv X pins σ H s->RelV x v->RelV y u->r x y H Q->
  subscripted slice false v u=operate [v,u] (getItem v u)->wpAny (model X.prog X.w) X.A (subscriptTail value slice v u) (EP X pins σ Q) X.xe s
def MtR(X:Cx)(id:String)(r:V->List V->Hp->VK->Prop):Prop:=
 ∀(pins:List (Addr×Obj)) (s:Shared) (σ:St) (H:Hp) (x:V) (xs:List V) (v:Value) (us:List Value) (Q:VK),Inv X pins σ H s->RelV x v->Vals xs us->r x xs H Q->
  wpAny (model X.prog X.w) X.A (call (.builtin id) (v::us)) (EP X pins σ Q) X.xe s
section
variable{X:Cx}{a b:Expr}{ta tb:TE}{pos:Pos}
theorem IxR.or{r r':R2}(h:IxR X r)(h':IxR X r'):IxR X (λx y H Q=>r x y H Q\/r' x y H Q):=by
 intro value slice pins s σ H x y v u Q I rx ry q hs;rcases q with q|q
 .exact h value slice pins s σ H x y v u Q I rx ry q hs
 .exact h' value slice pins s σ H x y v u Q I rx ry q hs
theorem bHd{r:R2}(hr:IxR X r)(ha:PE X a ta)(hb:PE X b tb)(hs:aQz b):PE X (.Subscript a b pos) (tOp r ta tb):=by
 intro pins s σ H Q I h;exact Subscript_ (bDu ha hb I h λv u s2 x y H2 I2 rx ry q=>hr a b pins s2 σ H2 x y v u Q I2 rx ry q (hs _ _))
def bHe(K:PySem.W.Frag):R2:=λx y H Q=>∃p xs i v,x=.ref p/\y=.int i/\SqL K H p xs/\atI xs i=some v/\Q v H
def bHf(K:PySem.W.Frag):R2:=λx y H Q=>∃p xs i v,x=.ref p/\y=.int i/\SqT K H p xs/\atI xs i=some v/\Q v H
def bHg:R2:=λx y H Q=>∃z i c,x=.str z/\y=.int i/\z.length<=sizeLine/\atI z.cps.toList i=some c/\Q (.str ⟨#[c]⟩) H
theorem aZu:IxR X (bHe X.K):=by
 intro value slice pins s σ H x y v u Q I rx ry h hs;obtain⟨p,xs,i,z,rfl,rfl,hq,he,q⟩:=h;cases rx;obtain⟨t,rfl⟩:=ry;obtain⟨its,r,pl,hz⟩:=I.list hq;obtain⟨j,h1,h2,h3,h4,h5⟩:=aKv he;obtain⟨w,ew,rw'⟩:=r.get h2;have hl:=r.length;have hn:=aGl;have fin:EP X pins σ Q w s:=⟨z,H,I,rw',q⟩
 by_cases h0:0<=i
 .have hj:i.toNat=j:=by
   rw[seqIndex_of h0 h5]at h1;exact Option.some.inj h1
  exact item_listR pl.isList h0 (by omega) (by rw[hj];simpa using ew) fin hs
 .have hj:(i+(its.toArray.size:Int)).toNat=j:=by
   rw[seqIndex_neg (by omega) h4]at h1
   rw[List.size_toArray,<-hl];exact Option.some.inj h1
  exact subscriptTail_builtinR (x:=w) pl.isList.typeIs slot_list_getitem.lookup
   (wpAny_getItem_list_neg (Q:=λr s'=>r=w/\EP X pins σ Q r s') pl.isList (by omega) (by rw[List.size_toArray] <;> omega) (by omega) (by rw[hj];simpa using ew) ⟨rfl,fin⟩) hs
theorem bE7:IxR X (bHf X.K):=by
 intro value slice pins s σ H x y v u Q I rx ry h hs;obtain⟨p,xs,i,z,rfl,rfl,hq,he,q⟩:=h;cases rx;obtain⟨t,rfl⟩:=ry;obtain⟨its,r,pl,hz⟩:=I.tuple hq;obtain⟨j,h1,h2,h3,h4,h5⟩:=aKv he;obtain⟨w,ew,rw'⟩:=r.get h2;have hl:=r.length;have hn:=aGl;have fin:EP X pins σ Q w s:=⟨z,H,I,rw',q⟩;exact subscriptTail_builtinR (x:=w) pl.typeIs slot_tuple_getitem.lookup
  (getItem_tuple (j:=j) (Q:=λr s'=>r=w/\EP X pins σ Q r s') pl (by omega) (by omega) (by rw[List.size_toArray,<-hl];exact h1) (by simpa using ew) ⟨rfl,fin⟩) hs
theorem bE8:IxR X bHg:=by
 intro value slice pins s σ H x y v u Q I rx ry h hs;obtain⟨z,i,c,rfl,rfl,hz,he,q⟩:=h;obtain⟨t,rfl⟩:=rx;obtain⟨t',rfl⟩:=ry;obtain⟨j,h1,h2,h3,h4,h5⟩:=aKv he;have hl:z.cps.toList.length=z.length:=by simp[Str.length]
 rw[hl]at h1 h4 h5;have hn:=aGl;exact tail_any (typeIs_str s z t) slot_str_getitem.lookup (getItem_str (c:=c) (by
  have e1:decide (i < -(2^63:Int))=false:=decide_eq_false (by omega)
  have e2:decide (i ≥ 2^63)=false:=decide_eq_false (by omega)
  rw[e1,e2,Bool.or_false]) (by rw[h1];simpa using h2) ⟨.str ⟨#[c]⟩,H,I.tok _,⟨_,rfl⟩,q⟩) hs
def rIx(K:PySem.W.Frag):R2:=λx y H Q=>bHe K x y H Q\/bHf K x y H Q\/bHg x y H Q
theorem bE9:IxR X (rIx X.K):=aZu.or (bE7.or bE8)
theorem aKw(lo hi:Option Int)(n:Nat):(sliceBounds lo hi none n).1=((HT.sIx n 0 lo:Nat):Int)/\(sliceBounds lo hi none n).2.1=((HT.sIx n n hi:Nat):Int)/\(sliceBounds lo hi none n).2.2=1:=by
 refine⟨?_,?_,rfl⟩
 .cases lo with
  |none=>simp[sliceBounds,HT.sIx]
  |some i=>
   simp only[sliceBounds,HT.sIx,Option.getD_none,show (1:Int)>0 by decide,if_true]
   by_cases h:i<0
   .simp only[h,if_true] <;> omega
   .simp only[h,if_false] <;> omega
 .cases hi with
  |none=>simp[sliceBounds,HT.sIx]
  |some i=>
   simp only[sliceBounds,HT.sIx,Option.getD_none,show (1:Int)>0 by decide,if_true]
   by_cases h:i<0
   .simp only[h,if_true] <;> omega
   .simp only[h,if_false] <;> omega
theorem aJ0(its:List Value)(lo hi:Option Int):slicePick its.toArray lo hi none=((its.drop (HT.sIx its.length 0 lo)).take (HT.sIx its.length its.length hi-HT.sIx its.length 0 lo)).toArray:=by
 obtain⟨h1,h2,h3⟩:=aKw lo hi its.toArray.size;unfold slicePick;rw[h1,h2,h3];simp only[sliceRange_one,pick_run,List.size_toArray] <;> rfl
def bJv(K:PySem.W.Frag):V->Option Int->Option Int->Hp->VK->Prop:=λx lo hi H Q=>∃a xs,x=.ref a/\SqL K H a xs/\∀p,H p=none->Q (.ref p) (upd H p (.lst (aTi xs lo hi)))
theorem aR0:SlR X (bJv X.K):=by
 intro pins s σ H x v vl vu lo hi sl Q I rx hs pl pu h;obtain⟨a,xs,rfl,hx,q⟩:=h;cases rx;obtain⟨its,r,ht,hz⟩:=I.list hx;have hlen:=r.length;refine⟨"list",_,slot_list_getitem.lookup,ht.isList.typeIs,?_⟩;refine wpAny_getItem_list_slice ht.isList hs pl pu .none (by simp) ?_ (by rw[List.size_toArray] <;> omega)
 rw[aJ0,<-hlen];refine⟨.ref s.heap.objs.size,_,I.laid (t':=s.toks) (o:=.lst (aTi xs lo hi)) (λb ob q=>Heap.get?_push_of_some _ q) (Nat.le_refl _) ?_,rfl,q _ (I.hok.fresh (Nat.le_refl _))⟩
 exact⟨Nat.le_trans (aMv xs lo hi) hz,_,0,(r.drop (HT.sIx xs.length 0 lo)).take (HT.sIx xs.length xs.length hi-HT.sIx xs.length 0 lo),Heap.get?_push_size _ rfl⟩
theorem aKx:mG X (.builtin "len") (λxs H Q=>∃p ys,xs=[.ref p]/\(SqL X.K H p ys\/SqT X.K H p ys)/\Q (.int ys.length) H):=by
 intro pins s σ H xs us Q I r h;obtain⟨p,ys,rfl,hq,q⟩:=h;obtain⟨u,rfl,rx⟩:=vals1 r;cases rx;have hn:=aGl;rcases hq with hq|hq
 .obtain⟨its,r',pl,hz⟩:=I.list hq;have hlen:=r'.length;exact Calls.call_len_list pl.isList (by simp only[List.size_toArray] <;> omega) ⟨.int ys.length,H,I.tok _,⟨s.toks+1,by rw[List.size_toArray,hlen]⟩,q⟩
 .obtain⟨its,r',pl,hz⟩:=I.tuple hq;have hlen:=r'.length;exact len_tuple pl (by simp only[List.size_toArray] <;> omega) ⟨.int ys.length,H,I.tok _,⟨s.toks+1,by rw[List.size_toArray,hlen]⟩,q⟩
theorem aKy:mG X (.builtin "len") (λxs H Q=>∃z,xs=[.str z]/\z.length<=sizeLine/\Q (.int z.length) H):=by
 intro pins s σ H xs us Q I r h;obtain⟨z,rfl,hz,q⟩:=h;obtain⟨u,rfl,t,rfl⟩:=vals1 r;have hn:=aGl;exact len_str (by omega) ⟨.int z.length,H,I.tok _,⟨_,rfl⟩,q⟩
theorem mG.or{f:Value}{r r':List V->Hp->VK->Prop}(h:mG X f r)(h':mG X f r'):mG X f (λxs H Q=>r xs H Q\/r' xs H Q):=by
 intro pins s σ H xs us Q I rs q;rcases q with q|q
 .exact h pins s σ H xs us Q I rs q
 .exact h' pins s σ H xs us Q I rs q
def tyV(K:PySem.W.Frag)(T:String)(x:V)(H:Hp):Prop:=match x with
 |.str _=>T="str"
 |.int _=>T="int"
 |.ref p=>(T="list"/\∃xs,SqL K H p xs)\/(T="tuple"/\∃o,K.lookup p=some o/\o.cls=.type "tuple"/\o.dict=none)\/
   (T="dict"/\((∃kvs,H p=some (.dK kvs))\/∃kvs,H p=some (.dT kvs)))\/(T="set"/\∃S n,H p=some (.set S n))
 |_=>False
theorem aVs{pins:List (Addr×Obj)}{σ:St}{H:Hp}{s:Shared}{T:String}{x:V}{v:Value}(I:Inv X pins σ H s)(r:RelV x v)(ty:tyV X.K T x H) :
  s.TypeIs v T/\∀a,v=.ref a->∃ob,s.heap.get? a=some ob/\ob.dict=none:=by
 cases x with
 |str z=>
  obtain⟨t,rfl⟩:=r;cases (show T="str" from ty)
  exact⟨typeIs_str s z t,λ_ e=>nomatch e⟩
 |int i=>
  obtain⟨t,rfl⟩:=r;cases (show T="int" from ty)
  exact⟨typeIs_int s i t,λ_ e=>nomatch e⟩
 |ref p=>
  cases r;rcases ty with ⟨rfl,xs,hq⟩|⟨rfl,o,hk,hc,hd⟩|⟨rfl,hk⟩|⟨rfl,S,n,hk⟩
  .obtain⟨its,_,pl,_⟩:=I.list hq;refine⟨pl.isList.typeIs,λa e=>?_⟩
   cases e;obtain⟨o,n,e,c,hd,_⟩:=pl;exact⟨o,e,hd⟩
  .refine⟨⟨o,I.kIn p o hk,hc⟩,λa e=>?_⟩
   cases e;exact⟨o,I.kIn _ o hk,hd⟩
  .have z:∃o,s.heap.get? p=some o/\o.ExactDict:=by
    rcases hk with ⟨kvs,hk⟩|⟨kvs,hk⟩
    .obtain⟨_,_,_,_,o,_,_,e,ex,_⟩:=I.hok p _ hk;exact⟨o,e,ex⟩
    .obtain⟨_,_,_,_,o,_,_,e,ex,_⟩:=I.hok p _ hk;exact⟨o,e,ex⟩
   obtain⟨o,e,ex⟩:=z;refine⟨⟨o,e,ex.1⟩,λa e2=>?_⟩
   cases e2;exact⟨o,e,ex.2.1⟩
  .obtain⟨o,_,_,_,e,ex,_⟩:=I.hok p _ hk;refine⟨⟨o,e,ex.1⟩,λa e2=>?_⟩
   cases e2;exact⟨o,e,ex.2.1⟩
 |_=>exact False.elim ty
def bJw(K:PySem.W.Frag)(T:String)(r:V->List V->Hp->VK->Prop)(to:TE):TE:=λσ H Q=>to σ H λx H1=>tyV K T x H1/\r x [] H1 Q
def tBM(K:PySem.W.Frag)(T:String)(r:V->List V->Hp->VK->Prop)(to:TE)(t:TA):TE:=λσ H Q=>to σ H λx H1=>tyV K T x H1/\t σ H1 λxs H2=>r x xs H2 Q
variable{o e:Expr}{es:List Expr}{to:TE}{t:TA}{name:Str}{apos cpos:Pos}{T id:String}{r:V->List V->Hp->VK->Prop}
theorem aVt(pa:PlainAttrs T)(slot:Slot T name id)(hty:typeOf (.builtin id)=pure (.type "method_descriptor"))(hm:MtR X id r)(ho:PE X o to)
  (hbase:attributeBase o name X.env (eval o X.env)=eval o X.env:=by rfl) (hline:(apos.endLine==cpos.line)=true:=by rfl):PE X (.Call (.Attribute o name apos) [] [] cpos) (bJw X.K T r to):=by
 intro pins s σ H Q I h;refine wpAny_Call_method0_late hbase hline (thn (ho pins s σ H _ I h) λv s1 ⟨x,H1,I1,r1,ty,q1⟩=>?_)
 obtain⟨h1,h2⟩:=aVs I1 r1 ty;exact⟨T,id,pa,slot,hty,h1,h2,Calls.callWith_builtin rfl (PySem.evalArgs_none (hm pins s1 σ H1 x [] v [] Q I1 r1 .nil q1))⟩
theorem aR1(pa:PlainAttrs T)(slot:Slot T name id)(hty:typeOf (.builtin id)=pure (.type "method_descriptor"))(hm:MtR X id r)(ho:PE X o to)(ha:PA X (e::es) t)
  (hbase:attributeBase o name X.env (eval o X.env)=eval o X.env:=by rfl)
  (hfew:((backTo cpos (starEach (e::es) X.env)).all (λx=>!x.1)&&(backToKw cpos (keywordEach [] X.env)).all (λx=>x.1.isSome)
   && decide ((e::es).length+([]:List Keyword).length+(if ([]:List Keyword).isEmpty then 0 else 1)<30))=true:=by rfl)
  (hline:(apos.endLine==cpos.line)=true:=by rfl) (hs:starEach (e::es) X.env=(false,eval e X.env)::starEach es X.env:=by rfl) (hplain:(backTo cpos (starEach es X.env)).any (·.1)=false:=by rfl) :
  PE X (.Call (.Attribute o name apos) (e::es) [] cpos) (tBM X.K T r to t):=by
 intro pins s σ H Q I h;refine wpAny_Call_method_late hbase hfew hline rfl (thn (ho pins s σ H _ I h) λv s1 ⟨x,H1,I1,r1,ty,q1⟩=>?_)
 obtain⟨h1,h2⟩:=aVs I1 r1 ty;refine⟨T,id,pa,slot,hty,h1,h2,?_⟩;have hA:=ha cpos pins s1 σ H1 _ I1 q1;rw[hs]at hA ⊢;refine Calls.callWith_builtin (by show (false||(backTo cpos (starEach es X.env)).any (·.1))=false;rw[hplain] <;> rfl) (Calls.evalArgs_plain ?_)
 exact thn hA λus s2 ⟨vs,H2,I2,r2,q2⟩=>hm pins s2 σ H2 x vs v us Q I2 r1 r2 q2
end
end L2
namespace L2
open PySem PySem.Spec PyProof.Rows
def MtM(X:Cx)(id:String)(r:V->List V->Hp->VK->Prop):Prop:=
 ∀(pins:List (Addr×Obj)) (s:Shared) (σ:St) (H:Hp) (x:V) (xs:List V) (v:Value) (us:List Value) (Q:VK),Inv X pins σ H s->RelV x v->Vals xs us->r x xs H Q->
  wpAny (model X.prog X.w) X.A (call (.builtin id) (v::us)) (EP X pins σ Q) X.xe s
theorem Vals.one:∀{x:V}{us:List Value},Vals [x] us->∃u,us=[u]/\RelV x u
 |_,_,.cons r .nil=>⟨_,rfl,r⟩
theorem Vals.two:∀{x y:V}{us:List Value},Vals [x,y] us->∃u v,us=[u,v]/\RelV x u/\RelV y v
 |_,_,_,.cons r (.cons q .nil)=>⟨_,_,rfl,r,q⟩
theorem Vals.zero:∀{us:List Value},Vals [] us->us=[]
 |_,.nil=>rfl
theorem Vals.eraseIdx:∀{xs:List V}{us:List Value}(i:Nat),Vals xs us->Vals (xs.eraseIdx i) (us.eraseIdx i)
 |_,_,_,.nil=>.nil
 |_,_,0,.cons _ t=>t
 |_,_,i+1,.cons r t=>.cons r (Vals.eraseIdx i t)
theorem Vals.reverse{xs:List V}{us:List Value}(h:Vals xs us):Vals xs.reverse us.reverse:=by
 induction h with
 |nil=>exact .nil
 |cons r t ih=>rw[List.reverse_cons,List.reverse_cons];exact Vals.append ih (.cons r .nil)
theorem Vals.rep{xs:List V}{us:List Value}(h:Vals xs us):∀k:Nat,Vals (List.replicate k xs).flatten (List.replicate k us).flatten
 |0=>.nil
 |k+1=>by
  rw[List.replicate_succ,List.replicate_succ,List.flatten_cons,List.flatten_cons];exact Vals.append h (Vals.rep h k)
theorem foldl_rep(its:List Value):∀(k:Nat)(acc:List Value),
  List.foldl (λx1 x2=>x1++x2) acc.toArray (List.replicate k its.toArray)=(acc++(List.replicate k its).flatten).toArray
 |0,acc=>by simp
 |k+1,acc=>by
  have e:acc.toArray++its.toArray=(acc++its).toArray:=by simp
  have e2:(acc++its)++(List.replicate k its).flatten=acc++(List.replicate (k+1) its).flatten:=by
   rw[List.replicate_succ,List.flatten_cons,List.append_assoc]
  rw[<-e2,<-foldl_rep its k (acc++its),<-e,List.replicate_succ,List.foldl_cons]
section
variable{X:Cx}{pins:List (Addr×Obj)}{σ:St}{H:Hp}{s:Shared}{l b:Addr}{xs ys zs:List V}
theorem Inv.lset{its its':List Value}{n:Nat}{f:Array Value->Array Value}{t':Nat}(I:Inv X pins σ H s)(hH:H l=some (.lst xs))
  (e:s.heap.get? l=some {cls:=.type "list",data:=.seq its.toArray n}) (hf:f its.toArray=its'.toArray) (hv:Vals ys its') (hz:ys.length<=sizeLine) :
  Inv X pins σ (upd H l (.lst ys)) {s with heap:=s.heap.update l (Obj.mapSeq f),toks:=t'}:=by
 have q:=PySem.IsL.update e f;rw[hf]at q;refine I.write (x:=l) (e:=l) (by rw[hH];exact trivial) (.inl rfl) (λb' u hb hu=>(Heap.get?_update_other s.heap (Obj.mapSeq f) (Ne.symm hb)).trans hu) ⟨_,q⟩ ?_
 exact⟨hz,its',_,hv,q⟩
theorem Inv.lnew{its:List Value}{t':Nat}(I:Inv X pins σ H s)(hv:Vals ys its)(hz:ys.length<=sizeLine) :
  Inv X pins σ (upd H s.heap.objs.size (.lst ys)) {s with heap:=s.heap.push {cls:=.type "list",data:=.seq its.toArray},toks:=t'}:=
 I.laid (λ_ _ q=>Heap.get?_push_of_some _ q) (Nat.le_refl _) ⟨hz,its,0,hv,Heap.get?_push_size _ rfl⟩
theorem Inv.fresh(I:Inv X pins σ H s):H s.heap.objs.size=none:=I.hok.fresh (Nat.le_refl _)
theorem Inv.lstM(I:Inv X pins σ H s)(hH:H l=some (.lst xs)):xs.length<=sizeLine/\∃(its:List Value)(n:Nat),Vals xs its/\xs.length=its.length/\s.heap.get? l=some {cls:=.type "list",data:=.seq its.toArray n}:=by
 obtain⟨z,its,n,r,e⟩:=I.hok l _ hH;exact⟨z,its,n,r,r.length,e⟩
theorem aMw{n:Nat}(h:n<=sizeLine):Builtin.List.listTooLong n=false:=by
 unfold Builtin.List.listTooLong;exact decide_eq_false (by omega)
end
section
variable{X:Cx}
def aZv:V->List V->Hp->VK->Prop:=λx vs H Q=>∃l xs y,x=.ref l/\vs=[y]/\H l=some (.lst xs)/\xs.length<sizeLine/\Q .non (upd H l (.lst (xs++[y])))
theorem aTj:MtM X "list.append" aZv:=by
 intro pins s σ H x vs v us Q I rx rv h;obtain⟨l,xs,y,rfl,rfl,hH,hz,q⟩:=h;cases rx;obtain⟨u,rfl,ru⟩:=rv.one;obtain⟨z,its,n,r,hl,e⟩:=I.lstM hH;refine call_meets F.slot_list_append ⟨_,e,rfl⟩ F.entry_list_append (F.args_list_append_2 _ _) (PySem.list_append l its.toArray n u (by rw[List.size_toArray];omega)) ⟨e,?_⟩
 refine⟨.non,_,I.lset (its':=its++[u]) hH e (by simp) (r.append (.cons ru .nil)) ?_,rfl,q⟩
 rw[List.length_append,List.length_singleton];omega
def aZw:V->List V->Hp->VK->Prop:=λx vs H Q=>∃l b xs zs,x=.ref l/\vs=[.ref b]/\H l=some (.lst xs)/\H b=some (.lst zs)/\xs.length+zs.length<=sizeLine/\Q .non (upd H l (.lst (xs++zs)))
theorem aTk:MtM X "list.extend" aZw:=by
 intro pins s σ H x vs v us Q I rx rv h;obtain⟨l,b,xs,zs,rfl,rfl,hH,hB,hz,q⟩:=h;cases rx;obtain⟨u,rfl,ru⟩:=rv.one;cases ru;obtain⟨z,its,n,r,hl,e⟩:=I.lstM hH;obtain⟨z2,its2,n2,r2,hl2,e2⟩:=I.lstM hB;have hsz:its.toArray.size+its2.toArray.size<=sizeLine:=by rw[List.size_toArray,List.size_toArray];omega
 have hlong:¬ (!its.toArray.isEmpty&&Builtin.List.listTooLong (its.toArray.size+its2.toArray.size))=true:=by
  rw[aMw hsz,Bool.and_false];exact Bool.false_ne_true
 refine call_meets F.slot_list_extend ⟨_,e,rfl⟩ F.entry_list_extend (F.args_list_extend_2 _ _)
  (AutoSeq1.list_extend_list_list_0 l its.toArray n b its2.toArray n2 hlong (by rw[List.size_toArray];omega) (by omega)) ⟨e,e2,?_⟩
 refine⟨.non,_,I.lset (its':=its++its2) hH e (by simp) (r.append r2) ?_,rfl,q⟩
 rw[List.length_append];omega
def bJx:R2:=λx y H Q=>∃l k xs,x=.ref l/\y=.int k/\H l=some (.lst xs)/\-(2^63)<=k/\k<2^63/\xs.length*k.toNat<=sizeLine/\
 ∀p,H p=none->Q (.ref p) (upd H p (.lst (List.replicate k.toNat xs).flatten))
theorem len_rep{α:Type}(xs:List α)(k:Nat):(List.replicate k xs).flatten.length=k*xs.length:=by
 induction k with
 |zero=>simp
 |succ k ih=>rw[List.replicate_succ,List.flatten_cons,List.length_append,ih,Nat.succ_mul,Nat.add_comm]
theorem bEa:OpR X (binaryOp .Mult) bJx:=by
 intro pins s σ H x y v u Q I rx ry h;obtain⟨l,k,xs,rfl,rfl,hH,h1,h2,hz,q⟩:=h;cases rx;obtain⟨t,rfl⟩:=ry;obtain⟨z,its,n,r,hl,e⟩:=I.lstM hH;have hlen:its.toArray.size*k.toNat<=sizeLine:=by rw[List.size_toArray,<-hl];exact hz
 have hcap:¬ its.toArray.size*k.toNat>(2^63-1)/8:=by
  have:(sizeLine:Nat)<=(2^63-1)/8:=by decide
  omega
 have hfit:¬ (!Builtin.List.listFitsIndex k)=true:=by
  rw[fitsIndex_both h1 h2];exact Bool.false_ne_true
 have hlong:¬ Builtin.List.listTooLong (its.toArray.size*k.toNat)=true:=by
  rw[aMw hlen];exact Bool.false_ne_true
 have hnew:List.foldl (λx1 x2=>x1++x2) #[] (List.replicate (if its.toArray.isEmpty=true then 0 else k.toNat) its.toArray)=(List.replicate k.toNat its).flatten.toArray:=by
  have f0:∀m:Nat,List.foldl (λx1 x2=>x1++x2) #[] (List.replicate m its.toArray)=(List.replicate m its).flatten.toArray:=λm=>by
   have:=foldl_rep its m [];rw[List.nil_append]at this;exact this
  rw[f0];cases its with
  |nil=>simp
  |cons a r'=>rw[if_neg (by simp)]
 refine wpAny_binaryOp_repeat_ref (T:="list") (U:="int") (by decide) ⟨_,e,rfl⟩ (λs'=>typeIs_int s' k t) noFill_list_mul F.fills_int_mul F.slot_int_rmul repeat_list F.slot_int_index.lookup
  (call_meets F.slot_int_rmul (typeIs_int s k t) F.entry_int_rmul (F.args_int_rmul_2 _ _) (int___rmul___int_list k t l its.toArray n)
   ⟨e,rfl,⟨_,e,rfl⟩,call_meets F.slot_list_mul ⟨_,e,rfl⟩ F.entry_list_mul (F.args_list_mul_2 _ _) (AutoListH.list___mul___list_int_3 l its.toArray n k t hfit hcap hlong) ⟨e,?_⟩⟩)
 rw[hnew];exact⟨.ref _,_,I.lnew (t':=s.toks) (r.rep k.toNat) (by rw[len_rep,Nat.mul_comm];exact hz),rfl,q _ I.fresh⟩
end
end L2
namespace Att
open PySem PySem.W PySem.Calls PyProof.Rows
theorem aFq{P:Params}{h:Heap}:∀(ns:List Int)(vs:List Value),WellAll P h vs (ns.map WData.int)->IntsAre vs ns:=by
 intro ns
 induction ns with
 |nil=>
  intro vs w;rw[List.map_nil]at w;cases w;exact .nil
 |cons n ns ih=>
  intro vs w;rw[List.map_cons]at w;cases w with
  |cons a b=>
   cases a;exact .cons _ _ (ih _ b)
theorem aTl{l:OpenLaw}{n:Nat}(hn:l.most=some n){P:Params}{h:Heap}{args:List WData}{vals:List Value}
  (hpre:l.row.toRowW.claim.pre args=true) (hwl:WellAll P h vals args) :
  ∃a vs ns,vals=[Value.ref a]/\args=[WData.list (ns.map WData.int)]/\h.get? a=some {cls:=.type "list",data:=.seq vs.toArray}/\IntsAre vs ns/\ns.length<=n:=by
 have hsh:WShape.hasAll [] args [.list .int]=true:=(pre_splitW hpre).1;have hc:l.pre.holds [] {args:=args}=true:=(pre_splitW hpre).2;obtain⟨d,r,rfl,h1,h2⟩:=hasAllW_cons hsh;obtain rfl:=hasAllW_nil h2;obtain⟨xs,rfl,h3⟩:=hasW_list h1;obtain⟨ns,rfl⟩:=items_int h3;have hlen:ns.length<=n:=by
  unfold OpenLaw.pre at hc;have h4:(WTm.not (.lt (.lit (.int (n:Int))) (.len (.arg 0)))).holds [] {args:=[.list (ns.map .int)]}=true:=by
   have h4:=(holds_andW hc).1;rw[hn]at h4;exact h4
  have h5:=condW_of h4 (w_not (w_lt w_lit (w_len_list (w_arg rfl))));rw[List.length_map]at h5;refine Nat.le_of_not_lt λq=>?_
  have q':(n:Int)<((ns.length:Nat):Int):=by omega
  first
   |(rw[decide_eq_true q']at h5;exact absurd h5 (by decide))
   |(simp at h5;omega)
 cases hwl with
 |cons w1 w2=>
  cases w2;cases w1 with
  |list ho hall=>exact⟨_,_,ns,rfl,rfl,ho,aFq ns _ hall,hlen⟩
theorem aTm(l:OpenLaw)(args:List WData):l.row.toRowW.claim.post args (.bool true) args=true:=
 postW_of (r:=l.row.toRowW) (X:=(true==true))
  (show WShape.has [] (.bool true) .bool=true by first|rfl|decide|simp[WShape.has,WShape.arms,WShape.armsAll])
  (show (WTm.eq .res (.lit (.bool true))).value [] {args:=args,res:=some (.bool true),after:=args}=some (.bool (true==true)) from w_eq_bool (w_res rfl) w_lit) rfl
theorem attach_call{l:OpenLaw}{n:Nat}{q:Program}{loose:List Str}{XP:(Str->Option Value)->Heap->Prop}{YP:World->Heap->Prop}{d:DefRec}
  (hn:l.most=some n) (hdf:d.params.defaults=[])
  (call:∀(w:World)(s₀ s₁:Shared)(mg mb:Str->Option Value)(fa:Addr)(o:Obj)(pm cd doc:Value)(a:Addr)(vs:List Value)(ns:List Int),
   Ground q loose [] XP w s₀ mg mb s₁.heap->YP w s₁.heap->
   s₁.heap.get? fa=some o->o.data=.func (docDef d.name d.params d.body d.scope pm cd doc)->s₁.heap.CodeRec cd d.name->mg d.name=some (.ref fa)->
   s₁.heap.get? a=some {cls:=.type "list",data:=.seq vs.toArray}->IntsAre vs ns->ns.length<=n->s₁.gens = #[]->
   codeAny (model l.prog w) callerA (.call (.ref fa) ⟨[.ref a],[]⟩) (λr s'=>r=.ok (.ret (.bool true))/\OldK s₁.heap s'.heap/\s'.os=s₁.os/\AllBare s'.gens) s₁) :
  WalkO q loose XP YP l.row.toRowW d [] (λf vs=>PySem.call f vs):=by
 intro w s₀ s₁ mg mb G Y fa o pm cd doc dV kV ho hd hcd hD hmg hg args vals as hpre hlay hrd hwl hlo;obtain rfl:dV=.none:=Dflts.none hD hdf;obtain rfl:kV=.none:=Dflts.noKw hD;obtain⟨a,vs,ns,rfl,rfl,hobj,hints,hlen⟩:=aTl hn hpre hwl;refine enter_call (codeAny_mono (call w s₀ s₁ mg mb fa o pm cd doc a vs ns G Y ho (fd_plain hd) hcd hmg hobj hints hlen hg) λr s' hq=>?_)
 obtain⟨rfl,h2,h3,h4⟩:=hq;exact⟨.inl ⟨.bool true,.bool true,[],rfl,λ_=>rfl,.bool true,aTm l _,λ_=>⟨List.Pairwise.nil,λ_ hm=>(nomatch hm)⟩⟩,h2,h3,h4⟩
end Att
namespace L2
open PySem PySem.Spec PyProof.Rows
theorem vals_ints:∀{vs:List Value}{ns:List Int},IntsAre vs ns->Vals (ns.map V.int) vs
 |_,_,.nil=>.nil
 |_,_,.cons n t h=>.cons ⟨t,rfl⟩ (vals_ints h)
def Only(H:Hp):Prop:=∀b,H b=none\/∃o xs,H b=some (.frz o (.lst xs))
theorem aVu{P:Program}{w:World}{K:PySem.W.Frag}{mg mb:Str->Option Value}{CX:CXT}{k:Nat}{fa a:Addr}{fd:FuncData}{x:Str}{sp:Sp}{s₁:Shared}{vs:List Value}{ns:List Int}
  (KX:K.In s₁.heap) (hns:s₁.heap.Ns mainGlobals mg) (hb:s₁.heap.Ns builtinsNs mb) (hbb:∀x:Str,x≠"__name__"->mb x=bootBuiltins x) (hlim:s₁.heap.NoLimit) (hg:s₁.gens = #[])
  (ha:s₁.heap.get? a=some {cls:=.type "list",data:=.seq vs.toArray}) (hi:IntsAre vs ns) (hl:ns.length<=sizeLine) (hr:Room k callerA)
  (F:∀base:Heap,K.In base->base.Ns mainGlobals mg->FnOk P w K mg base CX k fa fd [x] sp) (hbind:∀(s:Shared)(u:Value),BindsTo s fd ⟨[u],[]⟩ [(x,u)])
  (hsp:∀H:Hp,Only H->SqL K H a (ns.map V.int)->sp [.ref a] H (λv _=>v=.bl true) λ_ _ _=>False)
  (hCX:∀H e s',CX [] H s₁ (λ_ _ _=>False) e s'->False) :
  codeAny (model P w) callerA (.call (.ref fa) ⟨[.ref a],[]⟩) (λr s'=>r=.ok (.ret (.bool true))/\OldK s₁.heap s'.heap/\s'.os=s₁.os/\AllBare s'.gens) s₁:=by
 have rv:=vals_ints hi;have lenV:=hi.length;have core:∀H:Hp,Only H->SqL K H a (ns.map V.int)->HOk P w H s₁.heap->(∀b,H b≠none->b=a)->(H a≠none->K.lookup a=none)->
   codeAny (model P w) callerA (.call (.ref fa) ⟨[.ref a],[]⟩) (λr s'=>r=.ok (.ret (.bool true))/\OldK s₁.heap s'.heap/\s'.os=s₁.os/\AllBare s'.gens) s₁:=by
  intro H hO hS hok hA hK;have base_of:∀{b:Addr}{o:Obj},s₁.heap.get? b=some o->H b=none->(aKo s₁.heap H).get? b=some o:=λe n=>aVb e n
  have noA:∀{b:Addr}{o:Obj}{es:Array DictEntry}{ep:Nat},s₁.heap.get? b=some o->o.data=.dict es ep->H b=none:=λ{b o es ep} e d=>by
   cases q:H b with
   |none=>rfl
   |some u=>
    have e':b=a:=hA b (by rw[q];simp)
    subst e';rw[ha]at e;cases e;have d':Data.seq vs.toArray _=Data.dict es ep:=d;cases d'
  have nsK:∀{b:Addr}{m:Str->Option Value},s₁.heap.Ns b m->(aKo s₁.heap H).Ns b m:=λ{b m} ⟨o,es,ep,e,d,r⟩=>⟨o,es,ep,base_of e (noA e d),d,r⟩
  have hKb:K.In (aKo s₁.heap H):=λb o e=>base_of (KX b o e) (by
   cases q:H b with
   |none=>rfl
   |some u=>
    have e':b=a:=hA b (by rw[q];simp)
    subst e';rw[hK (by rw[q];simp)]at e;cases e)
  have hM:Mod K mg (aKo s₁.heap H):=⟨hKb,nsK hns,⟨mb,nsK hb,hbb⟩,let ⟨mc,h1,h2⟩:=hlim;⟨mc,nsK h1,h2⟩⟩;have e0:Env0 P w K mg (aKo s₁.heap H) callerA [] s₁ H:=⟨rfl,hM,λb o e=>aZa e,Nat.le_of_eq (aT6 _ _),trivial,λb hb=>absurd (show b∈([]:List Addr) from hb) (by simp),hok,.of_eq hg⟩
  refine codeAny_mono ((F _ hKb (nsK hns)).run callerA [] s₁ H ⟨[.ref a],[]⟩ [.ref a] [.ref a] _ _ hr e0 (hbind s₁ (.ref a)) (.cons rfl .nil) (hsp H hO hS)) λr s' h=>?_
  cases r with
  |error e=>exact(hCX H e s' h).elim
  |ok fl=>
   cases fl with
   |next=>exact False.elim h
   |brk=>exact False.elim h
   |cont=>exact False.elim h
   |ret u=>
    obtain⟨v,H',os,bare,un,hok',r',q⟩:=h;have q':v=.bl true:=q;subst q';obtain rfl:u=Value.bool true:=r';refine⟨rfl,OldK.of_keep λb o e=>?_,os,bare⟩
    cases q:H b with
    |none=>exact un.keep b o e q (by intro z;exact absurd (show b∈([]:List Addr) from z) (by simp)) (by simp)
    |some u=>
     rcases hO b with z|⟨ob,xs,z⟩
     .rw[q]at z;cases z
     .have z2:=un.frzs b ob _ z;obtain⟨e1,_⟩:=hok b _ z;obtain⟨e2,_⟩:=hok' b _ z2;rw[e]at e1;cases e1;exact e2
 cases hk:K.lookup a with
 |some o=>
  have e:=KX a o hk;rw[ha]at e;cases e;refine core (λ_=>none) (λ_=>.inl rfl) (.inr ⟨_,vs.toArray,_,hk,rfl,rfl,rfl,by rw[List.size_toArray,lenV];exact hl,by simpa using rv⟩) (λb u z=>by have z':(none:Option HO)=some u:=z;cases z') (λb z=>absurd rfl z) λz=>absurd rfl z
 |none=>
  refine core (λb=>if b=a then some (.frz {cls:=.type "list",data:=.seq vs.toArray} (.lst (ns.map V.int))) else none) (λb=>?_) (.inl (.inr ⟨{cls:=.type "list",data:=.seq vs.toArray},if_pos rfl⟩)) (λb u z=>?_) (λb z=>?_) λ_=>hk
  .by_cases hb:b=a
   .exact .inr ⟨_,_,if_pos hb⟩
   .exact .inl (if_neg hb)
  .by_cases hb:b=a
   .have z':=(if_pos hb).symm.trans z;cases z';subst hb;exact⟨ha,by rw[List.length_map];exact hl,vs,_,rv,ha⟩
   .have z':=(if_neg hb).symm.trans z;cases z'
  .by_cases hb:b=a
   .exact hb
   .exact absurd (if_neg hb) z
end L2
namespace L2
open PySem PySem.Spec PyProof.Rows
theorem walk_of{l:PySem.W.OpenLaw}{n k:Nat}{q:Program}{loose:List Str}{XP:(Str->Option Value)->Heap->Prop}{YP:World->Heap->Prop}{d:DefRec}{K:Params->PySem.W.Frag}{CX:World->CXT}{sp:World->Sp}{x:Str}
  (hn:l.most=some n) (hn2:n<=sizeLine) (hdf:d.params.defaults=[]) (hr:Room k callerA)
  (hY:∀(w:World)(h:Heap),YP w h->(K w.params).In h)
  (F:∀(w:World)(mg:Str->Option Value)(fa:Addr)(h:Heap),(K w.params).In h->h.Ns mainGlobals mg->mg d.name=some (.ref fa)->
   ∃fd:FuncData,(∀(s:Shared)(u:Value),BindsTo s fd ⟨[u],[]⟩ [(x,u)])/\
    ∀base:Heap,(K w.params).In base->base.Ns mainGlobals mg->FnOk l.prog w (K w.params) mg base (CX w) k fa fd [x] (sp w))
  (hsp:∀(w:World)(H:Hp)(a:Addr)(ns:List Int),ns.length<=n->Only H->SqL (K w.params) H a (ns.map V.int)->sp w [.ref a] H (λv _=>v=.bl true) λ_ _ _=>False)
  (hCX:∀(w:World)(H:Hp)(s:Shared)(e:Value)(s':Shared),CX w [] H s (λ_ _ _=>False) e s'->False) :
  PySem.W.WalkO q loose XP YP l.row.toRowW d [] (λf vs=>PySem.call f vs):=by
 refine Att.attach_call hn hdf λw s₀ s₁ mg mb fa o pm cd doc a vs ns G Y ho hd hcd hmg hobj hints hlen hg=>?_
 have KX:=hY w _ Y;obtain⟨fd,hb,hF⟩:=F w mg fa _ KX G.T.g hmg;exact aVu KX G.T.g G.T.b G.T.builtins G.T.nolimit hg hobj hints (Nat.le_trans hlen hn2) hr hF hb (λH hO hS=>hsp w H a ns hlen hO hS) λH e s'=>hCX w H s₁ e s'
end L2
namespace L2
open PySem PySem.Spec PyProof.Rows
def fX(s:Stmt):Arguments:=match s with
 |.FunctionDef _ a _ _ _ _ _ _ _ _=>a
 |_=>{posonlyargs:=[],args:=[],vararg:=none,kwonlyargs:=[],kw_defaults:=[],kwarg:=none,defaults:=[]}
def dO(s:Stmt):List Stmt:=match s with
 |.FunctionDef _ _ b _ _ _ _ _ _ _=>b
 |_=>[]
def aG(s:Stmt):Scope:=match s with
 |.FunctionDef _ _ _ _ _ _ sc _ _ _=>sc
 |_=>{kind:=.function,names:=[],isGenerator:=false,isCoroutine:=false}
abbrev CX0:CXT:=λ_ _ _ _ _ _=>False
abbrev E0:XK:=λ_ _ _=>False
theorem aMx{X:Cx}:aE6 CX0 X E0:=λ_ _ _ _ _ _ _ h=>h.elim
structure Fun(K:PySem.W.Frag)(x qual:Str)(st:Stmt)(f:Addr)(fd:FuncData):Prop where
 ex:∃(oc:Value)(od:Option Addr)(kV doc pm:Value)(an:Option Addr)(cdv ct:Value) (osl:Array (Option Value)),
  fd=PySem.W.fnOf x qual (fX st) (dO st) (aG st) .none kV doc pm an cdv ct/\K.lookup f=some ⟨oc,od,.func fd,osl⟩/\PySem.W.codeIn K cdv qual=true
 kp:PySem.W.keepIn K (.ref f)=true
section
variable{P:Program}{w:World}{K:PySem.W.Frag}{mg:Str->Option Value}{base:Heap}
theorem Fun.ok{x qual:Str}{st:Stmt}{f:Addr}{fd:FuncData}{N ps:List Str}{k:Nat}{sp:Sp}(F:Fun K x qual st f fd)(S:FnScope N ps (aG st))(len:∀vs H Q E,sp vs H Q E->vs.length=ps.length)
  (hbody:∀(cdv:Value)(A:Around)(outer:List Env)(s:Shared)(H:Hp)(vs:List V)(Q:VK)(E:XK),Room k (A.deeper (envOfC qual (aG st) s.heap.objs.size f cdv))->sp vs H Q E->
   ∃t,PSs (aGm CX0 P w K mg base N qual (aG st) f cdv A outer s H E).nox (dO st) t/\t {nx:=λ_ H'=>Q .non H',rt:=Q} (start N vs) H):FnOk P w K mg base CX0 (k+1) f fd ps sp:=by
 obtain⟨oc,od,kV,doc,pm,an,cdv,ct,osl,rfl,lk,hcd⟩:=F.ex;refine bCq lk hcd S len λA outer s H vs Q E hr hsp=>?_
 obtain⟨t,h,q⟩:=hbody cdv A outer s H vs Q E hr hsp;exact⟨t,h.nox,q⟩
theorem Fun.binds{x qual:Str}{st:Stmt}{f:Addr}{fd:FuncData}{ps:List Str}(F:Fun K x qual st f fd)
  (h:∀(kV doc pm:Value)(an:Option Addr)(cdv ct:Value)(us:List Value),us.length=ps.length->bindArgs (PySem.W.fnOf x qual (fX st) (dO st) (aG st) .none kV doc pm an cdv ct) ⟨us,[]⟩=pure (ps.zip us)):Binds K fd ps []:=by
 obtain⟨oc,od,kV,doc,pm,an,cdv,ct,osl,rfl,lk,hcd⟩:=F.ex;exact .all (h kV doc pm an cdv ct)
theorem bEb{x qual:Str}{st:Stmt}{f:Addr}{oc:Value}{od an:Option Addr}{osl:Array (Option Value)}{kV doc pm cdv ct:Value}(l:K.lookup f=some ⟨oc,od,.func (PySem.W.fnOf x qual (fX st) (dO st) (aG st) .none kV doc pm an cdv ct),osl⟩)
  (c:PySem.W.codeIn K cdv qual=true) (k:PySem.W.keepIn K (.ref f)=true):Fun K x qual st f (PySem.W.fnOf x qual (fX st) (dO st) (aG st) .none kV doc pm an cdv ct):=⟨⟨oc,od,kV,doc,pm,an,cdv,ct,osl,rfl,l,c⟩,k⟩
end
section
variable{X:Cx}
theorem pv(i:Nat){x:Str}{pos:Pos}(hN:X.N[i]?=some x:=by rfl)(hv:Vis X.env.scope x:=by first|exact Or.inl rfl|exact Or.inr (Or.inl rfl)|exact Or.inr (Or.inr rfl))(hd:(x==("__debug__":Str))=false:=by decide)
  (hcd:(x==("__classdict__":Str))=false:=by decide):PE X (.Name x pos) (bGs i):=yL hN hv hd hcd
end
def bF(H H':Hp):Prop:=∀b o,H b=some o->H' b=some o
theorem bF.refl(H:Hp):bF H H:=λ_ _ h=>h
theorem bF.trans{H H1 H2:Hp}(a:bF H H1)(b:bF H1 H2):bF H H2:=λc o h=>b c o (a c o h)
theorem bF.free{H H':Hp}(e:bF H H'){l:Addr}(h:H' l=Option.none):H l=Option.none:=by
 cases q:H l with
 |none=>rfl
 |some o=>
  rw[e l o q]at h;cases h
theorem bF.seq{K:PySem.W.Frag}{H H':Hp}{a:Addr}{xs:List V}(e:bF H H')(h:SqL K H a xs):SqL K H' a xs:=by
 rcases h with (h|⟨o,h⟩)|h
 .exact .inl (.inl (e _ _ h))
 .exact .inl (.inr ⟨o,e _ _ h⟩)
 .exact .inr h
end L2
namespace L2
open PySem PySem.Spec PyProof.Rows
section
variable{κ:Type}[DecidableEq κ]
def aCi(kvs:List (κ×V))(k:κ):Option V:=(kvs.find? λkv=>decide (kv.1=k)).map (·.2)
def putK(kvs:List (κ×V))(k:κ)(v:V):List (κ×V):=
 if (kvs.any λkv=>decide (kv.1=k))=true then kvs.map (λkv=>if kv.1=k then (kv.1,v) else kv) else kvs++[(k,v)]
def bCr(kvs:List (κ×V))(k:κ):List (κ×V):=kvs.filter λkv=>decide (kv.1≠k)
theorem yM{p:κ×V}{r:List (κ×V)}{k:κ}(e:p.1=k):aCi (p::r) k=some p.2:=by simp[aCi,List.find?_cons,e]
theorem yN{p:κ×V}{r:List (κ×V)}{k:κ}(e:¬ p.1=k):aCi (p::r) k=aCi r k:=by simp[aCi,List.find?_cons,e]
theorem aMy(k:κ):∀kvs:List (κ×V),(kvs.any λkv=>decide (kv.1=k))=(aCi kvs k).isSome
 |[]=>rfl
 |p::r=>by
  rw[List.any_cons]
  by_cases e:p.1=k
  .simp only[yM e,decide_eq_true e,Bool.true_or,Option.isSome_some]
  .rw[yN e,decide_eq_false e,Bool.false_or];exact aMy k r
theorem yO(kvs:List (κ×V))(k:κ)(v:V):(putK kvs k v).length<=kvs.length+1:=by
 unfold putK;split
 .rw[List.length_map];omega
 .rw[List.length_append,List.length_cons,List.length_nil];omega
theorem vZ.isSome_eq{o:Option V}{u:Option Value}(r:vZ o u):o.isSome=u.isSome:=by
 cases o with
 |none=>cases u with
  |none=>rfl
  |some _=>exact(show False from r).elim
 |some _=>cases u with
  |none=>exact(show False from r).elim
  |some _=>rfl
theorem vZ.getD{o:Option V}{u:Option Value}{d:V}{d':Value}(r:vZ o u)(rd:RelV d d'):RelV (o.getD d) (u.getD d'):=by
 cases o with
 |none=>cases u with
  |none=>exact rd
  |some _=>exact(show False from r).elim
 |some _=>cases u with
  |none=>exact(show False from r).elim
  |some _=>exact r
theorem KV.val{kvs:List (κ×V)}{vs:List (κ×Value)}(r:KV kvs vs)(k:κ):vZ (aCi kvs k) (valueAt vs k):=by
 unfold KV at r
 induction r with
 |nil=>exact True.intro
 |@cons p q ps qs h t ih=>
  obtain⟨h1,h2⟩:=h
  by_cases e:p.1=k
  .have e':q.1=k:=h1.symm.trans e;have b:valueAt (q::qs) k=some q.2:=by simp[valueAt,List.find?_cons,e']
   rw[yM e,b];exact h2
  .have e':¬ q.1=k:=λz=>e (h1.trans z)
   have b:valueAt (q::qs) k=valueAt qs k:=by simp[valueAt,List.find?_cons,e']
   rw[yN e,b];exact ih
theorem KV.any{kvs:List (κ×V)}{vs:List (κ×Value)}(r:KV kvs vs)(k:κ):(kvs.any λkv=>decide (kv.1=k))=vs.any λkv=>decide (kv.1=k):=by
 unfold KV at r
 induction r with
 |nil=>rfl
 |cons h t ih=>rw[List.any_cons,List.any_cons,ih,h.1]
theorem KV.repl{kvs:List (κ×V)}{vs:List (κ×Value)}(r:KV kvs vs)(k:κ){y:V}{u:Value}(ry:RelV y u) :
  KV (kvs.map λkv=>if kv.1=k then (kv.1,y) else kv) (vs.map λkv=>if kv.1=k then (kv.1,u) else kv):=by
 unfold KV at r ⊢
 induction r with
 |nil=>exact .nil
 |@cons p q ps qs h t ih=>
  rw[List.map_cons,List.map_cons];refine .cons ?_ ih;obtain⟨h1,h2⟩:=h
  by_cases e:p.1=k
  .rw[if_pos e,if_pos (h1.symm.trans e)];exact⟨h1,ry⟩
  .rw[if_neg e,if_neg (λz=>e (h1.trans z))];exact⟨h1,h2⟩
theorem KV.put{kvs:List (κ×V)}{vs:List (κ×Value)}(r:KV kvs vs)(k:κ){y:V}{u:Value}(ry:RelV y u):KV (putK kvs k y) (stored vs k u):=by
 unfold putK stored;rw[r.any k]
 by_cases e:(vs.any λkv=>decide (kv.1=k))=true
 .rw[if_pos e,if_pos e];exact r.repl k ry
 .rw[if_neg e,if_neg e];exact Paired.snoc r ⟨rfl,ry⟩
theorem KV.drop{kvs:List (κ×V)}{vs:List (κ×Value)}(r:KV kvs vs)(k:κ):KV (bCr kvs k) (without vs k):=by
 unfold KV at r ⊢;unfold bCr without
 induction r with
 |nil=>exact .nil
 |@cons p q ps qs h t ih=>
  obtain⟨h1,h2⟩:=h;rw[List.filter_cons,List.filter_cons]
  by_cases e:p.1=k
  .have a:¬ decide (p.1≠k)=true:=by simp[e]
   have b:¬ decide (q.1≠k)=true:=by simp[h1.symm.trans e]
   rw[if_neg a,if_neg b];exact ih
  .have e':¬ q.1=k:=λz=>e (h1.trans z)
   have a:decide (p.1≠k)=true:=by simp[e]
   have b:decide (q.1≠k)=true:=by simp[e']
   rw[if_pos a,if_pos b];exact .cons ⟨h1,h2⟩ ih
theorem KV.length{kvs:List (κ×V)}{vs:List (κ×Value)}(r:KV kvs vs):kvs.length=vs.length:=Paired.length r
end
theorem aGn{P:Program}{w:World}{k:Key}{u:Value}(r:RelV (kV k) u):(fO P w).is k u=true:=by
 cases k with
 |inl i=>obtain⟨t,e⟩:=(show ∃t,u=Value.int i t from r);subst e;exact aMp P w i t
 |inr x=>obtain⟨t,e⟩:=(show ∃t,u=Value.str x t from r);subst e;exact aMq P w x t
theorem aJg{P:Program}{w:World}:∀{ks:List Key}{us:List Value},Vals (ks.map kV) us->ItemsAre (fO P w) ks us
 |[],_,r=>by rw[List.map_nil]at r;cases r;exact .nil
 |k::ks,_,r=>by
  rw[List.map_cons]at r;cases r with
  |cons h t=>exact .cons (aGn h) (aJg t)
abbrev KT(H:Hp):List (List Key×V)->List (List Key×Addr×Value)->Prop:=Paired λp q=>p.1=q.1/\H q.2.1=some (.tup (p.1.map kV))/\RelV p.2 q.2.2
theorem KT.val{H:Hp}{kvs:List (List Key×V)}{xs:List (List Key×Addr×Value)}(r:KT H kvs xs)(k:List Key):vZ (aCi kvs k) ((atKey xs k).map (·.2)):=by
 induction r with
 |nil=>exact True.intro
 |@cons p q ps qs h t ih=>
  obtain⟨h1,_,h2⟩:=h
  by_cases e:p.1=k
  .have e':q.1=k:=h1.symm.trans e;have b:atKey (q::qs) k=some q.2:=by simp[atKey,List.find?_cons,e']
   rw[yM e,b];exact h2
  .have e':¬ q.1=k:=λz=>e (h1.trans z)
   have b:atKey (q::qs) k=atKey qs k:=by simp[atKey,List.find?_cons,e']
   rw[yN e,b];exact ih
theorem KT.repl{H:Hp}{kvs:List (List Key×V)}{xs:List (List Key×Addr×Value)}(r:KT H kvs xs)(k:List Key){y:V}{u:Value}(ry:RelV y u) :
  KT H (kvs.map λkv=>if kv.1=k then (kv.1,y) else kv) (xs.map (putAt k u)):=by
 induction r with
 |nil=>exact .nil
 |@cons p q ps qs h t ih=>
  rw[List.map_cons,List.map_cons];refine .cons ?_ ih;obtain⟨h1,h2,h3⟩:=h;unfold putAt
  by_cases e:p.1=k
  .rw[if_pos e,if_pos (h1.symm.trans e)];exact⟨h1,h2,ry⟩
  .rw[if_neg e,if_neg (λz=>e (h1.trans z))];exact⟨h1,h2,h3⟩
theorem KT.put{H:Hp}{kvs:List (List Key×V)}{xs:List (List Key×Addr×Value)}(r:KT H kvs xs)(k:List Key){b:Addr}{y:V}{u:Value}(hb:H b=some (.tup (k.map kV)))(ry:RelV y u) :
  KT H (putK kvs k y) (storedH xs k b u):=by
 have e:(kvs.any λkv=>decide (kv.1=k))=(atKey xs k).isSome:=by
  rw[aMy,(r.val k).isSome_eq,Option.isSome_map]
 unfold putK storedH;rw[e]
 by_cases q:(atKey xs k).isSome=true
 .rw[if_pos q,if_pos q];exact r.repl k ry
 .rw[if_neg q,if_neg q];exact Paired.snoc r ⟨rfl,hb,ry⟩
theorem KT.keeps{H H':Hp}{kvs:List (List Key×V)}{xs:List (List Key×Addr×Value)}(r:KT H kvs xs)(ht:∀b ys,H b=some (.tup ys)->H' b=some (.tup ys)):KT H' kvs xs:=
 Paired.mapP r λ_ _ z=>⟨z.1,ht _ _ z.2.1,z.2.2⟩
section
variable{P:Program}{w:World}{H:Hp}{h:Heap}{a:Addr}
theorem bCs{u:HO}(ok:HOk P w H h)(e:Rd H a u):iU P w H h a u:=e.ok ok
theorem aEz{kvs:List (Key×V)}(ok:HOk P w H h)(e:Rd H a (.dK kvs)):kvs.length<=sizeLine/\(a==sysModules)=false/\∃vs,KV kvs vs/\h.DictOf (fO P w) a vs:=
 show iU P w H h a (.dK kvs) from bCs ok e
theorem aR2{kvs:List (Key×V)}(ok:HOk P w H h)(e:H a=some (.dK kvs)):kvs.length<=sizeLine/\(a==sysModules)=false/\∃vs,KV kvs vs/\h.DictOf (fO P w) a vs:=aEz ok (.inl e)
theorem aE7{ks:List Key}(ok:HOk P w H h)(e:H a=some (.tup (ks.map kV))):(tupleKind (fO P w)).is h ks a:=by
 obtain⟨_,its,r,o,h1,h2,n,h3⟩:=(show iU P w H h a (.tup (ks.map kV)) from ok a _ e)
 exact⟨o,its.toArray,n,h1,h2,h3,by simpa using aJg r⟩
theorem aGo{kvs:List (List Key×V)}(ok:HOk P w H h)(e:Rd H a (.dT kvs)):kvs.length<=sizeLine/\(a==sysModules)=false/\
  ∃xs,KT H kvs xs/\h.DictOfH (tupleKind (fO P w)) a xs:=by
 obtain⟨z,y,xs,r,o,es,ep,h1,h2,h3,h4,h5⟩:=(show iU P w H h a (.dT kvs) from bCs ok e)
 refine⟨z,y,xs,r,o,es,ep,h1,h2,h3,h4,λx hx=>?_,h5⟩
 have all:∀{l:List (List Key×V)} {m:List (List Key×Addr×Value)},KT H l m->∀x∈m,(tupleKind (fO P w)).is h x.1 x.2.1:=by
  intro l m q
  induction q with
  |nil=>intro x hx;exact nomatch hx
  |@cons p q ps qs hq t ih=>
   intro x hx;rcases List.mem_cons.mp hx with e|hx
   .subst e;exact aE7 ok (by rw[<-hq.1];exact hq.2.1)
   .exact ih x hx
 exact all r x hx
theorem bHh{kvs:List (List Key×V)}(ok:HOk P w H h)(e:H a=some (.dT kvs)):kvs.length<=sizeLine/\(a==sysModules)=false/\
  ∃xs,KT H kvs xs/\h.DictOfH (tupleKind (fO P w)) a xs:=aGo ok (.inl e)
end
def aAw(H:Hp)(a:Addr)(y:V)(r:Option V):Prop:=
 (∃kvs k,Rd H a (.dK kvs)/\y=kV k/\r=aCi kvs k)\/∃kvs k b,Rd H a (.dT kvs)/\y=.ref b/\H b=some (.tup (k.map kV))/\r=aCi kvs k
def aKz(H:Hp)(a:Addr)(y v:V)(H':Hp):Prop:=
 (∃kvs k,H a=some (.dK kvs)/\y=kV k/\kvs.length<sizeLine/\H'=upd H a (.dK (putK kvs k v)))\/
 ∃kvs k b,H a=some (.dT kvs)/\y=.ref b/\H b=some (.tup (k.map kV))/\kvs.length<sizeLine/\H'=upd H a (.dT (putK kvs k v))
theorem aAw.k{H:Hp}{a:Addr}{kvs:List (Key×V)}{k:Key}(e:H a=some (.dK kvs)):aAw H a (kV k) (aCi kvs k):=.inl ⟨kvs,k,.inl e,rfl,rfl⟩
theorem aAw.t{H:Hp}{a b:Addr}{kvs:List (List Key×V)}{k:List Key}(e:H a=some (.dT kvs))(eb:H b=some (.tup (k.map kV))):aAw H a (.ref b) (aCi kvs k):=.inr ⟨kvs,k,b,.inl e,rfl,eb,rfl⟩
theorem aKz.k{H:Hp}{a:Addr}{kvs:List (Key×V)}{k:Key}{v:V}(e:H a=some (.dK kvs))(hl:kvs.length<sizeLine):aKz H a (kV k) v (upd H a (.dK (putK kvs k v))):=.inl ⟨kvs,k,e,rfl,hl,rfl⟩
theorem aKz.t{H:Hp}{a b:Addr}{kvs:List (List Key×V)}{k:List Key}{v:V}(e:H a=some (.dT kvs))(eb:H b=some (.tup (k.map kV)))(hl:kvs.length<sizeLine) :
  aKz H a (.ref b) v (upd H a (.dT (putK kvs k v))):=.inr ⟨kvs,k,b,e,rfl,eb,hl,rfl⟩
section
variable{X:Cx}{pins:List (Addr×Obj)}{σ:St}{H:Hp}{s:Shared}{a:Addr}{y v:V}{u r:Value}{o:Option V}{A:Around}{E:Value->Shared->Prop}
theorem Inv.big(I:Inv X pins σ H s):sysModules<s.heap.objs.size:=by
 have h:mainGlobals<s.heap.objs.size:=(I.mod.glob.keeps I.bk).lt;exact Nat.lt_trans (by decide) h
theorem aTn{Q:Value->Shared->Prop}(hu:A.units+1<cLine)(I:Inv X pins σ H s)(g:aAw H a y (some v))(ry:RelV y u)(h:∀w' s',Inv X pins σ H s'->RelV v w'->Q w' s') :
  wpAny (model X.prog X.w) A (getItem (.ref a) u) Q E s:=by
 rcases g with ⟨kvs,k,e,ey,l⟩|⟨kvs,k,b,e,ey,eb,l⟩
 .subst ey;obtain⟨z,hd,vs,rel,dd⟩:=aEz I.hok e;obtain⟨w',hw,rw'⟩:=vZ.some_of (v:=v) (o:=valueAt vs k) (by rw[l];exact rel.val k)
  exact wpAny_getItem_of (aGn ry) dd.mapOf hw (h w' _ (I.tok _) rw')
 .subst ey;cases (show u=Value.ref b from ry)
  obtain⟨z,hd,xs,rel,dd⟩:=aGo I.hok e;obtain⟨w',hw,rw'⟩:=vZ.some_of (v:=v) (o:=(atKey xs k).map (·.2)) (by rw[l];exact rel.val k)
  obtain⟨p,hp,hp2⟩:=Option.map_eq_some_iff.mp hw;refine wpAny_getItem_heap (tupleKind_room_in1 hu) (aE7 I.hok eb) dd hp ?_
  rw[hp2];exact h w' _ (I.tok _) rw'
theorem bJy{Q:Value->Shared->Prop}(hu:A.units+1<cLine)(I:Inv X pins σ H s)(g:aAw H a y o)(ry:RelV y u)(h:∀s',Inv X pins σ H s'->Q (.bool o.isSome) s') :
  wpAny (model X.prog X.w) A (compareOp .In u (.ref a)) Q E s:=by
 rcases g with ⟨kvs,k,e,ey,l⟩|⟨kvs,k,b,e,ey,eb,l⟩
 .subst ey;obtain⟨z,hd,vs,rel,dd⟩:=aEz I.hok e;refine wpAny_in_of (aGn ry) hd dd.mapOf ?_
  rw[<-(rel.val k).isSome_eq,<-l];exact h _ (I.tok _)
 .subst ey;cases (show u=Value.ref b from ry)
  obtain⟨z,hd,xs,rel,dd⟩:=aGo I.hok e;refine wpAny_in_heap (tupleKind_room_in1 hu) (aE7 I.hok eb) hd dd ?_
  have q:=(rel.val k).isSome_eq;rw[Option.isSome_map]at q;rw[<-q,<-l];exact h _ (I.tok _)
theorem aZx{Q:Value->Shared->Prop}(hu:A.units+1<cLine)(I:Inv X pins σ H s)(g:aAw H a y o)(ry:RelV y u)(h:∀s',Inv X pins σ H s'->Q (.bool (!o.isSome)) s') :
  wpAny (model X.prog X.w) A (compareOp .NotIn u (.ref a)) Q E s:=by
 rcases g with ⟨kvs,k,e,ey,l⟩|⟨kvs,k,b,e,ey,eb,l⟩
 .subst ey;obtain⟨z,hd,vs,rel,dd⟩:=aEz I.hok e;refine wpAny_notIn_of (aGn ry) hd dd.mapOf ?_
  rw[<-(rel.val k).isSome_eq,<-l];exact h _ (I.tok _)
 .subst ey;cases (show u=Value.ref b from ry)
  obtain⟨z,hd,xs,rel,dd⟩:=aGo I.hok e;refine wpAny_notIn_heap (tupleKind_room_in1 hu) (aE7 I.hok eb) hd dd ?_
  have q:=(rel.val k).isSome_eq;rw[Option.isSome_map]at q;rw[<-q,<-l];exact h _ (I.tok _)
theorem aL0{h':Heap}{t':Nat}{ob:HO}(I:Inv X pins σ H s)(mu:Mut (H a))(hs:Heap.SameBut a s.heap h')(he:∃q,h'.get? a=some q)(new:iU X.prog X.w (upd H a ob) h' a ob) :
  Inv X pins σ (upd H a ob) {s with heap:=h',toks:=t'}:=
 I.write (x:=a) (e:=a) mu (.inl rfl) (λb q hb z=>(hs.2 b hb).trans z) he new
theorem aVv{P:Program}{w:World}{H':Hp}{h':Heap}{kvs:List (Key×V)}{vs:List (Key×Value)}(z:kvs.length<=sizeLine)(hd:(a==sysModules)=false)(rel:KV kvs vs)(dd:h'.DictOf (fO P w) a vs) :
  iU P w H' h' a (.dK kvs):=⟨z,hd,vs,rel,dd⟩
theorem aTo{H':Hp}{Q:Unit->Shared->Prop}(hu:A.units+1<cLine)(I:Inv X pins σ H s)(g:aKz H a y v H')(ry:RelV y u)(rv:RelV v r)(h:∀s',Inv X pins σ H' s'->Q () s') :
  wpAny (model X.prog X.w) A (setItem (.ref a) u r) Q E s:=by
 rcases g with ⟨kvs,k,e,ey,l,eH⟩|⟨kvs,k,b,e,ey,eb,l,eH⟩
 .subst ey eH;obtain⟨z,hd,vs,rel,dd⟩:=aR2 I.hok e;have hz:vs.length<=sizeLine:=by rw[<-rel.length];exact z
  have hl:(putK kvs k v).length<=sizeLine:=by have:=yO kvs k v;omega
  refine wpAny_setItem_pairs (hsz:=hz) (aGn ry) dd λh' dd' hs=>h _ ?_
  have he:∃q,h'.get? a=some q:=let ⟨q,_,_,hq,_⟩:=dd';⟨q,hq⟩;exact aL0 I (by rw[e];exact True.intro) hs he (aVv hl hd (rel.put k rv) dd')
 .subst ey eH;cases (show u=Value.ref b from ry)
  obtain⟨z,hd,xs,rel,dd⟩:=bHh I.hok e;have hz:xs.length<=sizeLine:=by rw[<-Paired.length rel];exact z
  have hl:(putK kvs k v).length<=sizeLine:=by have:=yO kvs k v;omega
  refine wpAny_setItem_heap (hsz:=hz) (tupleKind_room_in1 hu) (aE7 I.hok eb) dd λh' dd' hs=>h _ ?_
  obtain⟨q,es,ep,hq,h2,h3,h4,_,h5⟩:=dd';refine aL0 I (by rw[e];exact True.intro) hs ⟨q,hq⟩ ⟨hl,hd,_,(rel.put k eb rv).keeps λc ys ec=>?_,q,es,ep,hq,h2,h3,h4,h5⟩
  rw[bQ (bGr ec e (λz=>nomatch z))]
  exact ec
end
section
variable{X:Cx}{pins:List (Addr×Obj)}{σ:St}{H:Hp}{s:Shared}{a:Addr}{kvs:List (Key×V)}{k:Key}{u:Value}{A:Around}{E:Value->Shared->Prop}
theorem bHi{Q:Value->Shared->Prop}(I:Inv X pins σ H s)(e:Rd H a (.dK kvs))(h:∀t s',Inv X pins σ H s'->Q (.int kvs.length t) s'):wpAny (model X.prog X.w) A (call (.builtin "len") [.ref a]) Q E s:=by
 obtain⟨z,hd,vs,rel,dd⟩:=aEz I.hok e;refine call_len_dict hd dd (by rw[<-rel.length];rw[sizeLine_eq]at z;omega) ?_
 rw[<-rel.length];exact h _ _ (I.tok _)
end
theorem aMz{X:Cx}{pins:List (Addr×Obj)}{σ:St}{H:Hp}{s:Shared}{a:Addr}{y:V}{o:Option V}(I:Inv X pins σ H s)(g:aAw H a y o):s.TypeIs (.ref a) "dict":=by
 rcases g with ⟨kvs,k,e,_,_⟩|⟨kvs,k,b,e,_,_,_⟩
 .obtain⟨_,_,vs,_,dd⟩:=aEz I.hok e;exact dd.typeIs
 .obtain⟨_,_,xs,_,dd⟩:=aGo I.hok e;exact dd.typeIs
def sDPut(td ty tv:TE):TS:=λD σ H=>tv σ H λv H1=>td σ H1 λx H2=>ty σ H2 λy H3=>∃a H4,x=.ref a/\aKz H3 a y v H4/\D.nx σ H4
theorem aN0{P:Program}{w:World}{H:Hp}(h:Heap)(hb:sysModules<h.objs.size):iU P w H (h.push {cls:=.type "dict",data:=.dict #[]}) h.objs.size (.dK []):=
 ⟨Nat.zero_le _,beq_eq_false_iff_ne.mpr (Ne.symm (Nat.ne_of_lt hb)),[],.nil,Heap.DictOf.new h⟩
def bEc:TE:=λ_ H Q=>∀p,H p=none->Q (.ref p) (upd H p (.dK []))
section
variable{X:Cx}{pos:Pos}
theorem aVw:PE X (.Dict [] [] pos) bEc:=λpins s σ H Q I h=>
 wpAny_Dict_empty ⟨.ref s.heap.objs.size,_,I.laid (a:=s.heap.objs.size) (o:=.dK []) (t':=s.toks) (λ_ _ q=>Heap.get?_push_of_some _ q) (Nat.le_refl _) (aN0 s.heap I.big),rfl,h _ (I.hok.fresh (Nat.le_refl _))⟩
end
def aPm:List (TE×TE)->St->Hp->(List (V×V)->Hp->Prop)->Prop
 |[],_,H,Q=>Q [] H
 |(tk,tv)::r,σ,H,Q=>tk σ H λx H1=>tv σ H1 λy H2=>aPm r σ H2 λps H3=>Q ((x,y)::ps) H3
abbrev VV:List (V×V)->List (Value×Value)->Prop:=Paired λp q=>RelV p.1 q.1/\RelV p.2 q.2
def PPs(X:Cx)(pos:Pos)(keys:List (Option Expr))(values:List Expr)(trs:List (TE×TE)):Prop:=
 ∀(pins:List (Addr×Obj)) (s:Shared) (σ:St) (H:Hp) (Q:List (V×V)->Hp->Prop),Inv X pins σ H s->aPm trs σ H Q->
  wpAny (model X.prog X.w) X.A (evalPairs (pairTrees keys values X.env pos)) (λvs s'=>∃ps H',Inv X pins σ H' s'/\VV ps vs/\Q ps H') X.xe s
theorem aZy{X:Cx}{pos:Pos}:PPs X pos [] [] []:=λpins s σ H Q I h=>pairTrees_nil_walk ⟨[],H,I,.nil,h⟩
theorem aVx{X:Cx}{pos:Pos}{k v:Expr}{ks:List (Option Expr)}{vs:List Expr}{tk tv:TE}{trs:List (TE×TE)}(hk:PE X k tk)(hv:PE X v tv)(hr:PPs X pos ks vs trs) :
  PPs X pos (some k::ks) (v::vs) ((tk,tv)::trs):=λpins s σ H Q I h=>
 pairTrees_cons_walk (thn (hk pins s σ H _ I h) λu s1 ⟨x,H1,I1,rx,q1⟩=>thn (hv pins s1 σ H1 _ I1 q1) λw2 s2 ⟨y,H2,I2,ry,q2⟩=>
  thn (hr pins s2 σ H2 _ I2 q2) λws s3 ⟨ps,H3,I3,rel,q3⟩=>⟨(x,y)::ps,H3,I3,.cons ⟨rx,ry⟩ rel,q3⟩)
def aE8(kvs more:List (Key×V)):List (Key×V):=more.foldl (λacc kv=>putK acc kv.1 kv.2) kvs
theorem KV.merge:∀{more:List (Key×V)} {rs:List (Key×Value)} {kvs:List (Key×V)} {vs:List (Key×Value)},KV more rs->KV kvs vs->KV (aE8 kvs more) (merged vs rs):=by
 intro more rs kvs vs r;unfold KV at r
 induction r generalizing kvs vs with
 |nil=>intro q;exact q
 |@cons p q ps qs h t ih=>
  intro r0;have e:KV (putK kvs p.1 p.2) (stored vs q.1 q.2):=by
   have:=r0.put p.1 h.2;rw[<-h.1];exact this
  exact ih e
theorem aB2:∀(more kvs:List (Key×V)),(aE8 kvs more).length<=kvs.length+more.length
 |[],kvs=>by show kvs.length<=kvs.length+0;omega
 |p::r,kvs=>by
  have h1:=aB2 r (putK kvs p.1 p.2);have h2:=yO kvs p.1 p.2;show (aE8 (putK kvs p.1 p.2) r).length<=_;rw[List.length_cons];omega
theorem aGp{P:Program}{w:World}:∀{kvs:List (Key×V)} {ws:List (Value×Value)},VV (kvs.map λkv=>(kV kv.1,kv.2)) ws->∃rs,Carries (fO P w) ws rs/\KV kvs rs
 |[],_,r=>by rw[List.map_nil]at r;cases r;exact⟨[],True.intro,.nil⟩
 |p::kvs,_,r=>by
  rw[List.map_cons]at r;cases r with
  |@cons a b as bs h t=>
   obtain⟨rs,c,q⟩:=aGp (P:=P) (w:=w) t;obtain⟨b1,b2⟩:=b;exact⟨(p.1,b2)::rs,⟨aGn h.1,rfl,c⟩,.cons ⟨rfl,h.2⟩ q⟩
def bHj(trs:List (TE×TE)):TE:=λσ H Q=>∀p,H p=none->aPm trs σ (upd H p (.dK [])) λps H2=>H2 p=some (.dK [])/\∃kvs:List (Key×V),ps=kvs.map (λkv=>(kV kv.1,kv.2))/\kvs.length<=15/\Q (.ref p) (upd H2 p (.dK (aE8 [] kvs)))
theorem aZz{X:Cx}{pos:Pos}{keys:List (Option Expr)}{values:List Expr}{trs:List (TE×TE)}(h:PPs X pos keys values trs)(hall:keys.all (·.isSome)=true)(hl:keys.length=values.length)(h0:keys≠[])
  (h15:keys.length<=15):PE X (.Dict keys values pos) (bHj trs):=by
 intro pins s σ H Q I q;have hn:=I.hok.fresh (Nat.le_refl s.heap.objs.size);have I1:=I.laid (a:=s.heap.objs.size) (o:=.dK []) (h':=s.heap.push {cls:=.type "dict",data:=.dict #[]}) (t':=s.toks) (λ_ _ q=>Heap.get?_push_of_some _ q) (Nat.le_refl _) (aN0 s.heap I.big)
 refine wpAny_Dict_walk (knd:=fO X.prog X.w) hall hl h0 h15 (thn (h pins _ σ _ _ I1 (q _ hn)) λws s2 ⟨ps,H2,I2,rel,e,kvs,ep,lk,q2⟩=>?_)
 subst ep;obtain⟨rs,c,rk⟩:=aGp (P:=X.prog) (w:=X.w) rel;obtain⟨z,hd,vs0,r0,dd⟩:=aR2 I2.hok e;cases r0;refine⟨rs,c,dd,λh' dd' hs=>⟨.ref s.heap.objs.size,_,?_,rfl,q2⟩⟩
 have hz:(aE8 [] kvs).length<=sizeLine:=by
  have h1:=aB2 kvs [];rw[List.length_nil]at h1;rw[sizeLine_eq];omega
 have he:∃q,h'.get? s.heap.objs.size=some q:=let ⟨q,_,_,hq,_⟩:=dd';⟨q,hq⟩;exact aL0 I2 (by rw[e];exact True.intro) hs he (aVv hz hd (rk.merge .nil) dd')
structure M1(X:Cx)(o:Expr)(m:Str)(apos:Pos)(e:Expr)(cpos:Pos):Prop where
 base:attributeBase o m X.env (eval o X.env)=eval o X.env
 few:((backTo cpos (starEach [e] X.env)).all (λx=>!x.1)&&(backToKw cpos (keywordEach [] X.env)).all (λx=>x.1.isSome)
  && decide (([e]:List Expr).length+([]:List Keyword).length+(if ([]:List Keyword).isEmpty then 0 else 1)<30))=true
 line:(apos.endLine==cpos.line)=true
 trees:backTo cpos (starEach [e] X.env)=[(false,eval e X.env)]
def IsD(H:Hp)(a:Addr):Prop:=(∃kvs,Rd H a (.dK kvs))\/∃kvs,Rd H a (.dT kvs)
theorem bEd{X:Cx}{pins:List (Addr×Obj)}{σ:St}{H:Hp}{s:Shared}{a:Addr}(I:Inv X pins σ H s)(d:IsD H a) :
  s.TypeIs (.ref a) "dict"/\(∀b,Value.ref a=.ref b->∃ob,s.heap.get? b=some ob/\ob.dict=none)/\(a==sysModules)=false:=by
 rcases d with ⟨kvs,e⟩|⟨kvs,e⟩
 .obtain⟨_,hd,vs,_,dd⟩:=aEz I.hok e;refine⟨dd.typeIs,λb q=>?_,hd⟩
  cases q;obtain⟨ob,_,_,h1,h2,_⟩:=dd;exact⟨ob,h1,h2.2.1⟩
 .obtain⟨_,hd,xs,_,dd⟩:=aGo I.hok e;refine⟨dd.typeIs,λb q=>?_,hd⟩
  cases q;obtain⟨ob,_,_,h1,h2,_⟩:=dd;exact⟨ob,h1,h2.2.1⟩
section
variable{X:Cx}{pins:List (Addr×Obj)}{σ:St}{H:Hp}{s:Shared}{a:Addr}{y d:V}{u r:Value}{o:Option V}{A:Around}{E:Value->Shared->Prop}
theorem bEe{Q:Value->Shared->Prop}(hu:A.units+1<cLine)(I:Inv X pins σ H s)(g:aAw H a y o)(ry:RelV y u)(h:∀w' s',Inv X pins σ H s'->RelV (o.getD .non) w'->Q w' s') :
  wpAny (model X.prog X.w) A (call (.builtin "dict.get") [.ref a,u]) Q E s:=by
 rcases g with ⟨kvs,k,e,ey,l⟩|⟨kvs,k,b,e,ey,eb,l⟩
 .subst ey;obtain⟨z,hd,vs,rel,dd⟩:=aEz I.hok e;refine call_meetsIn PySem.F.slot_dict_get dd.typeIs PySem.F.entry_dict_get (PySem.F.args_dict_get_2 _ _) (meets_dict_get (fO X.prog X.w) a (aGn ry) hd) ⟨_,dd.mapOf,h _ _ (I.tok _) ?_⟩;rw[l];exact(rel.val k).getD rfl
 .subst ey;cases (show u=Value.ref b from ry)
  obtain⟨z,hd,xs,rel,dd⟩:=aGo I.hok e;refine call_meetsIn PySem.F.slot_dict_get dd.typeIs PySem.F.entry_dict_get (PySem.F.args_dict_get_2 _ _) (meetsH_dict_get (tupleKind (fO X.prog X.w)) a b hd) ⟨tupleKind_room_in1 hu,k,xs,aE7 I.hok eb,dd,h _ _ (I.tok _) ?_⟩;rw[l];exact(rel.val k).getD rfl
end
def bEf(td ty:TE):TE:=λσ H Q=>td σ H λx H1=>∃a,x=.ref a/\IsD H1 a/\ty σ H1 λy H2=>∃o,aAw H2 a y o/\Q (o.getD .non) H2
section
variable{X:Cx}{o e f:Expr}{apos cpos:Pos}{td ty tx:TE}
theorem aVy(hu:X.A.units+1<cLine)(ho:PE X o td)(he:PE X e ty)(m:M1 X o "get" apos e cpos):PE X (.Call (.Attribute o "get" apos) [e] [] cpos) (bEf td ty):=by
 intro pins s σ H Q I h;refine wpAny_Call_method m.base m.few m.line PySem.F.plainAttrs_dict PySem.F.slot_dict_get PySem.F.type_dict_get (thn (ho pins s σ H _ I h) λu s1 ⟨x,H1,I1,rx,a,ex,d,q1⟩=>?_)
 subst ex;obtain rfl:u=Value.ref a:=rx;obtain⟨t1,t2,_⟩:=bEd I1 d;refine⟨t1,t2,?_⟩;rw[m.trees];refine Calls.callWith_builtin rfl (Calls.evalArgs_plain (Calls.spliced_cons (thn (he pins s1 σ H1 _ I1 q1) λiv s2 ⟨y,H2,I2,ry,ov,g,q2⟩=>Calls.spliced_nil ?_)))
 exact bEe hu I2 g ry λw' s3 I3 rw'=>⟨_,H2,I3,rw',q2⟩
end
end L2
set_option maxHeartbeats 1000000
open PySem.W (Frag findIn mroIn specialIn takesIn nsIn notCls keepIn kitOne kia_one fnOf codeIn mg_of isFn makesIn emptyDict instObj Looks OpenLaw mg_none_of WalkO InK)
open List (foldl_cons mem_cons_self mem_cons_of_mem map_cons getD_eq_getElem?_getD length_cons length_append length_singleton sum_cons drop_zero flatten_cons length_nil length_map cons_append filter_cons_of_pos filter_cons_of_neg length_range getElem?_cons_succ zip_cons_cons append_nil nil_append length_filter_le mem_cons not_mem_nil any_cons length_set forIn_nil forIn_cons lookup_cons)
open Nat (zero_le succ_mul mod_lt strongRecOn testBit_or zero_testBit eq_of_testBit_eq testBit_and le_succ not_lt_zero)
open Array (ext' getElem?_toList getD_eq_getD_getElem? toList_push)
open Int (toNat_natCast)
open Option (getD_some map_some)
open Bool (or_eq_true and_eq_true not_eq_true')
variable{α:Type}{c newId:String}{n np i m r q j x1 t' ep:Nat}{b s1:Bool}{l rk ks Gs z:List Nat}{a C fa T I A_Machine A_EarlyNo A_EarlyYes A_Kind:PySem.Addr}{tg e o elt:PySem.Expr}{x qual name:PySem.Str}{E Q Qf:PySem.Value->PySem.Shared->Prop}{S:List (List Nat)}{s:PySem.Shared}{v:L2.V}{al:Nat->Bool}{acc:List (Nat×List Nat)}{B A fp:List PySem.Addr}{w:PySem.World}{ns:List Int}{h h' base:PySem.Heap}{W:List (List Nat×List Nat)}{H H' H1:L2.Hp}{vs dvs:List L2.V}{X Y:L2.Cx}{es elts:List PySem.Expr}{pos p0 pos' p2 p1 apos cpos px:PySem.Pos}{op:PySem.CmpOp}{gv:Int->Int->L2.V}{fd:PySem.FuncData}{ps N loose:List PySem.Str}{u dV oc:PySem.Value}{sm:PySem.Stmt}{items:Array PySem.Value}{M:PySem.Model}{env:PySem.Env}{body:List PySem.Stmt}{P prog:PySem.Program}{mg:PySem.Str->Option PySem.Value}{scope:PySem.Scope}{pins:List (PySem.Addr×PySem.Obj)}{te:L2.TE}{tt:L2.TT}{pl:PySem.Sem Bool}{osl:Array (Option PySem.Value)}{t_LETTERS t_MOST_ROOMS t_MOST_LETTERS:PySem.Tok}{XP:(PySem.Str->Option PySem.Value)->PySem.Heap->Prop}
namespace Pu
inductive D where
 |non|bl (b:Bool)|int (i:Int)|str (s:List Nat)|tup (xs:List D)|lst (xs:List D)
 |dct (t:Bool) (ks vs:List D)
 |ins (c:String) (ns:List String) (xs:List D)
 |exn (c:String) (ns:List String) (xs:List D)
 |fn (f:String)
inductive R (α:Type) where
 |ok (a:α)|exc (x:D)|bad
@[inline] def R.bind{α β:Type}(r:R α)(f:α->R β):R β:=match r with
 |.ok a=>f a
 |.exc x=>.exc x
 |.bad=>.bad
theorem R.ok_of{β:Type}{r:R α}{f:α->R β}{b:β}(h:r.bind f=.ok b):∃a,r=.ok a/\f a=.ok b:=by
 cases r with
 |ok a=>exact⟨a,rfl,h⟩
 |exc x=>exact nomatch h
 |bad=>exact nomatch h
noncomputable section
open Classical in
def aY{α:Type}(c:Prop)(r:R α):R α:=if c then r else .bad
theorem aF{c:Prop}{r:R α}(h:c):aY c r=r:=if_pos h
theorem aJ{c:Prop}{r:R α}{a:α}(h:aY c r=.ok a):c/\r=.ok a:=by
 unfold aY at h;split at h
 .exact⟨by assumption,h⟩
 .exact nomatch h
inductive OK where
 |l|d (t:Bool) (ks:List D)|i (n:Nat) (c:String) (ns:List String)
def ofK:OK->List D->D
 |.l,xs=>.lst xs
 |.d t ks,xs=>.dct t ks xs
 |.i _ c ns,xs=>.ins c ns xs
inductive Sl where
 |v (d:D)|o (k:OK) (xs:List D)
abbrev PSt:=List (Option Sl)
abbrev Ex:=PSt->R D
inductive Fl where
 |nx (st:PSt)|rt (d:D)|bk (st:PSt)|ct (st:PSt)
abbrev Bd:=PSt->R Fl
@[irreducible] def big:Nat:=10000000
theorem pC:big=10000000:=by unfold big;rfl
theorem dD(h:n<=10000000):n<=big:=by rw[pC];exact h
theorem aGq(h:n<10000000):n<big:=by rw[pC];exact h
theorem aG3{n:Int}(h:n<=10000000):n<=(big:Int):=by rw[pC];exact h
theorem aL1{n:Int}(h : -10000000<=n) : -(big:Int)<=n:=by rw[pC];exact h
def sIx(n d:Nat):Option Int->Nat
 |none=>d
 |some v=>if v<0 then (v+(n:Int)).toNat else min v.toNat n
def ixN(n:Nat)(i:Int):Option Nat:=if 0<=i then (if i<n then some i.toNat else none) else if -(n:Int)<=i then some (i+n).toNat else none
def atI{α:Type}(xs:List α)(i:Int):Option α:=(ixN xs.length i).bind λj=>xs[j]?
def cut{α:Type}(xs:List α)(lo hi:Option Int):List α:=(xs.drop (sIx xs.length 0 lo)).take (sIx xs.length xs.length hi-sIx xs.length 0 lo)
def rep{α:Type}(n:Nat)(xs:List α):List α:=(List.replicate n xs).flatten
def ofO{α:Type}:Option α->R α
 |some a=>.ok a
 |none=>.bad
abbrev Op2:=D->D->R D
def gD:Op2
 |.int i,.int j=>.ok (.int (i+j))
 |.str x,.str y=>aY (x.length+y.length<=big) (.ok (.str (x++y)))
 |.lst x,.lst y=>aY (x.length+y.length<=big) (.ok (.lst (x++y)))
 |_,_=>.bad
def bA0:Op2
 |.int i,.int j=>.ok (.int (i-j))
 |_,_=>.bad
def aPn:Op2
 |.int i,.int j=>aY ((-18446744073709551616<i/\i<18446744073709551616)\/(-18446744073709551616<j/\j<18446744073709551616)) (.ok (.int (i*j)))
 |.str x,.int j=>aY (x.length*j.toNat<=big/\-4611686018427387904<=j/\j<4611686018427387904) (.ok (.str (rep j.toNat x)))
 |_,_=>.bad
def aGr:Op2
 |.int i,.int j=>aY (0<j/\j<1073741824) (.ok (.int (i/j)))
 |_,_=>.bad
def pD:Op2
 |.int i,.int j=>aY (0<j) (.ok (.int (i%j)))
 |_,_=>.bad
def bA1:Op2
 |.int i,.int j=>aY (0<=j/\j<=1000000/\i.natAbs<18446744073709551616) (.ok (.int (i^j.toNat)))
 |_,_=>.bad
def rE:D->R D
 |.int i=>.ok (.int (-i))
 |_=>.bad
def aVz:D->Bool
 |.int _=>true
 |.str _=>true
 |_=>false
def keyOk(t:Bool)(d:D):Bool:=match d with
 |.int _=>!t
 |.str _=>!t
 |.tup xs=>t&&xs.all aVz
 |_=>false
mutual
def eqK:D->D->Bool
 |.int i,.int j=>i==j
 |.str x,.str y=>x==y
 |.tup x,.tup y=>aPo x y
 |_,_=>false
def aPo:List D->List D->Bool
 |[],[]=>true
 |a::x,b::y=>eqK a b&&aPo x y
 |_,_=>false
end
def uL(ks vs:List D)(k:D):Option D:=((ks.zip vs).find? λp=>eqK p.1 k).map (·.2)
def qP(ks:List D)(k:D):Bool:=ks.any λx=>eqK x k
def tL(ks:List D)(k:D):List D:=if qP ks k=true then ks else ks++[k]
def xN(ks vs:List D)(k v:D):List D:=if qP ks k=true then (ks.zip vs).map (λp=>if eqK p.1 k=true then v else p.2) else vs++[v]
def dIx:Op2
 |.dct t ks vs,k=>aY (keyOk t k=true) (ofO (uL ks vs k))
 |.lst x,.int i=>ofO (atI x i)
 |.tup x,.int i=>ofO (atI x i)
 |.str x,.int i=>aY (x.length<=big) (ofO ((atI x i).map λc=>.str [c]))
 |_,_=>.bad
mutual
def eqD:D->D->Bool
 |.non,.non=>true
 |.bl a,.bl b=>a==b
 |.bl a,.int j=>(if a then (1:Int) else 0)==j
 |.int i,.bl b=>i==(if b then (1:Int) else 0)
 |.int i,.int j=>i==j
 |.str x,.str y=>x==y
 |.tup x,.tup y=>mH x y
 |.lst x,.lst y=>mH x y
 |_,_=>false
def mH:List D->List D->Bool
 |[],[]=>true
 |a::x,b::y=>eqD a b&&mH x y
 |_,_=>false
end
mutual
def dep:D->Nat
 |.tup x=>oX x+1
 |.lst x=>oX x+1
 |.non=>0
 |.bl _=>0
 |.int _=>0
 |.str _=>0
 |.dct _ _ _=>0
 |.ins _ _ _=>0
 |.exn _ _ _=>0
 |.fn _=>0
def oX:List D->Nat
 |[]=>0
 |a::x=>max (dep a) (oX x)
end
mutual
def plain:D->Bool
 |.tup x=>gF x
 |.lst x=>gF x
 |.non=>true
 |.bl _=>true
 |.int _=>true
 |.str _=>true
 |.dct _ _ _=>false
 |.ins _ _ _=>false
 |.exn _ _ _=>false
 |.fn _=>false
def gF:List D->Bool
 |[]=>true
 |a::x=>plain a&&gF x
end
def dEq:Op2:=λa b=>aY (dep a<=64/\plain a=true/\plain b=true) (.ok (.bl (eqD a b)))
def dNe:Op2:=λa b=>aY (dep a<=64/\plain a=true/\plain b=true) (.ok (.bl (!eqD a b)))
def dLe:Op2
 |.int i,.int j=>.ok (.bl (decide (i<=j)))
 |_,_=>.bad
def dGt:Op2
 |.int i,.int j=>.ok (.bl (decide (j<i)))
 |_,_=>.bad
def dGe:Op2
 |.int i,.int j=>.ok (.bl (decide (j<=i)))
 |_,_=>.bad
def lY:D->R D
 |.dct false ks _=>.ok (.int ks.length)
 |.lst x=>.ok (.int x.length)
 |.tup x=>.ok (.int x.length)
 |.str x=>aY (x.length<=big) (.ok (.int x.length))
 |_=>.bad
def aJ1:D->Bool
 |.ins _ _ _=>false
 |.exn _ _ _=>false
 |.fn _=>false
 |_=>true
def isN:D->Bool
 |.non=>true
 |_=>false
def bA2:D->Bool
 |.str _=>true
 |_=>false
def bEg:D->Bool
 |.bl _=>true
 |_=>false
def isIn:D->Bool
 |.bl _=>true
 |.int _=>true
 |_=>false
def bEh:D->Bool
 |.tup _=>true
 |_=>false
def bHk:D->Bool
 |.dct _ _ _=>true
 |_=>false
def aTp:D->Bool
 |.lst _=>true
 |_=>false
def lV(x y:List Nat)(lo:Nat):Option Nat:=(List.range' lo (x.length+1-lo)).find? λi=>decide (i+y.length<=x.length)&&((x.drop i).take y.length==y)
def yP:Option Nat->Int
 |some i=>i
 |none=>-1
def uM(x y:List Nat):List Nat:=(((x.dropWhile λc=>y.contains c).reverse).dropWhile λc=>y.contains c).reverse
abbrev Mop:=D->List D->R D
def aN1:Mop
 |.str x,[.str y]=>.ok (.int (yP (lV x y 0)))
 |.str x,[.str y,.int i]=>aY (0<=i) (.ok (.int (yP (lV x y i.toNat))))
 |_,_=>.bad
def aBs:Mop
 |.str x,[.str y]=>(ofO (lV x y 0)).bind λi=>.ok (.int i)
 |_,_=>.bad
def aGs:Mop
 |.str x,[.str y]=>aY (x.length<=big) (.ok (.str (uM x y)))
 |_,_=>.bad
def aN2:D->D->R D
 |.int i,.int j=>.ok (.int (if j>i then j else i))
 |_,_=>.bad
def inD(x:D)(ys:List D):Bool:=ys.any λy=>eqD y x
def dIn:D->D->R D
 |k,.dct t ks _=>aY (keyOk t k=true) (.ok (.bl (qP ks k)))
 |x,.lst ys=>aY (oX ys<=60/\plain x=true/\gF ys=true) (.ok (.bl (inD x ys)))
 |x,.tup ys=>aY (oX ys<=60/\plain x=true/\gF ys=true) (.ok (.bl (inD x ys)))
 |.str x,.str y=>.ok (.bl (lV y x 0).isSome)
 |_,_=>.bad
def wB:D->D->R D
 |k,.dct t ks _=>aY (keyOk t k=true) (.ok (.bl (!qP ks k)))
 |x,.lst ys=>aY (oX ys<=60/\plain x=true/\gF ys=true) (.ok (.bl (!inD x ys)))
 |x,.tup ys=>aY (oX ys<=60/\plain x=true/\gF ys=true) (.ok (.bl (!inD x ys)))
 |.str x,.str y=>.ok (.bl (!(lV y x 0).isSome))
 |_,_=>.bad
def aGt:D->D->R D
 |x,.non=>.ok (.bl (!isN x))
 |.bl a,.bl b=>.ok (.bl (!(a==b)))
 |_,_=>.bad
def aB(i:Nat):Ex:=λst=>match st[i]? with
 |some (some (.v d))=>.ok d
 |_=>.bad
def dZ(i:Nat):Ex:=λst=>match st[i]? with
 |some (some (.v d))=>.ok d
 |some (some (.o k xs))=>.ok (ofK k xs)
 |_=>.bad
def eC(d:D):Ex:=λ_=>.ok d
def e2(op:Op2)(f g:Ex):Ex:=λst=>(f st).bind λx=>(g st).bind λy=>op x y
def e1(op:D->R D)(f:Ex):Ex:=λst=>(f st).bind op
def eB(p:D->Bool)(f:Ex):Ex:=λst=>(f st).bind λx=>aY (aJ1 x=true) (.ok (.bl (p x)))
def onB{α:Type}(d:D)(f:Bool->R α):R α:=match d with
 |.bl b=>f b
 |_=>.bad
theorem rW{d:D}{f:Bool->R α}{a:α}(h:onB d f=.ok a):∃b,d=.bl b/\f b=.ok a:=by
 cases d<;>first|exact⟨_,rfl,h⟩|exact nomatch h
def aAx(f g:Ex):Ex:=λst=>(f st).bind λx=>onB x λb=>if b=true then g st else .ok (.bl false)
def eOr(f g:Ex):Ex:=λst=>(f st).bind λx=>onB x λb=>if b=true then .ok (.bl true) else g st
def rF(f:Ex):Ex:=λst=>(f st).bind λx=>onB x λb=>.ok (.bl (!b))
def eIf(c f g:Ex):Ex:=λst=>(c st).bind λx=>onB x λb=>if b=true then f st else g st
abbrev Exs:=PSt->R (List D)
def aU:Exs:=λ_=>.ok []
def aC(f:Ex)(r:Exs):Exs:=λst=>(f st).bind λx=>(r st).bind λxs=>.ok (x::xs)
def aN3(r:Exs):Ex:=λst=>(r st).bind λxs=>aY (xs.length<=big) (.ok (.tup xs))
def nZ(r:Exs):Ex:=λst=>(r st).bind λxs=>aY (xs.length<=big) (.ok (.lst xs))
def aW(p:List D->R D)(r:Exs):Ex:=λst=>(r st).bind p
def eMt(m:Mop)(f:Ex)(r:Exs):Ex:=λst=>(f st).bind λx=>(r st).bind λxs=>m x xs
def inI(d:D){α:Type}(f:Int->R α):R α:=match d with
 |.int i=>f i
 |_=>.bad
theorem aPp{d:D}{f:Int->R α}{a:α}(h:inI d f=.ok a):∃i,d=.int i/\f i=.ok a:=by
 cases d<;>first|exact⟨_,rfl,h⟩|exact nomatch h
abbrev ExO:=PSt->R (Option Int)
def vB:ExO:=λ_=>.ok none
def qH(f:Ex):ExO:=λst=>(f st).bind λx=>inI x λi=>.ok (some i)
def dSl(x:D)(lo hi:Option Int):R D:=match x with
 |.lst xs=>.ok (.lst (cut xs lo hi))
 |.str xs=>aY (xs.length<=big) (.ok (.str (cut xs lo hi)))
 |_=>.bad
def eSl(f:Ex)(lo hi:ExO):Ex:=λst=>(f st).bind λx=>(lo st).bind λl=>(hi st).bind λh=>dSl x l h
abbrev ItE:=PSt->R (List D)
def itE(f:Ex):ItE:=λst=>(f st).bind λx=>match x with
 |.lst xs=>.ok xs
 |.tup xs=>.ok xs
 |.str xs=>aY (xs.length<=big) (.ok (xs.map λc=>.str [c]))
 |_=>.bad
def pF(lo:Int)(n:Nat):List D:=(List.range n).map λ(k:Nat)=>.int (lo+(k:Int))
def yG(f:Ex):ItE:=λst=>(f st).bind λx=>inI x λj=>aY (-(big:Int)<=j/\j<=(big:Int)) (.ok (pF 0 j.toNat))
abbrev Tg:=D->PSt->R PSt
def tgN(i:Nat):Tg:=λd st=>.ok (st.set i (some (.v d)))
def aGu:List Nat->List D->PSt->R PSt
 |[],[],st=>.ok st
 |i::is,d::ds,st=>aGu is ds (st.set i (some (.v d)))
 |_,_,_=>.bad
def tgT(is:List Nat):Tg:=λd st=>match d with
 |.tup xs=>aGu is xs st
 |.lst xs=>aGu is xs st
 |_=>.bad
def jY(tg:Tg)(c f:Ex)(st:PSt):List D->R (List D)
 |[]=>.ok []
 |d::ds=>(tg d st).bind λs1=>(c s1).bind λx=>onB x λb=>if b=true then (f s1).bind λy=>(jY tg c f st ds).bind λys=>.ok (y::ys) else jY tg c f st ds
def clr(is:List Nat)(st:PSt):PSt:=is.foldl (λs i=>s.set i none) st
def dF(is:List Nat)(tg:Tg)(it:ItE)(c f:Ex):Ex:=λst=>(it st).bind λxs=>aY (xs.length<=big) ((jY tg c f (clr is st) xs).bind λys=>.ok (.lst ys))
def dG:Ex:=λ_=>.ok (.bl true)
def aJ2(r:R Fl)(f:PSt->R Fl):R Fl:=r.bind λx=>match x with
 |.nx st=>f st
 |.rt d=>.ok (.rt d)
 |.bk st=>.ok (.bk st)
 |.ct st=>.ok (.ct st)
def dM:Bd:=λst=>.ok (.nx st)
def bG(a b:Bd):Bd:=λst=>aJ2 (a st) b
def cL(i:Nat)(f:Ex):Bd:=λst=>(f st).bind λd=>.ok (.nx (st.set i (some (.v d))))
def xO(i:Nat)(f:Ex):Bd:=λst=>(f st).bind λd=>match d with
 |.lst xs=>.ok (.nx (st.set i (some (.o .l xs))))
 |_=>.bad
def bHl(tg:Tg)(f:Ex):Bd:=λst=>(f st).bind λd=>(tg d st).bind λs1=>.ok (.nx s1)
def aJ3(i:Nat)(f:Ex):Bd:=λst=>(f st).bind λd=>match st[i]? with
 |some (some (.o .l xs))=>aY (xs.length<big) (.ok (.nx (st.set i (some (.o .l (xs++[d]))))))
 |_=>.bad
def aW0(i:Nat)(f:Ex):Bd:=λst=>(f st).bind λd=>match d with
 |.lst ys=>(match st[i]? with
  |some (some (.o .l xs))=>aY (xs.length+ys.length<=big) (.ok (.nx (st.set i (some (.o .l (xs++ys))))))
  |_=>.bad)
 |_=>.bad
def aW1(i:Nat)(t:Bool):Bd:=λst=>.ok (.nx (st.set i (some (.o (.d t []) []))))
def sDPut(i:Nat)(g f:Ex):Bd:=λst=>(f st).bind λd=>(g st).bind λk=>match st[i]? with
 |some (some (.o (.d t ks) vs))=>aY (keyOk t k=true/\vs.length<big) (.ok (.nx (st.set i (some (.o (.d t (tL ks k)) (xN ks vs k d))))))
 |_=>.bad
def aJh(i:Nat)(c f:String)(e:Ex):Bd:=λst=>(e st).bind λd=>match st[i]? with
 |some (some (.o (.i n c' ns) xs))=>aY (c'=c/\f∉ns/\ns.length<900) (.ok (.nx (st.set i (some (.o (.i n c' (ns++[f])) (xs++[d]))))))
 |_=>.bad
def fD(c f:String):D->R D
 |.ins c' ns xs=>aY (c'=c) (ofO ((ns.zip xs).lookup f))
 |_=>.bad
def dU(c m:String)(p:List D->R D)(dv:List D)(f:Ex)(r:Exs):Ex:=λst=>(f st).bind λx=>(r st).bind λxs=>match x with
 |.ins c' ns _=>aY (c'=c/\m∉ns) (p (x::(xs++dv)))
 |_=>.bad
def qQ:Bd:=λ_=>.bad
def fz1(st:PSt)(i:Nat):PSt:=match st[i]? with
 |some (some (.o k xs))=>st.set i (some (.v (ofK k xs)))
 |_=>st
def sFz(is:List Nat)(b:Bd):Bd:=λst=>b (is.foldl fz1 st)
def cY(f:Ex):Bd:=λst=>(f st).bind λd=>.ok (.rt d)
def aTq(f:Ex):Bd:=λst=>(f st).bind λ_=>.ok (.nx st)
def sIf(c:Ex)(a b:Bd):Bd:=λst=>(c st).bind λx=>onB x λq=>if q=true then a st else b st
def forR(tg:Tg)(body:Bd):List D->PSt->R Fl
 |[],st=>.ok (.nx st)
 |d::ds,st=>(tg d st).bind λs1=>(body s1).bind λx=>match x with
  |.nx s2=>forR tg body ds s2
  |.ct s2=>forR tg body ds s2
  |.bk s2=>.ok (.nx s2)
  |.rt v=>.ok (.rt v)
def rY(tg:Tg)(it:ItE)(body:Bd):Bd:=λst=>(it st).bind λxs=>forR tg body xs st
def nA(c:Ex)(body:Bd):Nat->PSt->R Fl
 |0,_=>.bad
 |n+1,st=>(c st).bind λx=>onB x λq=>if q=true then (body st).bind λx=>(match x with
  |.nx s2=>nA c body n s2
  |.ct s2=>nA c body n s2
  |.bk s2=>.ok (.nx s2)
  |.rt v=>.ok (.rt v)) else .ok (.nx st)
def aL2(n:Nat)(c:Ex)(body:Bd):Bd:=λst=>nA c body n st
def cT(np n:Nat)(b:Bd)(ds:List D):R D:=
 aY (ds.length=np) ((b (ds.map (λd=>some (.v d))++List.replicate (n-np) none)).bind λx=>match x with
  |.nx _=>.ok .non
  |.rt d=>.ok d
  |_=>.bad)
def aJi(c:String)(np n:Nat)(b:Bd)(x:Nat)(ds:List D):R D:=
 aY (ds.length=np) ((b (some (.o (.i x c []) [])::(ds.map (λd=>some (.v d))++List.replicate (n-np-1) none))).bind λ(fl:Fl)=>match fl with
  |.nx st=>(match (st[0]?:Option (Option Sl)) with
   |some (some (.o (.i y c' ns) xs))=>aY (y=x) (.ok (.ins c' ns xs))
   |_=>.bad)
  |_=>.bad)
open Classical in
def aL3(c:String)(np n:Nat)(b:Bd)(ds:List D):R D:=if h:∃d,∀x,aJi c np n b x ds=.ok d then .ok (choose h) else .bad
theorem bA3{b:Bd}{ds:List D}{d:D}(h:∀x,aJi c np n b x ds=.ok d):aL3 c np n b ds=.ok d:=by
 unfold aL3;rw[dif_pos ⟨d,h⟩];have:=Classical.choose_spec (p:=λd=>∀x,aJi c np n b x ds=.ok d) ⟨d,h⟩ 0
 rw[h 0]at this;exact this.symm
theorem aR3{b:Bd}{ds:List D}{d:D}(h:aL3 c np n b ds=.ok d)(x:Nat):aJi c np n b x ds=.ok d:=by
 unfold aL3 at h;split at h
 .rename_i e;have:=Classical.choose_spec e x;rw[this];exact h
 .cases h
end
end Pu
variable{d y:Pu.D}{ds xs ys dv:List Pu.D}{f g:Pu.Ex}{st':Pu.PSt}{p:List Pu.D->Pu.R Pu.D}{it:Pu.ItE}{L bd bd':Pu.Bd}
namespace Pu
@[simp] theorem bg1:1<=big:=dD (by decide)
@[simp] theorem bg3:3<=big:=dD (by decide)
@[simp] theorem aM{β:Type}(a:α)(f:α->R β):(R.ok a).bind f=f a:=rfl
@[simp] theorem nC(b:Bool)(f:Bool->R α):onB (.bl b) f=f b:=rfl
@[simp] theorem bIx(i:Int)(f:Int->R α):inI (.int i) f=f i:=rfl
@[simp] theorem bIy(st:PSt)(f:PSt->R Fl):aJ2 (.ok (.nx st)) f=f st:=rfl
@[simp] theorem bIz(d:D)(f:PSt->R Fl):aJ2 (.ok (.rt d)) f=.ok (.rt d):=rfl
@[simp] theorem aR4(i:Nat)(st:PSt):aB i st=(match st[i]? with|some (some (.v d))=>R.ok d|_=>.bad):=rfl
@[simp] theorem bCt(d:D)(st:PSt):eC d st=.ok d:=rfl
@[simp] theorem aN4(op:Op2)(f g:Ex)(st:PSt):e2 op f g st=(f st).bind λx=>(g st).bind λy=>op x y:=rfl
@[simp] theorem aN5(op:D->R D)(f:Ex)(st:PSt):e1 op f st=(f st).bind op:=rfl
@[simp] theorem bKb(p:D->Bool)(f:Ex)(st:PSt):eB p f st=(f st).bind λx=>aY (aJ1 x=true) (.ok (.bl (p x))):=rfl
@[simp] theorem aR5(f g:Ex)(st:PSt):aAx f g st=(f st).bind λx=>onB x λb=>if b=true then g st else .ok (.bl false):=rfl
@[simp] theorem bEi(f g:Ex)(st:PSt):eOr f g st=(f st).bind λx=>onB x λb=>if b=true then .ok (.bl true) else g st:=rfl
@[simp] theorem aR6(f:Ex)(st:PSt):rF f st=(f st).bind λx=>onB x λb=>.ok (.bl (!b)):=rfl
@[simp] theorem bJ0(st:PSt):aU st=.ok []:=rfl
@[simp] theorem aW2(f:Ex)(r:Exs)(st:PSt):aC f r st=(f st).bind λx=>(r st).bind λxs=>.ok (x::xs):=rfl
@[simp] theorem bA4(r:Exs)(st:PSt):nZ r st=(r st).bind λxs=>aY (xs.length<=big) (.ok (.lst xs)):=rfl
@[simp] theorem aW3(p:List D->R D)(r:Exs)(st:PSt):aW p r st=(r st).bind p:=rfl
@[simp] theorem bJz(m:Mop)(f:Ex)(r:Exs)(st:PSt):eMt m f r st=(f st).bind λx=>(r st).bind λxs=>m x xs:=rfl
@[simp] theorem bHm(st:PSt):vB st=.ok none:=rfl
@[simp] theorem bHn(f:Ex)(st:PSt):qH f st=(f st).bind λx=>inI x λi=>.ok (some i):=rfl
@[simp] theorem aPq(f:Ex)(lo hi:ExO)(st:PSt):eSl f lo hi st=(f st).bind λx=>(lo st).bind λl=>(hi st).bind λh=>dSl x l h:=rfl
@[simp] theorem bA5(f:Ex)(st:PSt):yG f st=(f st).bind λx=>inI x λj=>aY (-(big:Int)<=j/\j<=(big:Int)) (.ok (pF 0 j.toNat)):=rfl
@[simp] theorem bHo(tg:Tg)(b:Bd)(st:PSt):forR tg b [] st=.ok (.nx st):=rfl
theorem pG(tg:Tg)(b:Bd)(d:D)(ds:List D)(st:PSt):forR tg b (d::ds) st=(tg d st).bind λs1=>(b s1).bind λx=>match x with
  |.nx s2=>forR tg b ds s2
  |.ct s2=>forR tg b ds s2
  |.bk s2=>.ok (.nx s2)
  |.rt v=>.ok (.rt v):=rfl
theorem tM(c:Ex)(b:Bd)(n:Nat)(st:PSt):nA c b (n+1) st=(c st).bind λx=>onB x λq=>if q=true then (b st).bind λx=>(match x with
  |.nx s2=>nA c b n s2
  |.ct s2=>nA c b n s2
  |.bk s2=>.ok (.nx s2)
  |.rt v=>.ok (.rt v)) else .ok (.nx st):=rfl
@[simp] theorem aW4(f:Ex)(st:PSt):itE f st=(f st).bind λx=>match x with|.lst xs=>.ok xs|.tup xs=>.ok xs|.str xs=>aY (xs.length<=big) (.ok (xs.map λc=>.str [c]))|_=>.bad:=rfl
@[simp] theorem aTr(n:Nat)(c:Ex)(b:Bd)(st:PSt):aL2 n c b st=nA c b n st:=rfl
@[simp] theorem bA6(i:Nat)(f:Ex)(st:PSt):aJ3 i f st=(f st).bind λd=>match st[i]? with|some (some (.o .l xs))=>aY (xs.length<big) (.ok (.nx (st.set i (some (.o .l (xs++[d]))))))|_=>.bad:=rfl
@[simp] theorem aW5(i:Nat)(f:Ex)(st:PSt):xO i f st=(f st).bind λd=>match d with|.lst xs=>.ok (.nx (st.set i (some (.o .l xs))))|_=>.bad:=rfl
@[simp] theorem bA7(i:Nat)(f:Ex)(st:PSt):aW0 i f st=(f st).bind λd=>match d with|.lst ys=>(match st[i]? with|some (some (.o .l xs))=>aY (xs.length+ys.length<=big) (.ok (.nx (st.set i (some (.o .l (xs++ys))))))|_=>.bad)|_=>.bad:=rfl
@[simp] theorem aW6(i:Nat)(c f:String)(e:Ex)(st:PSt):aJh i c f e st=(e st).bind λd=>match st[i]? with|some (some (.o (.i n c' ns) xs))=>aY (c'=c/\f∉ns/\ns.length<900) (.ok (.nx (st.set i (some (.o (.i n c' (ns++[f])) (xs++[d]))))))|_=>.bad:=rfl
@[simp] theorem yQ(c f c':String)(ns:List String)(xs:List D):fD c f (.ins c' ns xs)=aY (c'=c) (ofO ((ns.zip xs).lookup f)):=rfl
@[simp] theorem aCj(c m:String)(p:List D->R D)(dv:List D)(f:Ex)(r:Exs)(st:PSt):dU c m p dv f r st=(f st).bind λx=>(r st).bind λxs=>match x with|.ins c' ns _=>aY (c'=c/\m∉ns) (p (x::(xs++dv)))|_=>.bad:=rfl
@[simp] theorem bK0(is:List Nat)(b:Bd)(st:PSt):sFz is b st=b (is.foldl fz1 st):=rfl
@[simp] theorem bK1(st:PSt)(i:Nat):fz1 st i=(match st[i]? with|some (some (.o k xs))=>st.set i (some (.v (ofK k xs)))|_=>st):=rfl
@[simp] theorem bJ1(x y:List Nat):aN1 (.str x) [.str y]=.ok (.int (yP (lV x y 0))):=rfl
@[simp] theorem bHp(x y:List Nat):aGs (.str x) [.str y]=aY (x.length<=big) (.ok (.str (uM x y))):=rfl
@[simp] theorem bCu(i:Nat):yP (some i)=i:=rfl
@[simp] theorem bHq(x:List D):lY (.tup x)=.ok (.int x.length):=rfl
@[simp] theorem bJ2(i j:Int):dGe (.int i) (.int j)=.ok (.bl (decide (j<=i))):=rfl
@[simp] theorem bHr(b:Int):aJ1 (.int b)=true:=rfl
@[simp] theorem bHs(b:List Nat):aJ1 (.str b)=true:=rfl
@[simp] theorem bHt(b:List D):aJ1 (.tup b)=true:=rfl
@[simp] theorem bHu(b:List D):aJ1 (.lst b)=true:=rfl
@[simp] theorem bK2(i:Nat)(d:D)(st:PSt):tgN i d st=.ok (st.set i (some (.v d))):=rfl
@[simp] theorem bJ3(st:PSt):clr [] st=st:=rfl
@[simp] theorem bHv(i:Nat)(is:List Nat)(st:PSt):clr (i::is) st=clr is (st.set i none):=rfl
theorem nD(tg:Tg)(c f:Ex)(st:PSt)(d:D)(ds:List D):jY tg c f st (d::ds)=(tg d st).bind λs1=>(c s1).bind λx=>onB x λb=>if b=true then (f s1).bind λy=>(jY tg c f st ds).bind λys=>.ok (y::ys) else jY tg c f st ds:=rfl
@[simp] theorem aGv(is:List Nat)(tg:Tg)(it:ItE)(c f:Ex)(st:PSt):dF is tg it c f st=(it st).bind λxs=>aY (xs.length<=big) ((jY tg c f (clr is st) xs).bind λys=>.ok (.lst ys)):=rfl
@[simp] theorem bHw(st:PSt):dM st=.ok (.nx st):=rfl
@[simp] theorem aR7(a b:Bd)(st:PSt):bG a b st=aJ2 (a st) b:=rfl
@[simp] theorem aR8(i:Nat)(f:Ex)(st:PSt):cL i f st=(f st).bind λd=>.ok (.nx (st.set i (some (.v d)))):=rfl
@[simp] theorem wC(f:Ex)(st:PSt):cY f st=(f st).bind λd=>.ok (.rt d):=rfl
@[simp] theorem aPr(c:Ex)(a b:Bd)(st:PSt):sIf c a b st=(c st).bind λx=>onB x λq=>if q=true then a st else b st:=rfl
@[simp] theorem aR9(tg:Tg)(it:ItE)(body:Bd)(st:PSt):rY tg it body st=(it st).bind λxs=>forR tg body xs st:=rfl
@[simp] theorem bJ4(i j:Int):dLe (.int i) (.int j)=.ok (.bl (decide (i<=j))):=rfl
@[simp] theorem bEj(x y:D):dEq x y=aY (dep x<=64/\plain x=true/\plain y=true) (.ok (.bl (eqD x y))):=rfl
@[simp] theorem bEk(x y:D):dNe x y=aY (dep x<=64/\plain x=true/\plain y=true) (.ok (.bl (!eqD x y))):=rfl
@[simp] theorem bJ5(i:Int):dep (.int i)=0:=by unfold dep;rfl
@[simp] theorem bJ6(s:List Nat):dep (.str s)=0:=by unfold dep;rfl
@[simp] theorem bJ7(x:List D):dep (.lst x)=oX x+1:=by conv=>lhs;unfold dep
@[simp] theorem bGi:plain .non=true:=by unfold plain;rfl
@[simp] theorem bHx(b:Bool):plain (.bl b)=true:=by unfold plain;rfl
@[simp] theorem bGj(i:Int):plain (.int i)=true:=by unfold plain;rfl
@[simp] theorem bGk(s:List Nat):plain (.str s)=true:=by unfold plain;rfl
@[simp] theorem bGl(x:List D):plain (.tup x)=gF x:=by conv=>lhs;unfold plain
@[simp] theorem bGm(x:List D):plain (.lst x)=gF x:=by conv=>lhs;unfold plain
@[simp] theorem bGn(t:Bool)(k v:List D):plain (.dct t k v)=false:=by unfold plain;rfl
@[simp] theorem bGo(c:String)(n:List String)(v:List D):plain (.ins c n v)=false:=by unfold plain;rfl
@[simp] theorem bGp(c:String)(n:List String)(v:List D):plain (.exn c n v)=false:=by unfold plain;rfl
@[simp] theorem bHy(f:String):plain (.fn f)=false:=by unfold plain;rfl
@[simp] theorem bEl:gF []=true:=by unfold gF;rfl
@[simp] theorem qI(a:D)(x:List D):gF (a::x)=(plain a&&gF x):=by conv=>lhs;unfold gF
@[simp] theorem bHz:oX []=0:=by unfold oX;rfl
@[simp] theorem aTs(a:D)(x:List D):oX (a::x)=max (dep a) (oX x):=by conv=>lhs;unfold oX
@[simp] theorem bJ8(i j:Int):eqD (.int i) (.int j)=(i==j):=by unfold eqD;rfl
@[simp] theorem bJ9(i j:List Nat):eqD (.str i) (.str j)=(i==j):=by unfold eqD;rfl
@[simp] theorem bCv(x:List D)(y:List D):eqD (.lst x) (.lst y)=mH x y:=by conv=>lhs;unfold eqD
@[simp] theorem bA8:mH [] []=true:=by unfold mH;rfl
@[simp] theorem aZ8(b:D)(y:List D):mH [] (b::y)=false:=by unfold mH;rfl
@[simp] theorem aZ9(b:D)(y:List D):mH (b::y) []=false:=by unfold mH;rfl
@[simp] theorem bI0(x:List D):lY (.lst x)=.ok (.int x.length):=rfl
@[simp] theorem bJa(x:List D)(i:Int):dIx (.tup x) (.int i)=ofO (atI x i):=rfl
@[simp] theorem bJb(x:List D)(i:Int):dIx (.lst x) (.int i)=ofO (atI x i):=rfl
@[simp] theorem bJc(x:List Nat)(l h:Option Int):dSl (.str x) l h=aY (x.length<=big) (.ok (.str (cut x l h))):=rfl
@[simp] theorem bI1(a:α):ofO (some a)=.ok a:=rfl
@[simp] theorem gR{c:Prop}{r:R α}(h:c):aY c r=r:=aF h
@[simp] theorem aRa{b:Bd} (h:ds.length=np):cT np n b ds=(b (ds.map (λd=>some (.v d))++List.replicate (n-np) none)).bind λx=>match x with
  |.nx _=>.ok .non
  |.rt d=>.ok d
  |_=>.bad:=aF h
theorem bEm{xs:List α}{i:Int}(h0:0<=i)(h:i<xs.length):atI xs i=some (xs[i.toNat]'(by omega)):=by
 unfold atI ixN;rw[if_pos h0,if_pos h];exact List.getElem?_eq_getElem (by omega)
theorem atI_nat{xs:List α}{i:Nat}(h:i<xs.length):atI xs (i:Int)=some xs[i]:=by
 rw[bEm (by omega) (by omega)]
 simp
def aRb:D->R D
 |.lst x=>.ok (.lst x)
 |.tup x=>.ok (.lst x)
 |_=>.bad
def bls:List D->R (List Bool)
 |[]=>.ok []
 |.bl b::r=>(bls r).bind λx=>.ok (b::x)
 |_::_=>.bad
def xP:List D->R (List Int)
 |[]=>.ok []
 |.int i::r=>(xP r).bind λx=>.ok (i::x)
 |_::_=>.bad
def aJj:List D->R (List (List Nat))
 |[]=>.ok []
 |.str s::r=>(aJj r).bind λx=>.ok (s::x)
 |_::_=>.bad
def aFr:D->R D
 |.lst x=>(bls x).bind λl=>.ok (.bl (l.all id))
 |_=>.bad
def aE9:List Int->Int
 |[]=>0
 |i::r=>r.foldl (λa b=>if b>a then b else a) i
noncomputable def aGw:D->R D
 |.lst x=>(xP x).bind λl=>aY (0<l.length) (.ok (.int (aE9 l)))
 |_=>.bad
def aCk(sep:List Nat):List (List Nat)->List Nat
 |[]=>[]
 |[x]=>x
 |x::r=>x++sep++aCk sep r
noncomputable def aGx:Mop
 |.str sep,[.lst x]=>(aJj x).bind λl=>aY ((l.map List.length).sum+l.length*sep.length<=big) (.ok (.str (aCk sep l)))
 |_,_=>.bad
theorem aW7:∀{x:List D}{l:List Bool},bls x=.ok l->x=l.map D.bl
 |[],l,h=>by cases h;rfl
 |d::x,l,h=>by
  cases d<;>first|(cases h;done)|skip
  obtain⟨l',h1,h2⟩:=R.ok_of h;cases h2;rw[aW7 h1];rfl
theorem yR:∀{x:List D}{l:List Int},xP x=.ok l->x=l.map D.int
 |[],l,h=>by cases h;rfl
 |d::x,l,h=>by
  cases d<;>first|(cases h;done)|skip
  obtain⟨l',h1,h2⟩:=R.ok_of h;cases h2;rw[yR h1];rfl
theorem aN6:∀{x:List D} {l:List (List Nat)},aJj x=.ok l->x=l.map D.str
 |[],l,h=>by cases h;rfl
 |d::x,l,h=>by
  cases d<;>first|(cases h;done)|skip
  obtain⟨l',h1,h2⟩:=R.ok_of h;cases h2;rw[aN6 h1];rfl
theorem aRc:∀(l:List Bool),bls (l.map D.bl)=.ok l
 |[]=>rfl
 |b::l=>by show (bls (l.map D.bl)).bind _=_;rw[aRc l];rfl
theorem rT:∀(l:List Int),xP (l.map D.int)=.ok l
 |[]=>rfl
 |b::l=>by show (xP (l.map D.int)).bind _=_;rw[rT l];rfl
theorem aJk:∀(l:List (List Nat)),aJj (l.map D.str)=.ok l
 |[]=>rfl
 |b::l=>by show (aJj (l.map D.str)).bind _=_;rw[aJk l];rfl
theorem aAf:∀(r:List Int)(a:Int),a<=r.foldl (λa b=>if b>a then b else a) a/\(∀x∈r,x<=r.foldl (λa b=>if b>a then b else a) a)/\(r.foldl (λa b=>if b>a then b else a) a=a\/r.foldl (λa b=>if b>a then b else a) a∈r)
 |[],a=>⟨Int.le_refl _,λ_ h=>(by cases h),.inl rfl⟩
 |b::r,a=>by
  obtain⟨h1,h2,h3⟩:=aAf r (if b>a then b else a)
  rw[foldl_cons];have ha:a<=(if b>a then b else a):=by split<;>omega
  have hb:b<=(if b>a then b else a):=by split<;>omega
  refine⟨Int.le_trans ha h1,λx hx=>?_,?_⟩
  .rcases List.mem_cons.mp hx with rfl|hx
   .exact Int.le_trans hb h1
   .exact h2 x hx
  .rcases h3 with h3|h3
   .rw[h3];split
    .exact .inr mem_cons_self
    .exact .inl rfl
   .exact .inr (mem_cons_of_mem _ h3)
theorem aL4{l:List Int}{m:Int}(hm:m∈l)(hx:∀x∈l,x<=m):aE9 l=m:=by
 cases l with
 |nil=>cases hm
 |cons i r=>
  obtain⟨h1,h2,h3⟩:=aAf r i;have ha:aE9 (i::r)<=m:=by
   rcases h3 with h3|h3
   .exact hx _ (by show r.foldl _ i∈_;rw[h3];exact mem_cons_self)
   .exact hx _ (mem_cons_of_mem _ h3)
  have hb:m<=aE9 (i::r):=by
   rcases List.mem_cons.mp hm with e|e
   .rw[e];exact h1
   .exact h2 _ e
  omega
inductive NFl where
 |nx (xss:List (List D)) (st:PSt)|rt (d:D)
abbrev NB:=List (List D)->PSt->R NFl
def aW8(i:Nat):Bd:=λst=>match st[i]? with
 |some (some (.o .l xs))=>.ok (.rt (.lst xs))
 |_=>.bad
def aCl(bd:Bd)(i:Nat):Bd:=λst=>match bd st with
 |.ok (.nx s)=>aW8 i s
 |_=>.bad
def yS(l:List Int):List Int:=l.foldl (λacc x=>if acc.any (· == x) then acc else acc++[x]) []
def atom:D->Bool
 |.non=>true
 |.bl _=>true
 |.int _=>true
 |.str _=>true
 |_=>false
def bI2:D->Bool
 |.lst xs=>xs.all atom
 |_=>false
noncomputable section
def bEn:D->R D
 |.lst xs=>aY (xs.length<=big/\xs.all bI2=true) (.ok (.lst xs))
 |_=>.bad
def unL:D->List D
 |.lst xs=>xs
 |_=>[]
open Classical in
def bKc(c:String)(np n:Nat)(b:Bd)(ds:List D):R D:=if h:∃r,∀x,aJi c np n b x ds=r then choose h else .bad
end
def aCm:List Nat->List D->List D
 |c::z,d::ds=>.tup [.str [c],d] :: aCm z ds
 |_,_=>[]
def bCw(f g:Ex):ItE:=λst=>(f st).bind λx=>(g st).bind λy=>match x,y with
 |.str z,.lst ds=>.ok (aCm z ds)
 |_,_=>.bad
noncomputable section
def aCn:D->R D
 |.int n=>aY (-(big:Int)<=n/\n<=(big:Int)) (.ok (.lst (pF 0 n.toNat)))
 |_=>.bad
def aPs(i:Nat)(g f:Ex):Bd:=λst=>(g st).bind λk=>(f st).bind λd=>aY (aVz k=true/\atom d=true) (.ok (.nx (st.set i (some (.o (.d false [k]) [d])))))
end
noncomputable section
def aN7:Op2
 |.int i,.int j=>aY (0<=j/\j<=1000000/\i.natAbs<18446744073709551616) (.ok (.int (i*2^j.toNat)))
 |_,_=>.bad
def aTt:Op2
 |.int i,.int j=>aY (0<=j) (.ok (.int (i/2^j.toNat)))
 |_,_=>.bad
def aL5:Op2
 |.int i,.int j=>aY (0<=i/\0<=j) (.ok (.int ((i.toNat&&&j.toNat:Nat):Int)))
 |_,_=>.bad
def dOr:Op2
 |.int i,.int j=>aY (0<=i/\0<=j) (.ok (.int ((i.toNat|||j.toNat:Nat):Int)))
 |_,_=>.bad
def aRd:Mop
 |.lst xs,[.int k]=>(xP xs).bind λl=>(ofO (l.findIdx? λi=>i==k)).bind λn=>aY (xs.length<=big) (.ok (.int (n:Int)))
 |_,_=>.bad
end
def vC(i:Int):Nat:=if i=0 then 0 else i.natAbs.log2+1
def aG4:D->R D
 |.int i=>.ok (.int (vC i:Nat))
 |_=>.bad
noncomputable def aGy:D->R D
 |.dct false ks ds=>aY (ks.length<=big) (.ok (.lst (List.zipWith (λk d=>.tup [k,d]) ks ds)))
 |_=>.bad
def tQ(bd:Bd)(f:Ex):Bd:=λst=>match bd st with
 |.ok (.nx s)=>(f s).bind λd=>match d with
  |.lst xs=>.ok (.rt (.lst xs))
  |_=>.bad
 |_=>.bad
def aPt:Op2
 |.int i,.int j=>.ok (.bl (decide (i<j)))
 |_,_=>.bad
noncomputable def rZ:Op2
 |.int i,.int j=>aY ((-18446744073709551616<i/\i<18446744073709551616)\/(-18446744073709551616<j/\j<18446744073709551616)) (.ok (.int (i*j)))
 |_,_=>.bad
@[simp] theorem bI3(i j:Int):aPt (.int i) (.int j)=.ok (.bl (decide (i<j))):=rfl
end Pu
variable{nb:Pu.NB}
namespace Pu
noncomputable section
def yH(l:List Int):List Int:=l.mergeSort λa b=>decide (a<=b)
theorem sE(l:List Int):(yH l).Perm l:=List.mergeSort_perm _ _
theorem aN8(l:List Int):(yH l).Pairwise (· <= ·):=by
 have h:=List.pairwise_mergeSort (le:=λa b:Int=>decide (a<=b)) (λa b c h1 h2=>by
  have:=of_decide_eq_true h1;have:=of_decide_eq_true h2;exact decide_eq_true (by omega)) (λa b=>by
  rcases Int.le_total a b with h|h
  .simp[h]
  .simp[h]) l
 exact h.imp λh=>of_decide_eq_true h
def aL6:D->R D
 |.lst x=>(xP x).bind λl=>aY (l.length<=4000/\(yS l).length<64) (.ok (.lst ((yH (yS l)).map D.int)))
 |_=>.bad
end
noncomputable section
def aGz:D->D->D->R D
 |.dct t ks vs,k,x=>aY (keyOk t k=true) (if qP ks k=true then ofO (uL ks vs k) else .ok x)
 |_,_,_=>.bad
def aW9(f g h:Ex):Ex:=λst=>(f st).bind λd=>(g st).bind λk=>(h st).bind λx=>aGz d k x
end
noncomputable section
def aRe(r:Exs)(g:Ex):Ex:=λst=>(r st).bind λxs=>(g st).bind λy=>inI y λj=>aY (xs.length<=big/\xs.length*j.toNat<=big/\-4611686018427387904<=j/\j<4611686018427387904) (.ok (.lst (rep j.toNat xs)))
def bA9:D->R D
 |.int i=>.ok (.int i)
 |.bl b=>.ok (.int (if b then 1 else 0))
 |_=>.bad
end
noncomputable section
def aN9(c:String):Ex:=λ_=>.ok (.ins c [] [])
def aAy(f g:Ex):Ex:=λst=>match f st with
 |.bad=>g st
 |r=>r
theorem bEo{st:PSt} (h:aAy f g st=.ok d):f st=.ok d\/g st=.ok d:=by
 unfold aAy at h;split at h
 .exact .inr h
 .exact .inl h
def aJl(c:String)(b:Bool):D->R D
 |.ins c' _ _=>aY (c'=c) (.ok (.bl b))
 |_=>.bad
end
noncomputable def aWa:Op2
 |.int i,.int j=>aY (0<=i/\0<=j) (.ok (.int (((i.toNat|||j.toNat:Nat):Int)-((i.toNat&&&j.toNat:Nat):Int))))
 |_,_=>.bad
def aWb(o1 o2:Op2)(f g h:Ex):Ex:=λst=>(f st).bind λx=>(g st).bind λy=>(o1 x y).bind λd=>onB d λb=>if b=true then (h st).bind λz=>o2 y z else .ok (.bl false)
noncomputable section
def aNa:D->R D
 |.lst x=>(xP x).bind λl=>aY (l.length<64) (.ok (.lst ((yH l).map D.int)))
 |_=>.bad
end
noncomputable section
def aF0:Bd:=bG (sIf (e2 aPt (aB 1) (e1 lY (aB 0))) (cY (e2 pD (e2 dIx (aB 0) (aB 1)) (e2 bA1 (eC (.int 10)) (eC (.int 30))))) (dM)) (bG (cL 2 (eC (.int 0))) (bG (sIf (e2 dGt (e1 lY (aB 0)) (eC (.int 0))) (cL 2 (e2 pD (e2 dIx (aB 0) (e2 pD (aB 1) (e1 lY (aB 0)))) (eC (.int 999983)))) (dM)) (cY (e2 pD (e2 rZ (e2 gD (e2 gD (e2 rZ (aB 2) (eC (.int 48271))) (e2 rZ (eC (.int 7919)) (aB 1))) (eC (.int 11))) (e2 gD (aB 1) (eC (.int 2)))) (eC (.int 2147483647))))))
def gY:List D->R D:=cT 2 3 aF0
def aF1:Bd:=bG (cL 3 (e2 pD (e2 gD (aB 0) (e2 rZ (eC (.int 15485863)) (aB 1))) (eC (.int 2147483629)))) (bG (cL 3 (e2 pD (e2 rZ (e2 pD (e2 rZ (aB 3) (aB 3)) (eC (.int 2147483647))) (eC (.int 69621))) (eC (.int 2147483629)))) (cY (e2 pD (e2 aGr (e2 pD (e2 rZ (aB 3) (aB 3)) (eC (.int 2147483587))) (eC (.int 32))) (aB 2))))
def eU:List D->R D:=cT 3 4 aF1
def xQ(st:PSt):R Fl:=(bG (aJ3 2 (e2 pD (aB 0) (aB 3))) (cL 0 (e2 aGr (aB 0) (aB 3)))) st
def aB3:Bd:=bG (xO 2 (nZ (aU))) (bG (rY (tgN 3) (itE (aB 1)) (xQ)) (sFz [2] (cY (aB 2))))
def iJ:List D->R D:=cT 2 4 aB3
def iV(st:PSt):R D:=(aW eU (aC (aB 1) (aC (e2 gD (eC (.int 1)) (aB 9)) (aC (e2 dIx (aB 2) (aB 9)) (aU))))) st
def pH(st:PSt):R D:=(aW eU (aC (aB 10) (aC (e2 gD (eC (.int 11)) (aB 12)) (aC (aB 4) (aU))))) st
def pI(st:PSt):R D:=(e2 aN2 (aB 6) (aB 13)) st
def lJ(st:PSt):R Fl:=(bG (cL 10 (aW gY (aC (aB 0) (aC (e2 gD (eC (.int 1)) (aB 9)) (aU))))) (bG (cL 11 (aW iJ (aC (aB 10) (aC (e2 gD (aRe (aC (aB 4) (aU)) (e2 gD (eC (.int 1)) (e2 dIx (aB 3) (eC (.int 1))))) (nZ (aC (eC (.int 3)) (aU)))) (aU))))) (bG (sIf (e2 dEq (e2 pD (aB 1) (eC (.int 2))) (eC (.int 0))) (cL 11 (e2 gD (dF [12] (tgN 12) (yG (e2 gD (eC (.int 1)) (e2 dIx (aB 3) (eC (.int 1))))) dG (pH)) (nZ (aC (aW eU (aC (aB 10) (aC (eC (.int 21)) (aC (eC (.int 3)) (aU))))) (aU))))) (dM)) (bG (sIf (e2 dGe (aB 9) (aB 6)) (cL 11 (e2 gD (dF [13] (tgN 13) (itE (eSl (aB 11) (vB) (qH (e1 rE (eC (.int 1)))))) dG (pI)) (nZ (aC (e2 dIx (aB 11) (e1 rE (eC (.int 1)))) (aU))))) (dM)) (bG (aJ3 7 (eSl (aB 11) (vB) (qH (e1 rE (eC (.int 1)))))) (aJ3 8 (e2 gD (e2 gD (aB 5) (e2 rZ (eC (.int 2)) (e2 dIx (aB 11) (e1 rE (eC (.int 1)))))) (e1 bA9 (e2 dGe (aB 9) (aB 6)))))))))) st
def yU:Bd:=bG (cL 1 (aW gY (aC (aB 0) (aC (eC (.int 0)) (aU))))) (bG (cL 2 (nZ (aC (eC (.int 6)) (aC (eC (.int 3)) (aC (eC (.int 3)) (aC (eC (.int 2)) (aC (eC (.int 7)) (aU)))))))) (bG (cL 3 (dF [9] (tgN 9) (yG (eC (.int 5))) dG (iV))) (bG (sIf (e2 dEq (e2 pD (aB 1) (eC (.int 2))) (eC (.int 1))) (cL 3 (aW iJ (aC (e2 aGr (aB 1) (eC (.int 2))) (aC (aB 2) (aU))))) (dM)) (bG (cL 4 (e2 gD (eC (.int 1)) (e2 dIx (aB 3) (eC (.int 0))))) (bG (cL 5 (e2 gD (e2 dIx (nZ (aC (eC (.int 0)) (aC (eC (.int 0)) (aC (e2 bA1 (eC (.int 10)) (eC (.int 29))) (aU))))) (e2 dIx (aB 3) (eC (.int 2)))) (e2 dIx (aB 3) (eC (.int 3))))) (bG (cL 6 (e2 pD (e2 dIx (aB 3) (eC (.int 4))) (e2 gD (aB 4) (eC (.int 1))))) (bG (xO 7 (nZ (aU))) (bG (xO 8 (nZ (aU))) (bG (rY (tgN 9) (yG (aB 4)) (lJ)) (sFz [7,8] (cY (aN3 (aC (aB 7) (aC (aB 8) (aC (e2 pD (aB 5) (eC (.int 2))) (aU))))))))))))))))
def jZ:List D->R D:=cT 1 14 yU
def aB4(st:PSt):R D:=(e2 dIx (eC (.str [97,98,99])) (aW eU (aC (aB 0) (aC (e2 gD (eC (.int 31)) (aB 4)) (aC (aB 1) (aU)))))) st
def aB5(st:PSt):R D:=(e2 dIx (eC (.str [97,98,99])) (aW eU (aC (aB 0) (aC (e2 gD (eC (.int 51)) (aB 4)) (aC (aB 1) (aU)))))) st
def aF2:Bd:=bG (cL 2 (eMt aGx (eC (.str [])) (aC (dF [4] (tgN 4) (yG (aW eU (aC (aB 0) (aC (eC (.int 29)) (aC (eC (.int 9)) (aU)))))) dG (aB4)) (aU)))) (bG (cL 3 (eMt aGx (eC (.str [])) (aC (dF [4] (tgN 4) (yG (e2 gD (eC (.int 1)) (aW eU (aC (aB 0) (aC (eC (.int 30)) (aC (eC (.int 5)) (aU))))))) dG (aB5)) (aU)))) (cY (aN3 (aC (aB 2) (aC (aB 3) (aU))))))
def nQ:List D->R D:=cT 2 5 aF2
def yV(st:PSt):R Fl:=(cL 1 (e2 dIx (e2 dIx (aB 0) (aB 1)) (eMt aBs (eC (.str [97,98,99])) (aC (aB 3) (aU))))) st
def aCo:Bd:=bG (rY (tgN 3) (itE (aB 2)) (yV)) (cY (aB 1))
def jH:List D->R D:=cT 3 4 aCo
def aB6(st:PSt):R Fl:=(bG (cL 3 (e2 dIx (e2 dIx (aB 0) (aB 3)) (eMt aBs (eC (.str [97,98,99])) (aC (aB 5) (aU))))) (cL 4 (e2 aN2 (aB 4) (e2 dIx (aB 1) (aB 3))))) st
def aF3:Bd:=bG (cL 3 (aW jH (aC (aB 0) (aC (eC (.int 0)) (aC (e2 gD (e2 dIx (aB 2) (eC (.int 0))) (e2 aPn (e2 dIx (aB 2) (eC (.int 1))) (e1 lY (aB 0)))) (aU)))))) (bG (cL 4 (eC (.int 0))) (bG (rY (tgN 5) (itE (e2 aPn (e2 dIx (aB 2) (eC (.int 1))) (e1 lY (aB 0)))) (aB6)) (cY (e2 dEq (e2 pD (aB 4) (eC (.int 2))) (eC (.int 0))))))
def tR:List D->R D:=cT 3 6 aF3
def aAg:Bd:=cY (aAx (eB bA2 (aB 0)) (e2 dEq (eMt aGs (aB 0) (aC (eSl (eC (.str [97,98,99])) (vB) (qH (aB 1))) (aU))) (eC (.str []))))
def gQ:List D->R D:=cT 2 2 aAg
def wF:Bd:=bG (sIf (eOr (rF (eB bEh (aB 0))) (e2 dNe (e1 lY (aB 0)) (eC (.int 2)))) (cY (eC (.bl false))) (dM)) (cY (aAx (aW gQ (aC (e2 dIx (aB 0) (eC (.int 0))) (aC (aB 1) (aU)))) (aAx (aW gQ (aC (e2 dIx (aB 0) (eC (.int 1))) (aC (aB 1) (aU)))) (e2 dNe (e2 dIx (aB 0) (eC (.int 1))) (eC (.str []))))))
def jJ:List D->R D:=cT 2 2 wF
def aBt:Bd:=cY (aAx (eB isIn (aB 0)) (rF (eB bEg (aB 0))))
def pJ:List D->R D:=cT 1 1 aBt
def aBu:Bd:=cY (aAx (aW pJ (aC (aB 0) (aU))) (aAx (e2 dGe (aB 0) (eC (.int 0))) (e2 aPt (aB 0) (aB 1))))
def nF:List D->R D:=cT 2 2 aBu
def qJ:Bd:=sIf (rF (aW nF (aC (aB 1) (aC (e1 (fD "Machine" "many") (aB 0)) (aU))))) (qQ) (dM)
def bW:List D->R D:=cT 2 2 qJ
def iW(st:PSt):R Fl:=(bG (cL 1 (e2 dIx (e2 dIx (e1 (fD "Machine" "steps") (aB 0)) (aB 1)) (eMt aN1 (eC (.str [97,98,99])) (aC (aB 4) (aU))))) (aJ3 3 (aB 1))) st
def eF:Bd:=bG (xO 3 (nZ (aC (aB 1) (aU)))) (bG (rY (tgN 4) (itE (aB 2)) (iW)) (dM))
def yI:Bd:=aCl eF 3
def bD:List D->R D:=cT 3 5 yI
def pK(st:PSt):R Fl:=(bG (sDPut 4 (e2 dIx (dZ 3) (e1 rE (eC (.int 1)))) (e2 bA0 (e1 lY (dZ 3)) (eC (.int 1)))) (aW0 3 (eSl (dU "Machine" "rooms_along" (bD) [] (aB 0) (aC (e2 dIx (dZ 3) (e1 rE (eC (.int 1)))) (aC (e2 dIx (aB 1) (eC (.int 1))) (aU)))) (qH (eC (.int 1))) (vB)))) st
def lK(st:PSt):R D:=(e2 wB (e2 dIx (dZ 3) (e1 rE (eC (.int 1)))) (dZ 4)) st
def yW:Bd:=bG (aTq (dU "Machine" "check_room" (bW) [] (aB 0) (aC (aB 2) (aU)))) (bG (sIf (rF (aW jJ (aC (aB 1) (aC (e1 (fD "Machine" "letters") (aB 0)) (aU))))) (qQ) (dM)) (bG (xO 3 (dU "Machine" "rooms_along" (bD) [] (aB 0) (aC (aB 2) (aC (e2 dIx (aB 1) (eC (.int 0))) (aU))))) (bG (aW1 4 false) (bG (aL2 100000 (lK) (pK)) (bG (cL 5 (e2 dIx (dZ 4) (e2 dIx (dZ 3) (e1 rE (eC (.int 1)))))) (cY (aN3 (aC (eSl (dZ 3) (vB) (qH (aB 5))) (aC (eSl (dZ 3) (qH (aB 5)) (qH (e1 rE (eC (.int 1))))) (aU))))))))))
def kE:List D->R D:=cT 3 6 yW
def pL(st:PSt):R D:=(e2 dIx (e1 (fD "Machine" "ranks") (aB 0)) (aB 4)) st
def yX:Bd:=bG (cL 3 (e2 dIx (dU "Machine" "walk" (kE) [] (aB 0) (aC (aB 1) (aC (aB 2) (aU)))) (eC (.int 1)))) (cY (e2 dEq (e2 pD (e1 aGw (dF [4] (tgN 4) (itE (aB 3)) dG (pL))) (eC (.int 2))) (eC (.int 0))))
def bV:List D->R D:=cT 3 5 yX
def qR(st:PSt):R Fl:=(sIf (eOr (e2 dNe (dU "Machine" "lets" (bV) [] (aB 6) (aC (aB 7) (aC (aB 5) (aU)))) (aB 4)) (e2 dNe (dU "Machine" "lets" (bV) [.int 0] (aB 6) (aC (aN3 (aC (e2 gD (aB 2) (e2 dIx (aB 7) (eC (.int 0)))) (aC (e2 dIx (aB 7) (eC (.int 1))) (aU)))) (aU))) (aB 4))) (cY (eC (.bl false))) (dM)) st
def aFs(st:PSt):R Fl:=(rY (tgN 7) (itE (aB 3)) (qR)) st
def aB7:Bd:=bG (cL 5 (aW jH (aC (aB 1) (aC (eC (.int 0)) (aC (aB 2) (aU)))))) (bG (rY (tgN 6) (itE (aB 0)) (aFs)) (cY (eC (.bl true))))
def pR:List D->R D:=cT 5 8 aB7
def aB8(st:PSt):R Fl:=(bG (cL 10 (e2 dIx (e1 (fD "Machine" "ranks") (e2 dIx (aB 0) (eC (.int 1)))) (aW jH (aC (aB 1) (aC (eC (.int 0)) (aC (eSl (aB 7) (vB) (qH (aB 9))) (aU))))))) (aJ3 8 (e2 pD (e2 gD (aB 10) (aB 5)) (eC (.int 2))))) st
def aF4:Bd:=bG (cL 6 (aW tR (aC (aB 1) (aC (aB 2) (aC (aB 3) (aU)))))) (bG (sIf (eOr (e2 dNe (dU "Machine" "lets" (bV) [.int 0] (e2 dIx (aB 0) (eC (.int 0))) (aC (aB 3) (aU))) (aB 6)) (e2 dNe (dU "Machine" "lets" (bV) [.int 0] (e2 dIx (aB 0) (eC (.int 1))) (aC (aB 3) (aU))) (aB 6))) (cY (eC (.bl false))) (dM)) (bG (cL 7 (e2 gD (e2 dIx (aB 3) (eC (.int 0))) (e2 aPn (e2 dIx (aB 3) (eC (.int 1))) (e1 lY (aB 1))))) (bG (xO 8 (nZ (aU))) (bG (rY (tgN 9) (yG (e2 gD (e1 lY (aB 7)) (eC (.int 1)))) (aB8)) (bG (sFz [8] (sIf (eOr (e2 dNe (e1 aNa (dZ 8)) (dZ 8)) (e2 dNe (e2 dEq (e2 dIx (dZ 8) (e1 rE (eC (.int 1)))) (eC (.int 1))) (e2 dEq (aB 6) (e2 dEq (aB 5) (eC (.int 1)))))) (cY (eC (.bl false))) (dM))) (cY (eOr (e2 dEq (e2 dIx (dZ 8) (e1 rE (eC (.int 1)))) (eC (.int 0))) (aW pR (aC (aB 0) (aC (aB 1) (aC (aB 7) (aC (aB 4) (aC (e2 dEq (aB 5) (eC (.int 1))) (aU))))))))))))))
def tU:List D->R D:=cT 6 11 aF4
def aBv:Bd:=cY (e2 dEq (e2 aL5 (e2 aTt (aB 0) (aB 1)) (eC (.int 1))) (eC (.int 1)))
def fU:List D->R D:=cT 2 2 aBv
def wG(st:PSt):R D:=(aB 1) st
def wH(st:PSt):R D:=(aW fU (aC (aB 0) (aC (aB 1) (aU)))) st
def aBw:Bd:=cY (dF [1] (tgN 1) (yG (e1 aG4 (aB 0))) (wH) (wG))
def cA:List D->R D:=cT 1 2 aBw
def nR(st:PSt):R Fl:=(cL 1 (e2 dOr (aB 1) (e2 aN7 (eC (.int 1)) (aB 2)))) st
def aEa:Bd:=bG (cL 1 (eC (.int 0))) (bG (rY (tgN 2) (itE (aB 0)) (nR)) (cY (aB 1)))
def jR:List D->R D:=cT 1 3 aEa
def yZ(st:PSt):R Fl:=(sDPut 3 (aB 4) (e2 aL5 (e2 dOr (aW jR (aC (e2 dIx (aB 0) (aB 4)) (aU))) (e2 aN7 (eC (.int 1)) (aB 4))) (aB 1))) st
def oA(st:PSt):R Fl:=(sIf (aW fU (aC (e2 dIx (dZ 3) (aB 4)) (aC (aB 5) (aU)))) (sDPut 3 (aB 4) (e2 dOr (e2 dIx (dZ 3) (aB 4)) (e2 dIx (dZ 3) (aB 5)))) (dM)) st
def zA(st:PSt):R Fl:=(rY (tgN 4) (itE (aB 2)) (oA)) st
def aCp:Bd:=bG (cL 2 (aW cA (aC (aB 1) (aU)))) (bG (aW1 3 false) (bG (rY (tgN 4) (itE (aB 2)) (yZ)) (bG (rY (tgN 5) (itE (aB 2)) (zA)) (sFz [3] (cY (aB 3))))))
def jK:List D->R D:=cT 2 6 aCp
def aF5:Bd:=cY (aW jR (aC (e1 aCn (e1 (fD "Machine" "many") (aB 0))) (aU)))
def kI:List D->R D:=cT 1 1 aF5
def aF6:Bd:=cY (e2 dIx (aW jK (aC (e1 (fD "Machine" "steps") (aB 0)) (aC (aW kI (aC (aB 0) (aU))) (aU)))) (aB 1))
def nU:List D->R D:=cT 2 2 aF6
def oE(st:PSt):R D:=(e2 dIx (e1 (fD "Machine" "ranks") (aB 0)) (aB 5)) st
def aCq(st:PSt):R D:=(aB 4) st
def aCr(st:PSt):R D:=(e2 dEq (e2 dEq (e2 pD (aB 4) (eC (.int 2))) (eC (.int 0))) (aB 2)) st
def xR:Bd:=bG (cL 3 (e1 aL6 (dF [5] (tgN 5) (itE (aW cA (aC (aB 1) (aU)))) dG (oE)))) (cY (dF [4] (tgN 4) (itE (aB 3)) (aCr) (aCq)))
def mU:List D->R D:=cT 3 6 xR
def aCs:Bd:=bG (cL 2 (aW cA (aC (aB 1) (aU)))) (cY (eOr (e2 dGt (e1 lY (aB 2)) (eC (.int 1))) (e2 dIn (e2 dIx (aB 2) (eC (.int 0))) (e2 dIx (aB 0) (e2 dIx (aB 2) (eC (.int 0)))))))
def rG:List D->R D:=cT 2 3 aCs
def xT(st:PSt):R D:=(aB 6) st
def xU(st:PSt):R D:=(aW fU (aC (e2 dIx (aB 2) (aB 6)) (aC (aB 4) (aU)))) st
def qT(st:PSt):R Fl:=(bG (cL 5 (aW jR (aC (dF [6] (tgN 6) (itE (aW cA (aC (e2 dIx (aB 2) (aB 4)) (aU)))) (xU) (xT)) (aU)))) (sIf (aAx (e2 wB (aB 5) (dZ 3)) (aW rG (aC (aB 0) (aC (aB 5) (aU))))) (aJ3 3 (aB 5)) (dM))) st
def aB9:Bd:=bG (cL 2 (aW jK (aC (aB 0) (aC (aB 1) (aU))))) (bG (xO 3 (nZ (aU))) (bG (rY (tgN 4) (itE (aW cA (aC (aB 1) (aU)))) (qT)) (sFz [3] (cY (aB 3)))))
def pU:List D->R D:=cT 2 7 aB9
def aCt:Bd:=cY (aW pU (aC (e1 (fD "Machine" "steps") (aB 0)) (aC (aB 1) (aU))))
def gZ:List D->R D:=cT 2 2 aCt
def rH(st:PSt):R D:=(e2 dIx (e1 (fD "Machine" "ranks") (aB 0)) (aB 2)) st
def aBx:Bd:=bG (sIf (e2 dEq (aB 1) (eC (.int 0))) (qQ) (dM)) (cY (e1 aGw (dF [2] (tgN 2) (itE (aW cA (aC (aB 1) (aU)))) dG (rH))))
def wI:List D->R D:=cT 2 3 aBx
def aEb(st:PSt):R D:=(aB 5) st
def aEc(st:PSt):R D:=(e2 dLe (e2 dIx (e1 (fD "Machine" "ranks") (aB 0)) (aB 5)) (aB 2)) st
def lL(st:PSt):R D:=(aB 4) st
def lM(st:PSt):R D:=(e2 dEq (aW wI (aC (aB 0) (aC (aB 4) (aU)))) (aB 2)) st
def mV:Bd:=bG (cL 3 (aW jR (aC (dF [5] (tgN 5) (itE (aW cA (aC (aB 1) (aU)))) (aEc) (aEb)) (aU)))) (dM)
def aH0:Bd:=tQ mV (dF [4] (tgN 4) (itE (aW gZ (aC (aB 0) (aC (aB 3) (aU))))) (lM) (lL))
def kJ:List D->R D:=cT 3 6 aH0
def tV(st:PSt):R Fl:=(aW0 3 (aW kJ (aC (aB 0) (aC (aB 1) (aC (aB 4) (aU)))))) st
def xV:Bd:=bG (xO 3 (nZ (aU))) (bG (rY (tgN 4) (itE (aW mU (aC (aB 0) (aC (aB 1) (aC (aB 2) (aU)))))) (tV)) (sFz [3] (cY (aB 3))))
def eV:List D->R D:=cT 3 5 xV
def pW(st:PSt):R Fl:=(sIf (aAx (e2 dIn (aB 8) (aB 2)) (e2 wB (aB 8) (dZ 3))) (bG (sDPut 3 (aB 8) (e2 gD (e2 dIx (dZ 3) (aB 6)) (aB 7))) (aJ3 4 (aB 8))) (dM)) st
def aBa(st:PSt):R Fl:=(bG (cL 6 (e2 dIx (dZ 4) (aB 5))) (bG (rY (tgT [7,8]) (bCw (eC (.str [97,98,99])) (e2 dIx (aB 0) (aB 6))) (pW)) (cL 5 (e2 gD (aB 5) (eC (.int 1)))))) st
def uN(st:PSt):R D:=(e2 aPt (aB 5) (e1 lY (dZ 4))) st
def zB:Bd:=bG (aPs 3 (aB 1) (eC (.str []))) (bG (xO 4 (nZ (aC (aB 1) (aU)))) (bG (cL 5 (eC (.int 0))) (bG (aL2 100000 (uN) (aBa)) (sFz [3] (cY (aB 3))))))
def kO:List D->R D:=cT 3 9 zB
def lN:Bd:=bG (cL 1 (aW kO (aC (e1 (fD "Machine" "steps") (aB 0)) (aC (eC (.int 0)) (aC (e1 aCn (e1 (fD "Machine" "many") (aB 0))) (aU)))))) (dM)
def aFt:Bd:=tQ lN (e1 aGy (aB 1))
def mW:List D->R D:=cT 1 2 aFt
def aEd:Bd:=cY (e2 dEq (aW gZ (aC (aB 0) (aC (aB 1) (aU)))) (nZ (aC (aB 1) (aU))))
def vD:List D->R D:=cT 2 2 aEd
def aNb:Bd:=bG (sIf (rF (aW fU (aC (aB 1) (aC (aB 2) (aU))))) (cY (eC .non)) (dM)) (cY (aW9 (aW kO (aC (e1 (fD "Machine" "steps") (aB 0)) (aC (aB 2) (aC (aW cA (aC (aB 1) (aU))) (aU))))) (aB 3) (eC .non)))
def oF:List D->R D:=cT 4 4 aNb
def aCu(st:PSt):R Fl:=(sIf (e2 wB (aB 5) (dU "Machine" "rooms_along" (bD) [] (aB 0) (aC (aB 2) (aC (aB 3) (aU))))) (bG (cL 3 (e2 gD (aB 3) (aW oF (aC (aB 0) (aC (aB 1) (aC (aB 4) (aC (aB 5) (aU)))))))) (cL 4 (aB 5))) (dM)) st
def aH1:Bd:=bG (sIf (rF (aW vD (aC (aB 0) (aC (aB 1) (aU))))) (qQ) (dM)) (bG (sIf (rF (aW fU (aC (aB 1) (aC (aB 2) (aU))))) (qQ) (dM)) (bG (sIf (e2 dEq (aW cA (aC (aB 1) (aU))) (nZ (aC (aB 2) (aU)))) (cY (e2 dIx (eC (.str [97,98,99])) (eMt aRd (e2 dIx (e1 (fD "Machine" "steps") (aB 0)) (aB 2)) (aC (aB 2) (aU))))) (dM)) (bG (cL 3 (eC (.str []))) (bG (cL 4 (aB 2)) (bG (rY (tgN 5) (itE (aW cA (aC (aB 1) (aU)))) (aCu)) (cY (e2 gD (aB 3) (aW oF (aC (aB 0) (aC (aB 1) (aC (aB 4) (aC (aB 2) (aU)))))))))))))
def sH:List D->R D:=cT 3 6 aH1
def aF7(st:PSt):R D:=(aB 5) st
def aF8(st:PSt):R D:=(aW fU (aC (e2 dIx (aB 1) (eC (.int 0))) (aC (e2 dIx (aB 5) (eC (.int 0))) (aU)))) st
def aF9(st:PSt):R D:=(aW sH (aC (aB 0) (aC (aB 6) (aC (aB 3) (aU))))) st
def aJm:Bd:=bG (cL 2 (dF [5] (tgN 5) (itE (aW mW (aC (aB 0) (aU)))) (aF8) (aF7))) (bG (cL 3 (e2 dIx (e2 dIx (aB 2) (eC (.int 0))) (eC (.int 0)))) (bG (cL 4 (e2 dIx (e2 dIx (aB 2) (eC (.int 0))) (eC (.int 1)))) (cY (aN3 (aC (aB 4) (aC (dF [6] (tgN 6) (itE (aB 1)) dG (aF9)) (aU)))))))
def vG:List D->R D:=cT 2 7 aJm
def qK:Bd:=sIf (rF (aW gQ (aC (aB 1) (aC (e1 (fD "Machine" "letters") (aB 0)) (aU))))) (qQ) (dM)
def dW:List D->R D:=cT 2 2 qK
def xW:Bd:=bG (aTq (dU "Machine" "check_room" (bW) [] (aB 0) (aC (aB 1) (aU)))) (bG (aTq (dU "Machine" "check_word" (dW) [] (aB 0) (aC (aB 2) (aU)))) (cY (e2 dIx (dU "Machine" "rooms_along" (bD) [] (aB 0) (aC (aB 1) (aC (aB 2) (aU)))) (e1 rE (eC (.int 1))))))
def jQ:List D->R D:=cT 3 3 xW
def gG(st:PSt):R Fl:=(bG (cL 8 (e2 dIx (aW cA (aC (aB 7) (aU))) (eC (.int 0)))) (bG (cL 9 (aW oF (aC (aB 0) (aC (aB 2) (aC (aB 6) (aC (aB 8) (aU))))))) (sIf (e2 aGt (aB 9) (eC .non)) (cY (aN3 (aC (e2 dIx (aB 5) (eC (.int 0))) (aC (e2 dIx (e2 dIx (aB 5) (eC (.int 1))) (eC (.int 0))) (aC (aB 9) (aC (aW sH (aC (aB 0) (aC (aB 7) (aC (aB 8) (aU))))) (aU))))))) (dM)))) st
def gH(st:PSt):R Fl:=(bG (cL 5 (aW vG (aC (aB 0) (aC (nZ (aC (aB 4) (aU))) (aU))))) (bG (cL 6 (dU "Machine" "after" (jQ) [] (aB 0) (aC (eC (.int 0)) (aC (e2 dIx (aB 5) (eC (.int 0))) (aU))))) (rY (tgN 7) (itE (aB 3)) (gG)))) st
def aCv:Bd:=bG (cL 2 (aW nU (aC (aB 0) (aC (eC (.int 0)) (aU))))) (bG (cL 3 (aW eV (aC (aB 0) (aC (aB 2) (aC (aB 1) (aU)))))) (bG (rY (tgN 4) (itE (aW eV (aC (aB 0) (aC (aB 2) (aC (rF (aB 1)) (aU)))))) (gH)) (cY (eC .non))))
def jL:List D->R D:=cT 2 10 aCv
def aBb:Bd:=cY (aW jL (aC (aB 1) (aC (eC (.bl true)) (aU))))
def mJ:List D->R D:=cT 2 2 aBb
def zE:Bd:=cY (aW jL (aC (aB 1) (aC (eC (.bl false)) (aU))))
def kW:List D->R D:=cT 2 2 zE
def aCw(st:PSt):R D:=(eIf (aW fU (aC (aB 1) (aC (aB 4) (aU)))) (aB 2) (aB 3)) st
def aH2:Bd:=cY (dF [4] (tgN 4) (yG (e1 (fD "Machine" "many") (aB 0))) dG (aCw))
def sI:List D->R D:=cT 4 5 aH2
def aH3(st:PSt):R Fl:=(cL 1 (e2 dOr (aB 1) (aB 2))) st
def aNc:Bd:=bG (cL 1 (eC (.int 0))) (bG (rY (tgN 2) (itE (aB 0)) (aH3)) (cY (aB 1)))
def aCx:List D->R D:=cT 1 3 aNc
def aL7(st:PSt):R D:=(aB 3) st
def aL8(st:PSt):R D:=(e2 dNe (e2 aL5 (e2 dIx (aB 2) (aB 3)) (aB 1)) (eC (.int 0))) st
def aH4:Bd:=bG (cL 2 (aW jK (aC (e1 (fD "Machine" "steps") (aB 0)) (aC (aW kI (aC (aB 0) (aU))) (aU))))) (cY (aW jR (aC (dF [3] (tgN 3) (yG (e1 (fD "Machine" "many") (aB 0))) (aL8) (aL7)) (aU))))
def wJ:List D->R D:=cT 2 4 aH4
def tW:Bd:=bG (cL 2 (aW kI (aC (aB 0) (aU)))) (bG (cL 3 (aW aCx (aC (aW eV (aC (aB 0) (aC (aB 2) (aC (aB 1) (aU))))) (aU)))) (cY (e2 aWa (aB 2) (aW wJ (aC (aB 0) (aC (aB 3) (aU)))))))
def fP:List D->R D:=cT 2 4 tW
def aCy:Bd:=cY (aW fP (aC (aB 0) (aC (eC (.bl true)) (aU))))
def rJ:List D->R D:=cT 1 1 aCy
def rB:Bd:=cY (aW sI (aC (aB 1) (aC (aW rJ (aC (aB 1) (aU))) (aC (eC (.int 1)) (aC (eC (.int 0)) (aU))))))
def iT:List D->R D:=cT 2 2 rB
def aCz:Bd:=cY (aW fP (aC (aB 0) (aC (eC (.bl false)) (aU))))
def rK:List D->R D:=cT 1 1 aCz
def qL:Bd:=cY (aW sI (aC (aB 1) (aC (aW rK (aC (aB 1) (aU))) (aC (eC (.int 0)) (aC (eC (.int 1)) (aU))))))
def iB:List D->R D:=cT 2 2 qL
def pM:Bd:=cY (aAx (eB aTp (aB 0)) (aAx (e2 dGe (e1 lY (aB 0)) (eC (.int 1))) (e2 dLe (e1 lY (aB 0)) (aB 1))))
def fG:List D->R D:=cT 2 2 pM
def aBy(st:PSt):R D:=(aW nF (aC (aB 3) (aC (aB 2) (aU)))) st
def aH5:Bd:=cY (aAx (e2 dEq (e1 lY (aB 0)) (aB 1)) (e1 aFr (dF [3] (tgN 3) (itE (aB 0)) dG (aBy))))
def aD0:List D->R D:=cT 3 4 aH5
def uO(st:PSt):R D:=(aW fG (aC (aB 1) (aC (eC (.int 3)) (aU)))) st
def uP(st:PSt):R D:=(aW aD0 (aC (aB 1) (aC (e1 lY (e2 dIx (aB 0) (eC (.int 0)))) (aC (e1 lY (aB 0)) (aU))))) st
def zF:Bd:=bG (sIf (rF (aW fG (aC (aB 0) (aC (eC (.int 8)) (aU))))) (cY (eC (.bl false))) (dM)) (bG (sIf (rF (e1 aFr (dF [1] (tgN 1) (itE (aB 0)) dG (uO)))) (cY (eC (.bl false))) (dM)) (cY (e1 aFr (dF [1] (tgN 1) (itE (aB 0)) dG (uP)))))
def tX:List D->R D:=cT 1 2 zF
def uQ(st:PSt):R D:=(aAx (aW pJ (aC (aB 2) (aU))) (e2 dGe (aB 2) (eC (.int 0)))) st
def zG:Bd:=bG (sIf (eOr (rF (eB aTp (aB 0))) (e2 dNe (e1 lY (aB 0)) (aB 1))) (cY (eC (.bl false))) (dM)) (cY (e1 aFr (dF [2] (tgN 2) (itE (aB 0)) dG (uQ))))
def tY:List D->R D:=cT 2 3 zG
def kY(st:PSt):R D:=(e1 aRb (aB 3)) st
def gK:Bd:=bG (sIf (rF (aW tX (aC (aB 1) (aU)))) (qQ) (dM)) (bG (sIf (rF (aW tY (aC (aB 2) (aC (e1 lY (aB 1)) (aU))))) (qQ) (dM)) (bG (aJh 0 "Machine" "steps" (dF [3] (tgN 3) (itE (aB 1)) dG (kY))) (bG (aJh 0 "Machine" "ranks" (e1 aRb (aB 2))) (bG (aJh 0 "Machine" "many" (e1 lY (aB 1))) (aJh 0 "Machine" "letters" (e1 lY (e2 dIx (aB 1) (eC (.int 0)))))))))
def gM:List D->R D:=aL3 "Machine" 2 4 gK
def aBc:Bd:=bG (sIf (e2 aGt (aAy (dU "EarlyNo" "bar" (mJ) [] (aB 0) (aC (aB 1) (aU))) (dU "EarlyYes" "bar" (kW) [] (aB 0) (aC (aB 1) (aU)))) (eC .non)) (qQ) (dM)) (cY (aW gM (aC (e1 (fD "Machine" "steps") (aB 1)) (aC (aAy (dU "EarlyNo" "ranks_for" (iT) [] (aB 0) (aC (aB 1) (aU))) (dU "EarlyYes" "ranks_for" (iB) [] (aB 0) (aC (aB 1) (aU)))) (aU)))))
def fJ:List D->R D:=cT 2 2 aBc
def aL9(st:PSt):R D:=(aB 10) st
def aLa(st:PSt):R D:=(rF (aWb dLe dLe (eC (.int 0)) (aB 10) (eC (.int 1)))) st
def aLb(st:PSt):R D:=(aW nQ (aC (aW gY (aC (aB 0) (aC (e2 gD (eC (.int 7)) (aB 9)) (aU)))) (aC (e1 lY (e2 dIx (aB 6) (eC (.int 0)))) (aU)))) st
def aRf(st:PSt):R Fl:=(sIf (rF (aW tU (aC (aB 3) (aC (aB 6) (aC (aB 7) (aC (aB 5) (aC (aB 4) (aC (aB 8) (aU))))))))) (cY (eC (.bl false))) (dM)) st
def bCx:Bd:=bG (bHl (tgT [6,7,8]) (aW jZ (aC (aB 0) (aU)))) (bG (cL 1 (aW gM (aC (aB 6) (aC (aB 7) (aU))))) (bG (cL 2 (e2 dIx (nZ (aC (aN9 "EarlyNo") (aC (aN9 "EarlyYes") (aU)))) (aB 8))) (bG (sIf (eOr (rF (aAy (e1 (aJl "EarlyNo" true) (aB 2)) (e1 (aJl "EarlyYes" true) (aB 2)))) (e2 aGt (aAy (dU "EarlyNo" "bar" (mJ) [] (aB 2) (aC (aB 1) (aU))) (dU "EarlyYes" "bar" (kW) [] (aB 2) (aC (aB 1) (aU)))) (eC .non))) (cY (eC (.bl false))) (dM)) (bG (cL 3 (nZ (aC (aB 1) (aC (aAy (dU "EarlyNo" "marked" (fJ) [] (aB 2) (aC (aB 1) (aU))) (dU "EarlyYes" "marked" (fJ) [] (aB 2) (aC (aB 1) (aU)))) (aU))))) (bG (sIf (e2 dGt (e1 lY (dF [10] (tgN 10) (itE (e1 (fD "Machine" "ranks") (e2 dIx (aB 3) (eC (.int 1))))) (aLa) (aL9))) (eC (.int 0))) (cY (eC (.bl false))) (dM)) (bG (cL 4 (dF [9] (tgN 9) (yG (eC (.int 6))) dG (aLb))) (bG (rY (tgN 5) (itE (aB 4)) (aRf)) (cY (eC (.bl true))))))))))
def aJn:List D->R D:=cT 1 11 bCx
end
@[simp] theorem aNd(x:List D):aFr (.lst x)=(bls x).bind λl=>.ok (.bl (l.all id)):=rfl
@[simp] theorem bGq(x:List D):aRb (.lst x)=.ok (.lst x):=rfl
theorem aWc{x:List D}{l:List Bool}(h:x=l.map D.bl)(ht:∀b∈l,b=true):aFr (.lst x)=.ok (.bl true):=by
 subst h;rw[aNd,aRc];have:l.all id=true:=List.all_eq_true.mpr λb hb=>by simp[ht b hb]
 simp[this]
def Ltr(m:Int)(x:List Nat):Prop:=∀c∈x,97<=c/\(c:Int)<97+m
theorem aQ{a b:Bd}{st:PSt}{r:R Fl}(h:a st=.ok (.nx st'))(h2:b st'=r):bG a b st=r:=by
 rw[aR7,h];exact h2
theorem dX{a b:Bd}{st:PSt}{r:R Fl}(h:a st=.ok (.nx st))(h2:b st=r):bG a b st=r:=aQ h h2
theorem aLc{a b:Bd}{st:PSt} (h:a st=.ok (.rt d)):bG a b st=.ok (.rt d):=by
 rw[aR7,h];rfl
theorem bT{b:Bd} {d:D} (h:ds.length=np) (hb:b (ds.map (λd=>some (.v d))++List.replicate (n-np) none)=.ok (.rt d)):cT np n b ds=.ok d:=by
 rw[aRa h,hb];rfl
theorem aPu{b:Bd} {st:PSt} (h:ds.length=np) (hb:b (ds.map (λd=>some (.v d))++List.replicate (n-np) none)=.ok (.nx st)):cT np n b ds=.ok .non:=by
 rw[aRa h,hb];rfl
theorem zH(n:Nat):pF 0 n=(List.range n).map λ(k:Nat)=>D.int (k:Int):=by
 unfold pF;refine List.map_congr_left λk _=>?_
 rw[Int.zero_add]
theorem vH{tg:Tg}{c f:Ex}{st:PSt}(g:D->D):∀(ds:List D),(∀d∈ds,∃s1,tg d st=.ok s1/\c s1=.ok (.bl true)/\f s1=.ok (g d))->jY tg c f st ds=.ok (ds.map g)
 |[],_=>rfl
 |d::ds,h=>by
  obtain⟨s1,e1,e2,e3⟩:=h d mem_cons_self;rw[nD,e1];simp only[aM,e2,nC,if_true,e3,vH g ds λd hd=>h d (mem_cons_of_mem _ hd),map_cons]
theorem bK{st:PSt} (h:f st=.ok d):cL i f st=.ok (.nx (st.set i (some (.v d)))):=by rw[aR8,h,aM]
theorem wK{st:PSt} (h:f st=.ok (.lst xs)):xO i f st=.ok (.nx (st.set i (some (.o .l xs)))):=by rw[aW5,h,aM]
theorem aV{r:Exs}{st:PSt} {x:R D} (h:r st=.ok ds) (hp:p ds=x):aW p r st=x:=by rw[aW3,h,aM,hp]
theorem aH{op:Op2} {st:PSt} {x:D} {z:R D} (hf:f st=.ok x) (hg:g st=.ok y) (h:op x y=z):e2 op f g st=z:=by rw[aN4,hf,aM,hg,aM,h]
theorem aFu{c:Ex}{a b:Bd}{st:PSt}{r:R Fl}(h:c st=.ok (.bl true))(ha:a st=r):sIf c a b st=r:=by rw[aPr,h,aM,nC,if_pos rfl,ha]
theorem qM{c:Ex}{a b:Bd}{st:PSt}{r:R Fl}(h:c st=.ok (.bl false))(hb:b st=r):sIf c a b st=r:=by rw[aPr,h,aM,nC,if_neg Bool.false_ne_true,hb]
theorem aWd{st:PSt}{p q:Bool}(hf:f st=.ok (.bl p))(hg:p=true->g st=.ok (.bl q)):aAx f g st=.ok (.bl (p&&q)):=by
 rw[aR5,hf,aM,nC];cases p with
 |true=>rw[if_pos rfl,hg rfl];rfl
 |false=>rfl
theorem aH6{st:PSt}{p q:Bool}(hf:f st=.ok (.bl p))(hg:p=false->g st=.ok (.bl q)):eOr f g st=.ok (.bl (p||q)):=by
 rw[bEi,hf,aM,nC];cases p with
 |true=>rfl
 |false=>rw[if_neg Bool.false_ne_true,hg rfl];rfl
theorem qU{st:PSt}{p:Bool}(hf:f st=.ok (.bl p)):rF f st=.ok (.bl (!p)):=by rw[aR6,hf,aM,nC]
theorem cU{st:PSt} (h:f st=.ok d):cY f st=.ok (.rt d):=by rw[wC,h,aM]
theorem iK{tg:Tg} {st:PSt} {r:R Fl} (h:it st=.ok xs) (hr:forR tg L xs st=r):rY tg it L st=r:=by rw[aR9,h,aM,hr]
theorem aP{r:Exs}{st:PSt}{d:D} (h:f st=.ok d) (hr:r st=.ok ds):aC f r st=.ok (d::ds):=by rw[aW2,h,aM,hr,aM]
theorem lZ{r:Exs}{st:PSt} (h:r st=.ok ds) (hl:ds.length<=1000:=by exact of_decide_eq_true rfl):nZ r st=.ok (.lst ds):=by rw[bA4,h,aM,aF (dD (Nat.le_trans hl (by decide)))]
theorem sJ{i j:Int}(h:0<j):pD (.int i) (.int j)=.ok (.int (i%j)):=aF h
theorem aLd{i j:Int}(h:0<j/\j<1073741824):aGr (.int i) (.int j)=.ok (.int (i/j)):=aF h
theorem zJ(i j:Int):dEq (.int i) (.int j)=.ok (.bl (decide (i=j))):=by
 have:(i==j)=decide (i=j):=by by_cases h:i=j<;>simp[h]
 rw[<-this];exact aF ⟨zero_le 64,rfl,rfl⟩
theorem bEp(i j:Int):dNe (.int i) (.int j)=.ok (.bl (!decide (i=j))):=by
 have:(i==j)=decide (i=j):=by by_cases h:i=j<;>simp[h]
 rw[<-this];exact aF ⟨zero_le 64,rfl,rfl⟩
theorem aEe{st:PSt} (h:f st=.ok d) (hs:st[i]?=some (some (.o .l xs))) (hl:xs.length<1000000):aJ3 i f st=.ok (.nx (st.set i (some (.o .l (xs++[d]))))):=by
 rw[bA6,h,aM,hs];exact aF (aGq (Nat.lt_trans hl (by decide)))
theorem aD1{st:PSt} (h:f st=.ok (.int n)) (hn:n<=1000000):yG f st=.ok ((List.range n).map λ(k:Nat)=>D.int (k:Int)):=by
 rw[bA5,h,aM,<-zH];exact aF ⟨aL1 (by omega),aG3 (by omega)⟩
theorem iC{E C:Ex}{is:List Nat}{tg:Tg} {st:PSt} (h:it st=.ok xs) (hl:xs.length<=1000000) (hc:jY tg C E (clr is st) xs=.ok ys):dF is tg it C E st=.ok (.lst ys):=by
 rw[aGv,h,aM,aF (dD (Nat.le_trans hl (by decide))),hc,aM]
theorem aWe{c:Ex}{b:Bd}{st:PSt} {r:R Fl} (hc:c st=.ok (.bl true)) (hb:b st=.ok (.nx st')) (hr:nA c b n st'=r):nA c b (n+1) st=r:=by
 rw[tM,hc,aM,nC,if_pos rfl,hb];exact hr
theorem aTu{c:Ex}{b:Bd}{st:PSt} (hc:c st=.ok (.bl false)):nA c b (n+1) st=.ok (.nx st):=by rw[tM,hc,aM,nC,if_neg Bool.false_ne_true]
theorem jM{tg:Tg} {d:D} {st s1 s2:PSt} {r:R Fl} (ht:tg d st=.ok s1) (hL:L s1=.ok (.nx s2)) (hr:forR tg L ds s2=r):forR tg L (d::ds) st=r:=by
 rw[pG,ht,aM,hL];exact hr
theorem eX{i:Int} (h:atI xs i=some d):dIx (.lst xs) (.int i)=.ok d:=by
 show ofO (atI xs i)=_;rw[h];rfl
theorem bI4{p q:Nat}(h:p<q):decide ((p:Int)<(q:Int))=true:=decide_eq_true (by omega)
theorem bI5{p q:Nat}(h:¬ p<q):decide ((p:Int)<(q:Int))=false:=decide_eq_false (by omega)
theorem aH7{r:R D}{p q:Bool}(h:r=.ok (.bl p))(e:p=q):r=.ok (.bl q):=by rw[h,e]
theorem tZ{st:PSt} (h:f st=.ok (.lst xs)):itE f st=.ok xs:=by rw[aW4,h,aM]
theorem aWf{st:PSt} (h:f st=.ok (.lst ys)) (hs:st[i]?=some (some (.o .l xs))) (hl:xs.length+ys.length<=big):aW0 i f st=.ok (.nx (st.set i (some (.o .l (xs++ys))))):=by
 rw[bA7,h,aM];dsimp only;rw[hs];exact aF hl
def good(m:Int)(x:List Nat):Bool:=x.all λc=>decide (97<=c/\(c:Int)<97+m)
theorem aD2{m:Int}{x:List Nat}:good m x=true↔Ltr m x:=by
 unfold good Ltr;simp
theorem aRg{m:Int}(hm:1<=m)(hm3:m<=3){c:Nat}:c∈cut [97,98,99] none (some m)↔97<=c/\(c:Int)<97+m:=by
 have h3:m=1\/m=2\/m=3:=by omega
 rcases h3 with rfl|rfl|rfl
 .show c∈[97]↔_;simp;omega
 .show c∈[97,98]↔_;simp;omega
 .show c∈[97,98,99]↔_;simp;omega
theorem aBd{α:Type}(p:α->Bool):∀x:List α,x.dropWhile p=[]↔∀c∈x,p c=true
 |[]=>by simp
 |a::x=>by
  cases h:p a with
  |true=>rw[List.dropWhile_cons_of_pos h,aBd p x];simp[h]
  |false=>rw[List.dropWhile_cons_of_neg (by simp[h])];simp[h]
theorem takeWhile_all{α:Type}(p:α->Bool):∀(x:List α)(c:α),c∈x.takeWhile p->p c=true
 |[],c,h=>by simp at h
 |a::x,c,h=>by
  cases ha:p a with
  |true=>
   rw[List.takeWhile_cons_of_pos ha]at h;rcases List.mem_cons.mp h with rfl|h
   .exact ha
   .exact takeWhile_all p x c h
  |false=>rw[List.takeWhile_cons_of_neg (by simp[ha])]at h;simp at h
theorem strip_nil(x y:List Nat):uM x y=[]↔∀c∈x,c∈y:=by
 unfold uM;rw[List.reverse_eq_nil_iff,aBd];constructor
 .intro h;have h2:∀c∈x.dropWhile (λc=>y.contains c),c∈y:=λc hc=>by simpa using h c (by simpa using hc)
  have h3:∀c∈x.takeWhile (λc=>y.contains c),c∈y:=λc hc=>by
   simpa using takeWhile_all (λc=>y.contains c) x c hc
  intro c hc;rw[<-List.takeWhile_append_dropWhile (p:=λc=>y.contains c) (l:=x)]at hc
  exact(List.mem_append.mp hc).elim (h3 c) (h2 c)
 .intro h c hc;rw[List.mem_reverse]at hc;have:c∈x:=List.IsSuffix.subset (List.dropWhile_suffix _) hc;simpa using h c this
theorem aBz(x:List Nat)(m:Int)(hm:1<=m)(hm3:m<=3)(h:x.length<=1000000):gQ [.str x,.int m]=.ok (.bl (good m x)):=by
 unfold gQ aAg;have e:(uM x (cut [97,98,99] none (some m))==[])=good m x:=by
  rw[Bool.eq_iff_iff,beq_iff_eq,strip_nil,aD2];exact⟨λz c hc=>(aRg hm hm3).mp (z c hc),λz c hc=>(aRg hm hm3).mpr (z c hc)⟩
 simp[bA2,show x.length<=big from dD (by omega),e]
theorem aLe(d:D)(m:D)(hs:bA2 d=false)(hb:aJ1 d=true):gQ [d,m]=.ok (.bl false):=by
 unfold gQ aAg;simp[hs,hb]
theorem aJ4(x y:D)(m:Int)(p q:Bool)(hp:gQ [x,.int m]=.ok (.bl p))(hq:gQ [y,.int m]=.ok (.bl q))(hy:plain y=true)(hd:dep y<=64):jJ [.tup [x,y],.int m]=.ok (.bl (p&&(q && !eqD y (.str [])))):=by
 unfold jJ wF;have g1:atI [x,y] 0=some x:=rfl;have g2:atI [x,y] 1=some y:=rfl;cases p<;>cases q<;>simp[bEh,g1,g2,hp,hq,hy,hd]
def nats(l:List Nat):List D:=l.map λ(x:Nat)=>D.int (x:Int)
structure Mch(S:List (List Nat))(rk:List Nat)(c:Nat):Prop where
 one:1<=S.length
 most:S.length<=8
 c1:1<=c
 c3:c<=3
 row:∀r∈S,r.length=c/\∀x∈r,x<S.length
 rks:rk.length=S.length
def stD(S:List (List Nat)):List D:=S.map λr=>D.lst (nats r)
theorem aNe{tg:Tg}{c f:Ex}{st:PSt}{P:D->D->Prop}:∀(ds:List D),(∀d∈ds,∃s1 y,tg d st=.ok s1/\c s1=.ok (.bl true)/\f s1=.ok y/\P d y)->∃ys,jY tg c f st ds=.ok ys/\ys.length=ds.length/\∀y∈ys,∃d∈ds,P d y
 |[],_=>⟨[],rfl,rfl,λ_ h=>nomatch h⟩
 |d::ds,h=>by
  obtain⟨s1,y,e1,e2,e3,e4⟩:=h d mem_cons_self;obtain⟨ys,e5,e6,e7⟩:=aNe ds λd hd=>h d (mem_cons_of_mem _ hd)
  refine⟨y::ys,?_,by simp[e6],λz hz=>?_⟩
  .rw[nD,e1];simp[e2,e3,e5]
  .rcases List.mem_cons.mp hz with rfl|hz
   .exact⟨d,mem_cons_self,e4⟩
   .obtain⟨d',h1,h2⟩:=e7 z hz;exact⟨d',mem_cons_of_mem _ h1,h2⟩
theorem aLf{tg:Tg}{L:Bd}(P:PSt->Prop):∀(ks:List D),(∀d∈ks,∀st,P st->∃s1 st',tg d st=.ok s1/\L s1=.ok (.nx st')/\P st')->∀st,P st->∃st',P st'/\forR tg L ks st=.ok (.nx st')
 |[],_,st,p=>⟨st,p,rfl⟩
 |d::ks,h,st,p=>by
  obtain⟨s1,st',e1,e2,p'⟩:=h d mem_cons_self st p;obtain⟨st2,p2,e3⟩:=aLf P ks (λd hd=>h d (mem_cons_of_mem _ hd)) st' p'
  refine⟨st2,p2,?_⟩;rw[pG,e1];simp only[aM,e2];exact e3
theorem aD3{E:Ex}{st:PSt}{v:Nat}{xs:List D}(hv:st[v]?=some (some (.v (.lst xs))))(hl:xs.length<=100000)(h:∀d∈xs,E ((st.set j none).set j (some (.v d)))=.ok (.bl true)):e1 aFr (dF [j] (tgN j) (itE (aB v)) dG E) st=.ok (.bl true):=by
 have e:=vH (tg:=tgN j) (c:=dG) (f:=E) (st:=st.set j none) (λ_=>D.bl true) xs λd hd=>⟨_,rfl,rfl,h d hd⟩
 have e2:xs.map (λ_=>D.bl true)=(xs.map λ_=>true).map D.bl:=by simp
 simp[hv,show xs.length<=big from dD (by omega),e]
 rw[e2,<-aNd];exact aWc rfl λb hb=>by obtain⟨_,_,z⟩:=List.mem_map.mp hb;exact z.symm
theorem aTv{E:Ex}{st:PSt}{v:Nat}{xs:List D}(hv:st[v]?=some (some (.v (.lst xs))))(hl:xs.length<=100000)(h:∀d∈xs,E ((st.set j none).set j (some (.v d)))=.ok d):dF [j] (tgN j) (itE (aB v)) dG E st=.ok (.lst xs):=by
 have e:=vH (tg:=tgN j) (c:=dG) (f:=E) (st:=st.set j none) id xs λd hd=>⟨_,rfl,rfl,h d hd⟩
 simp[hv,show xs.length<=big from dD (by omega),e]
theorem aJo(i:Int):pJ [.int i]=.ok (.bl true):=by
 unfold pJ aBt;simp[isIn,bEg]
theorem aEf{x:Nat}(h:x<n):nF [.int x,.int n]=.ok (.bl true):=by
 have hw:=aJo x;unfold nF aBu;simp[hw,h]
theorem aJp(xs:List D)(m:Int):fG [.lst xs,.int m]=.ok (.bl (decide (1<=(xs.length:Int))&&decide ((xs.length:Int)<=m))):=by
 unfold fG pM
 by_cases h:1<=xs.length
 .have h':(1:Int)<=xs.length:=by omega
  simp[aTp,h,h']
 .have h':¬ (1:Int)<=xs.length:=by omega
  simp[aTp,h,h']
theorem bM(r:List Nat):(nats r).length=r.length:=by unfold nats;simp
theorem mX(S:List (List Nat)):(stD S).length=S.length:=by unfold stD;simp
theorem zK{r:List Nat} (h:d∈nats r):∃x∈r,d=.int (x:Nat):=by
 obtain⟨x,h1,h2⟩:=List.mem_map.mp h;exact⟨x,h1,h2.symm⟩
theorem aLg{S:List (List Nat)} (h:d∈stD S):∃r∈S,d=.lst (nats r):=by
 obtain⟨x,h1,h2⟩:=List.mem_map.mp h;exact⟨x,h1,h2.symm⟩
theorem bEq(r:List Nat)(n:Nat)(h:∀x∈r,x<n)(hl:r.length<=1000):aD0 [.lst (nats r),.int r.length,.int n]=.ok (.bl true):=by
 have e:=aD3 (E:=aBy) (st:=[some (.v (.lst (nats r))),some (.v (.int r.length)),some (.v (.int n)),none]) (j:=3) (v:=0) (xs:=nats r) rfl (by rw[bM];omega) (λd hd=>by
  obtain⟨x,hx,rfl⟩:=zK hd;have:=h x hx;simp[aBy,aEf this])
 refine bT rfl ?_
 unfold aH5;have h1:e2 dEq (e1 lY (aB 0)) (aB 1) [some (.v (.lst (nats r))),some (.v (.int r.length)),some (.v (.int n)),none]=.ok (.bl true):=by simp[bM]
 show cY _ [some (.v (.lst (nats r))),some (.v (.int r.length)),some (.v (.int n)),none]=_;rw[wC,aR5,h1];show (e1 aFr _ _).bind _=_;rw[e];rfl
def mD(S:List (List Nat))(rk:List Nat)(c:Nat):D:=.ins "Machine" ["steps","ranks","many","letters"] [.lst (stD S),.lst (nats rk),.int S.length,.int c]
section
variable {c:Nat}
theorem Mch.row0(M:Mch S rk c):∃r T,S=r::T/\r.length=c:=by
 cases S with
 |nil=>exact absurd M.one (by simp)
 |cons r T=>exact⟨r,T,rfl,(M.row r mem_cons_self).1⟩
theorem Mch.at0(M:Mch S rk c):∃r,r∈S/\atI (stD S) 0=some (.lst (nats r))/\r.length=c:=by
 obtain⟨r,T,rfl,h⟩:=M.row0;refine⟨r,mem_cons_self,?_,h⟩;have:=atI_nat (xs:=stD (r::T)) (i:=0) (by simp[stD])
 simpa [stD] using this
theorem aWg(M:Mch S rk c):tX [.lst (stD S)]=.ok (.bl true):=by
 obtain⟨r0,hr0,e0,l0⟩:=M.at0;have h1:=M.one;have h8:=M.most;have f1:=aJp (stD S) 8;rw[mX]at f1;have f1':fG [.lst (stD S),.int 8]=.ok (.bl true):=by rw[f1];congr 2;simp;omega
 have a1:=aD3 (E:=uO) (st:=[some (.v (.lst (stD S))),none]) (j:=1) (v:=0) (xs:=stD S) rfl (by rw[mX];omega) (λd hd=>by
  obtain⟨r,hr,rfl⟩:=aLg hd;have f:=aJp (nats r) 3;rw[bM,(M.row r hr).1]at f;have h3:=M.c3;have h0:=M.c1;simp[uO,f];omega)
 have a2:=aD3 (E:=uP) (st:=[some (.v (.lst (stD S))),none]) (j:=1) (v:=0) (xs:=stD S) rfl (by rw[mX];omega) (λd hd=>by
  obtain⟨r,hr,rfl⟩:=aLg hd;have h3:=M.c3;have f:=bEq r S.length (M.row r hr).2 (by rw[(M.row r hr).1];omega)
  have el:(nats r0).length=r.length:=by rw[bM,l0,(M.row r hr).1]
  simp[uP,e0,el,mX,f])
 refine bT rfl ?_
 unfold zF;refine dX (by simp[f1']) (dX ?_ ?_)
 .rw[aPr,aR6];show ((e1 aFr _ [some (.v (.lst (stD S))),none]).bind _).bind _=_;rw[a1];rfl
 .rw[wC];show (e1 aFr _ [some (.v (.lst (stD S))),none]).bind _=_;rw[a2];rfl
theorem aWh(M:Mch S rk c):tY [.lst (nats rk),.int S.length]=.ok (.bl true):=by
 have h8:=M.most;have a1:=aD3 (E:=uQ) (st:=[some (.v (.lst (nats rk))),some (.v (.int S.length)),none]) (j:=2) (v:=0) (xs:=nats rk) rfl (by rw[bM,M.rks];omega) (λd hd=>by
  obtain⟨x,hx,rfl⟩:=zK hd;simp[uQ,aJo])
 refine bT rfl ?_
 unfold zG;refine dX (by simp[aTp,bM,M.rks]) ?_
 rw[wC];show (e1 aFr _ [some (.v (.lst (nats rk))),some (.v (.int S.length)),none]).bind _=_;rw[a1];rfl
theorem vI:fD "Machine" "many" (mD S rk c)=.ok (.int S.length):=by unfold mD;rw[yQ,aF rfl];rfl
theorem aFa:fD "Machine" "letters" (mD S rk c)=.ok (.int c):=by unfold mD;rw[yQ,aF rfl];rfl
theorem pN:fD "Machine" "steps" (mD S rk c)=.ok (.lst (stD S)):=by unfold mD;rw[yQ,aF rfl];rfl
end
section
variable {c:Nat}
theorem aRh(M:Mch S rk c):gM [.lst (stD S),.lst (nats rk)]=.ok (mD S rk c):=by
 obtain⟨r0,hr0,e0,l0⟩:=M.at0;have h8:=M.most;refine bA3 λx=>?_
 unfold aJi;rw[aF (show ([D.lst (stD S),D.lst (nats rk)]:List D).length=2 from rfl)]
 have hs:=aWg M;have hk:=aWh M;have cp:=aTv (E:=kY) (st:=[some (.o (.i x "Machine" []) []),some (.v (.lst (stD S))),some (.v (.lst (nats rk))),none]) (j:=3) (v:=1) (xs:=stD S) rfl (by rw[mX];omega) (λd hd=>by
  obtain⟨r,hr,rfl⟩:=aLg hd;simp[kY])
 have key:gK [some (.o (.i x "Machine" []) []),some (.v (.lst (stD S))),some (.v (.lst (nats rk))),none]=.ok (.nx [some (.o (.i x "Machine" ["steps","ranks","many","letters"]) [.lst (stD S),.lst (nats rk),.int S.length,.int c]),some (.v (.lst (stD S))),some (.v (.lst (nats rk))),none]):=by
  unfold gK;refine dX (by simp[hs]) (dX (by simp[mX,hk]) ?_)
  refine aQ (st':=[some (.o (.i x "Machine" ["steps"]) [.lst (stD S)]),some (.v (.lst (stD S))),some (.v (.lst (nats rk))),none]) ?_ ?_
  .rw[aW6,cp];simp
  refine aQ (st':=[some (.o (.i x "Machine" ["steps","ranks"]) [.lst (stD S),.lst (nats rk)]),some (.v (.lst (stD S))),some (.v (.lst (nats rk))),none]) (by simp) ?_
  refine aQ (st':=[some (.o (.i x "Machine" ["steps","ranks","many"]) [.lst (stD S),.lst (nats rk),.int S.length]),some (.v (.lst (stD S))),some (.v (.lst (nats rk))),none]) (by simp[mX]) ?_
  simp[e0,bM,l0]
 show (gK [some (.o (.i x "Machine" []) []),some (.v (.lst (stD S))),some (.v (.lst (nats rk))),none]).bind _=_;rw[key];simp[mD]
end
theorem aEg(x:Nat)(l:List Nat):nats (x::l)=.int (x:Nat)::nats l:=rfl
theorem jN:∀l:List Nat,gF (nats l)=true/\oX (nats l)=0/\mH (nats l) (nats l)=true
 |[]=>⟨rfl,by unfold nats;simp,by unfold nats;simp[mH]⟩
 |x::l=>by
  obtain⟨h1,h2,h3⟩:=jN l;rw[aEg];refine⟨by simp[h1],by simp[h2],?_⟩
  unfold mH;rw[h3];simp
theorem bAa(l:List Nat):dNe (.lst (nats l)) (.lst (nats l))=.ok (.bl false)/\dEq (.lst (nats l)) (.lst (nats l))=.ok (.bl true):=by
 obtain⟨k1,k2,k3⟩:=jN l;have kd:dep (.lst (nats l))=1:=by unfold dep;rw[k2]
 have ke:eqD (.lst (nats l)) (.lst (nats l))=true:=by(conv=>lhs;unfold eqD);exact k3
 have kp:plain (.lst (nats l))=true:=by(conv=>lhs;unfold plain);exact k1
 rw[bEk,bEj,aF ⟨by omega,kp,kp⟩,aF ⟨by omega,kp,kp⟩,ke]
 exact⟨rfl,rfl⟩
section
variable{S:List (List Nat)}{rk:List Nat}{c:Nat}
def stp(S:List (List Nat))(q a:Nat):Nat:=(S.getD q []).getD a 0
theorem aLh(M:Mch S rk c){q a:Nat}(hq:q<S.length)(ha:a<c):∃r,atI (stD S) (q:Int)=some (.lst (nats r))/\atI (nats r) (a:Int)=some (.int (stp S q a))/\stp S q a<S.length:=by
 have hr:=M.row S[q] (List.getElem_mem hq);have ha':a<S[q].length:=by rw[hr.1];exact ha
 have e:stp S q a=S[q][a]:=by
  simp[stp,getD_eq_getElem?_getD,List.getElem?_eq_getElem hq,List.getElem?_eq_getElem ha']
 refine⟨S[q],?_,?_,?_⟩
 .rw[atI_nat (by rw[mX];exact hq)];simp[stD]
 .rw[atI_nat (by rw[bM];exact ha'),e];simp[nats]
 .rw[e];exact hr.2 _ (List.getElem_mem ha')
theorem aH8(h:m<=3){ch:Nat}(h1:97<=ch)(h2:(ch:Int)<97+m):lV [97,98,99] [ch] 0=some (ch-97):=by
 have:ch=97\/ch=98\/ch=99:=by omega
 rcases this with rfl|rfl|rfl<;>rfl
theorem aD4(M:Mch S rk c){q ch:Nat}(hq:q<S.length)(h1:97<=ch)(h2:(ch:Int)<97+c):∃r,atI (stD S) (q:Int)=some (.lst (nats r))/\atI (nats r) (((ch-97:Nat)):Int)=some (.int (stp S q (ch-97)))/\stp S q (ch-97)<S.length:=aLh M hq (by omega)
def runs(S:List (List Nat)):Nat->List Nat->List Nat
 |_,[]=>[]
 |q,ch::x=>stp S q (ch-97)::runs S (stp S q (ch-97)) x
def fQ(S:List (List Nat)):Nat->List Nat->Nat
 |q,[]=>q
 |q,ch::x=>fQ S (stp S q (ch-97)) x
theorem aNf(M:Mch S rk c):∀(x:List Nat)(q:Nat),q<S.length->Ltr c x->fQ S q x<S.length
 |[],q,h,_=>h
 |ch::x,q,h,hx=>by
  obtain⟨h1,h2⟩:=hx ch mem_cons_self;obtain⟨_,_,_,h3⟩:=aD4 M h h1 h2;exact aNf M x _ h3 λz hz=>hx z (mem_cons_of_mem _ hz)
end
theorem mK:∀(n:Nat)(l:List Nat),l.Nodup->(∀x∈l,x<n)->l.length<=n
 |0,l,_,h=>by
  cases l with
  |nil=>exact Nat.le_refl _
  |cons x l=>exact absurd (h x mem_cons_self) (by omega)
 |n+1,l,nd,h=>by
  have ih:=mK n (l.erase n) (nd.erase n) λx hx=>by
   have h1:=h x (List.mem_of_mem_erase hx);have h2:x≠n:=λe=>((nd.mem_erase_iff).mp hx).1 e
   omega
  by_cases hm:n∈l
  .rw[List.length_erase_of_mem hm]at ih;omega
  .rw[List.erase_of_not_mem hm]at ih;omega
theorem aG5(g:Nat)(l:List Nat):inD (.int g) (nats l)=decide (g∈l):=by
 unfold inD nats;rw[List.any_map]
 by_cases h:g∈l
 .rw[decide_eq_true h,List.any_eq_true];exact⟨g,h,by simp[eqD]⟩
 .rw[decide_eq_false h,List.any_eq_false];intro x hx
  have : ¬ (x : Int) = (g : Int) := fun z => h (by have : x = g := by omega
                                                   rw[<-this];exact hx)
  simp[eqD,this]
theorem aH9{q:Nat}(hq:q<S.length):atI (stD S) (q:Int)=some (.lst (nats S[q])):=by
 rw[atI_nat (by rw[mX];exact hq)]
 unfold stD;rw[List.getElem_map]
section
variable{S:List (List Nat)}{rk:List Nat}{c:Nat}
theorem kZ{m:String} {r:Exs} {st:PSt} (hf:f st=.ok (mD S rk c)) (hr:r st=.ok xs) (hm:m∉["steps","ranks","many","letters"]):dU "Machine" m p dv f r st=p (mD S rk c::(xs++dv)):=by
 rw[aCj,hf,hr];exact aF ⟨rfl,hm⟩
def bI6(c:Nat):D->Bool
 |.str x=>good c x
 |_=>false
theorem aWi(M:Mch S rk c)(d:D)(hb:aJ1 d=true)(hl:∀x,d=.str x->x.length<=1000000):gQ [d,.int c]=.ok (.bl (bI6 c d)):=by
 have h1:=M.c1;have h3:=M.c3;cases d<;>first|(exact aLe _ _ rfl hb)|skip
 exact aBz _ _ (by omega) (by omega) (hl _ rfl)
theorem aHa(M:Mch S rk c)(a t:Option Sl)(ha:a=some (.v (mD S rk c))):∀(x:List Nat)(q:Nat)(acc:List Nat)(l:Option Sl),q<S.length->Ltr c x->acc.length+x.length<=1000000->∃l',forR (tgN 4) iW (x.map λch=>D.str [ch]) [a,some (.v (.int q)),t,some (.o .l (nats acc)),l] =
  .ok (.nx [a,some (.v (.int (fQ S q x))),t,some (.o .l (nats (acc++runs S q x))),l'])
 |[],q,acc,l,_,_,_=>⟨l,by simp[fQ,runs]⟩
 |ch::x,q,acc,l,h,hx,hl=>by
  rw[length_cons]at hl;obtain⟨h1,h2⟩:=hx ch mem_cons_self;obtain⟨r,e1,e2,h3⟩:=aD4 M h h1 h2;obtain⟨l',e⟩:=aHa M a t ha x (stp S q (ch-97)) (acc++[stp S q (ch-97)]) (some (.v (.str [ch]))) h3 (λz hz=>hx z (mem_cons_of_mem _ hz)) (by rw[length_append,length_singleton];omega)
  refine⟨l',?_⟩;have f:=aH8 M.c3 h1 h2;have en:nats (acc++[stp S q (ch-97)])=nats acc++[D.int (stp S q (ch-97))]:=by unfold nats;simp
  rw[en]at e;rw[map_cons,pG,show runs S q (ch::x)=stp S q (ch-97)::runs S (stp S q (ch-97)) x from rfl,show acc++stp S q (ch-97)::runs S (stp S q (ch-97)) x=acc++[stp S q (ch-97)]++runs S (stp S q (ch-97)) x by simp,show fQ S q (ch::x)=fQ S (stp S q (ch-97)) x from rfl,<-e]
  subst ha;simp[iW,pN,e1,f,e2,bM,show acc.length<big from aGq (by omega)]
theorem aHb(M:Mch S rk c){q:Nat}(hq:q<S.length)(x:List Nat)(hx:Ltr c x)(hl:x.length<=500000):bD [mD S rk c,.int q,.str x]=.ok (.lst (nats (q::runs S q x))):=by
 obtain⟨l',e⟩:=aHa M _ (some (.v (.str x))) rfl x q [q] none hq hx (by simp;omega)
 refine bT rfl ?_
 have hb:eF [some (.v (mD S rk c)),some (.v (.int q)),some (.v (.str x)),none,none]=.ok (.nx [some (.v (mD S rk c)),some (.v (.int (fQ S q x))),some (.v (.str x)),some (.o .l (nats ([q]++runs S q x))),l']):=by
  unfold eF;refine aQ (st':=[some (.v (mD S rk c)),some (.v (.int q)),some (.v (.str x)),some (.o .l (nats [q])),none]) (by simp[nats]) (aQ (by
   simp[show x.length<=big from dD (by omega)]
   exact e) rfl)
 show aCl eF 3 [some (.v (mD S rk c)),some (.v (.int q)),some (.v (.str x)),none,none]=_;unfold aCl;rw[hb];rfl
theorem aJq:∀(x:List Nat)(q:Nat),(q::runs S q x).getLast?=some (fQ S q x)
 |[],q=>rfl
 |ch::x,q=>by
  have:=aJq x (stp S q (ch-97));rw[show runs S q (ch::x)=stp S q (ch-97)::runs S (stp S q (ch-97)) x from rfl,List.getLast?_cons_cons,this]
  rfl
theorem atI_last{xs:List α}{a:α}(h:xs.getLast?=some a):atI xs (-1)=some a:=by
 have h0:xs≠[]:=λz=>by rw[z]at h;cases h
 have hp:0<xs.length:=List.length_pos_iff.mpr h0;rw[List.getLast?_eq_getElem?]at h;unfold atI ixN;rw[if_neg (by decide),if_pos (by omega)]
 show xs[((-1:Int)+(xs.length:Int)).toNat]?=some a;rw[show ((-1:Int)+(xs.length:Int)).toNat=xs.length-1 by omega]
 exact h
theorem aJr{r:List Nat}{a:Nat}(h:r.getLast?=some a):(nats r).getLast?=some (.int a):=by
 unfold nats;rw[List.getLast?_map,h];rfl
end
theorem join_one(l:List Nat):aCk [] (l.map λc=>[c])=l:=by
 induction l with
 |nil=>rfl
 |cons a l ih=>
  cases l with
  |nil=>rfl
  |cons b l=>
   show [a]++[]++aCk [] ((b::l).map λc=>[c])=_
   rw[ih];rfl
theorem bAb(l:List Nat)(h:l.length<=1000000):aGx (.str []) [.lst (l.map λc=>D.str [c])]=.ok (.str l):=by
 have e:(l.map λc=>D.str [c])=(l.map λc=>[c]).map D.str:=by simp
 have hs:((l.map λc=>[c]).map List.length).sum=l.length:=by
  rw[List.map_map]
  induction l with
  |nil=>rfl
  |cons a l ih=>rw[map_cons,sum_cons,ih (by simp at h;omega) (by simp)];simp;omega
 show (aJj _).bind _=_;rw[e,aJk];simp only[aM];rw[aF (by rw[hs];simp;exact dD (by omega)),join_one]
def cy(c:List Nat)(i:Nat):Nat:=c.getD (i%c.length) 0
def lt(b c:List Nat)(i:Nat):Nat:=if i<b.length then b.getD i 0 else cy c (i-b.length)
theorem aC0{x y:List Nat} (h:i<x.length):(x++y).getD i 0=x.getD i 0:=by
 rw[getD_eq_getElem?_getD,getD_eq_getElem?_getD,List.getElem?_append_left h]
theorem aHc{x y:List Nat} (h:x.length<=i):(x++y).getD i 0=y.getD (i-x.length) 0:=by
 rw[getD_eq_getElem?_getD,getD_eq_getElem?_getD,List.getElem?_append_right h]
theorem aTw{x:List Nat} (h:i<n):(x.take n).getD i 0=x.getD i 0:=by
 rw[getD_eq_getElem?_getD,getD_eq_getElem?_getD,List.getElem?_take,if_pos h]
theorem bCy{c:List Nat} (h:i<c.length):cy c i=c.getD i 0:=by unfold cy;rw[Nat.mod_eq_of_lt h]
theorem aWj(c:List Nat)(i:Nat):cy c (i+c.length)=cy c i:=by unfold cy;rw[Nat.add_mod_right]
theorem bCz{b c:List Nat} (h:b.length<=i):lt b c i=cy c (i-b.length):=by unfold lt;rw[if_neg (by omega)]
theorem bD0{b c:List Nat} (h:i<b.length):lt b c i=b.getD i 0:=by unfold lt;rw[if_pos h]
theorem sIx_none(n d:Nat):sIx n d none=d:=rfl
theorem sIx_nat(n d k:Nat):sIx n d (some (k:Int))=min k n:=by
 show (if (k:Int)<0 then ((k:Int)+n).toNat else min (k:Int).toNat n)=_
 rw[if_neg (by omega),toNat_natCast]
theorem bEr(x:List α)(n:Nat):cut x none (some (n:Int))=x.take n:=by
 unfold cut;rw[sIx_none,sIx_nat,drop_zero,Nat.sub_zero]
 by_cases h:n<=x.length
 .rw[Nat.min_eq_left h]
 .rw[Nat.min_eq_right (by omega),List.take_length,List.take_of_length_le (by omega)]
theorem bEs(x:List α)(n:Nat)(h:n<=x.length):cut x (some (n:Int)) none=x.drop n:=by
 unfold cut;rw[sIx_none,sIx_nat];rw[Nat.min_eq_left h,List.take_of_length_le (by rw[List.length_drop];omega)]
theorem lA(z:List α)(n:Nat):(rep n z).length=n*z.length:=by
 unfold rep
 induction n with
 |zero=>simp
 |succ n ih=>rw[List.replicate_succ,flatten_cons,length_append,ih,succ_mul,Nat.add_comm]
theorem aNg(n:Nat)(z:List α):rep (n+1) z=z++rep n z:=by unfold rep;rw[List.replicate_succ,flatten_cons]
theorem aRi{α:Type}{z:List α}{a:α}:∀{n:Nat},a∈rep n z->a∈z
 |0,h=>by simp[rep]at h
 |n+1,h=>by
  rw[aNg]at h;rcases List.mem_append.mp h with h|h
  .exact h
  .exact aRi (n:=n) h
theorem aPv{r:List Nat}(h1:1<=r.length):∀(n i:Nat),i<n*r.length->(rep n r).getD i 0=cy r i
 |0,i,h=>by simp at h
 |n+1,i,h=>by
  rw[aNg]
  by_cases hi:i<r.length
  .rw[aC0 hi,bCy hi]
  .rw[succ_mul]at h;rw[aHc (by omega),aPv h1 n _ (by omega),<-aWj]
   congr 1;omega
theorem aG6{b t:List Nat}{n:Nat}(h:b.length<=n):∀k,lt b t (n+k*t.length)=lt b t n
 |0=>by rw[Nat.zero_mul,Nat.add_zero]
 |k+1=>by
  rw[succ_mul,<-Nat.add_assoc,<-aG6 h k];unfold lt;rw[if_neg (by omega),if_neg (by omega),show n+k*t.length+t.length-b.length=n+k*t.length-b.length+t.length by omega,aWj]
theorem aC1{c:Int}{b t:List Nat}(hb:Ltr c b)(ht:Ltr c t)(h1:1<=t.length)(n:Nat):97<=lt b t n/\(lt b t n:Int)<97+c:=by
 have key:∀(x:List Nat)(i:Nat),i<x.length->Ltr c x->97<=x.getD i 0/\(x.getD i 0:Int)<97+c:=λx i h hx=>by
  have e:x.getD i 0=x[i]:=by rw[getD_eq_getElem?_getD,List.getElem?_eq_getElem h];rfl
  rw[e];exact hx _ (List.getElem_mem h)
 unfold lt;split
 .exact key _ _ (by assumption) hb
 .exact key _ _ (mod_lt _ h1) ht
def fw(S:List (List Nat))(f:Nat->Nat)(q:Nat):Nat->Nat
 |0=>q
 |n+1=>stp S (fw S f q n) (f n-97)
structure Lp(S:List (List Nat))(f:Nat->Nat)(q s e:Nat):Prop where
 lt:s<e
 per:∀n,s<=n->f (n+(e-s))=f n
 eq:fw S f q s=fw S f q e
section
variable{f:Nat->Nat}{s e s2 e2:Nat}
theorem Lp.step(L:Lp S f q s e):∀k,fw S f q (s+k+(e-s))=fw S f q (s+k)
 |0=>by
  have:=L.lt;rw[Nat.add_zero,show s+(e-s)=e by omega]
  exact L.eq.symm
 |k+1=>by
  have ih:=L.step k;have h:=L.per (s+k) (by omega)
  rw[show s+(k+1)+(e-s)=(s+k+(e-s))+1 by omega,show s+(k+1)=(s+k)+1 by omega]
  show stp S (fw S f q (s+k+(e-s))) (f (s+k+(e-s))-97)=stp S (fw S f q (s+k)) (f (s+k)-97);rw[ih,h]
theorem Lp.at(L:Lp S f q s e)(n:Nat)(h:s<=n):fw S f q (n+(e-s))=fw S f q n:=by
 have:=L.step (n-s)
 rwa [show s+(n-s)=n by omega]at this
theorem Lp.mul(L:Lp S f q s e):∀(k n:Nat),s<=n->fw S f q (n+k*(e-s))=fw S f q n
 |0,n,_=>by rw[Nat.zero_mul,Nat.add_zero]
 |k+1,n,h=>by
  rw[succ_mul,<-Nat.add_assoc,L.at _ (by omega),L.mul k n h]
theorem Lp.into(L:Lp S f q s e)(n:Nat)(h:s<=n):∃m,s<=m/\m<e/\fw S f q n=fw S f q m:=by
 have hl:=L.lt;have h1:=mod_lt (n-s) (show 0<e-s by omega)
 refine⟨s+(n-s)%(e-s),by omega,by omega,?_⟩
 have:=L.mul ((n-s)/(e-s)) (s+(n-s)%(e-s)) (by omega)
 have hd:=Nat.mod_add_div (n-s) (e-s);rw[Nat.mul_comm]at hd;rw[<-this];congr 1;omega
theorem Lp.sub(L:Lp S f q s e)(L2:Lp S f q s2 e2)(n:Nat)(h:s<=n):∃m,s2<=m/\m<e2/\fw S f q n=fw S f q m:=by
 have hl:=L.lt;have h1:s2*1<=s2*(e-s):=Nat.mul_le_mul_left _ (by omega)
 obtain⟨m,a,b,c⟩:=L2.into (n+s2*(e-s)) (by omega)
 exact⟨m,a,b,by rw[<-c,L.mul s2 n h]⟩
end
def seg(S:List (List Nat))(f:Nat->Nat)(q s e:Nat):List Nat:=(List.range' s (e-s)).map (fw S f q)
theorem oG{f:Nat->Nat}{s e:Nat}:r∈seg S f q s e↔∃n,s<=n/\n<e/\fw S f q n=r:=by
 unfold seg;rw[List.mem_map];constructor
 .rintro⟨n,h,rfl⟩;rw[List.mem_range'_1]at h;exact⟨n,h.1,by omega,rfl⟩
 .rintro⟨n,h1,h2,rfl⟩;exact⟨n,List.mem_range'_1.mpr ⟨h1,by omega⟩,rfl⟩
def mx(rk l:List Nat):Int:=aE9 (l.map λr=>((rk.getD r 0:Nat):Int))
theorem aRj{l:List Int}(h:l≠[]):aE9 l∈l/\∀x∈l,x<=aE9 l:=by
 cases l with
 |nil=>exact(h rfl).elim
 |cons i r=>
  obtain⟨h1,h2,h3⟩:=aAf r i;refine⟨?_,λx hx=>?_⟩
  .rcases h3 with h3|h3
   .show r.foldl _ i∈_;rw[h3];exact mem_cons_self
   .exact mem_cons_of_mem _ h3
  .rcases List.mem_cons.mp hx with rfl|hx
   .exact h1
   .exact h2 x hx
theorem bAc{l2:List Nat}(h0:l≠[])(h:∀r,r∈l↔r∈l2):mx rk l=mx rk l2:=by
 have h2:l2≠[]:=λz=>by
  cases l with
  |nil=>exact h0 rfl
  |cons a l=>have:=(h a).mp mem_cons_self;rw[z]at this;cases this
 obtain⟨a,b⟩:=aRj (l:=l2.map λr=>((rk.getD r 0:Nat):Int)) (by simpa using h2)
 refine aL4 ?_ λx hx=>?_
 .obtain⟨r,h3,h4⟩:=List.mem_map.mp a;rw[show mx rk l2=_ from rfl,mx,<-h4]
  exact List.mem_map.mpr ⟨r,(h r).mpr h3,rfl⟩
 .obtain⟨r,h3,h4⟩:=List.mem_map.mp hx;exact b x (List.mem_map.mpr ⟨r,(h r).mp h3,h4⟩)
def Ev(S:List (List Nat))(rk:List Nat)(f:Nat->Nat)(q:Nat)(v:Bool):Prop:=∃s e,Lp S f q s e/\v=decide (mx rk (seg S f q s e)%2=0)
theorem aHd{f:Nat->Nat}{s e:Nat}(h:s<e):seg S f q s e≠[]:=λz=>by
 have:fw S f q s∈seg S f q s e:=oG.mpr ⟨s,Nat.le_refl _,h,rfl⟩;rw[z]at this;cases this
theorem Ev.alone{f:Nat->Nat} {v v':Bool} (h:Ev S rk f q v) (h':Ev S rk f q v'):v=v':=by
 obtain⟨s,e,L,rfl⟩:=h;obtain⟨s2,e2,L2,rfl⟩:=h';rw[bAc (aHd L.lt) λr=>?_]
 rw[oG,oG];constructor
 .rintro⟨n,h1,h2,rfl⟩;obtain⟨m,a,b,c⟩:=L.sub L2 n h1;exact⟨m,a,b,c.symm⟩
 .rintro⟨n,h1,h2,rfl⟩;obtain⟨m,a,b,c⟩:=L2.sub L n h1;exact⟨m,a,b,c.symm⟩
theorem aFb:∀(n:Nat)(l:List Nat),l.Nodup->(∀x∈l,x<n)->l.length<=n
 |0,l,_,h=>by
  cases l with
  |nil=>simp
  |cons a l=>exact absurd (h a mem_cons_self) (by omega)
 |n+1,l,nd,h=>by
  have h1:=aFb n (l.erase n) (nd.erase n) (λx hx=>by
   have:=h x (List.mem_of_mem_erase hx);have hne:x≠n:=λz=>by rw[z]at hx;exact(List.Nodup.not_mem_erase nd) hx
   omega)
  have h2:=List.length_erase (a:=n) (l:=l);split at h2<;>omega
theorem least{P:Nat->Prop}:∀n,P n->∃m,m<=n/\P m/\∀k,k<m->¬ P k:=by
 intro n
 induction n using strongRecOn with
 |ind n ih=>
  intro h
  by_cases hx:∃k,k<n/\P k
  .obtain⟨k,hk,pk⟩:=hx;obtain⟨m,a,b,c⟩:=ih k hk pk;exact⟨m,by omega,b,c⟩
  .exact⟨n,Nat.le_refl _,h,λk hk pk=>hx ⟨k,hk,pk⟩⟩
theorem aNh(g:Nat->Nat)(n:Nat)(h:∀i,g i<n):∃J,J<=n/\(∃i,i<J/\g i=g J)/\∀j,j<J->∀i,i<j->g i≠g j:=by
 have ex:∃J,J<=n/\∃i,i<J/\g i=g J:=by
  by_cases hx:∃J,J<=n/\∃i,i<J/\g i=g J
  .exact hx
  .have inj:∀i j,i<j->j<=n->g i≠g j:=λi j hi hj z=>hx ⟨j,hj,i,hi,z⟩
   have nd:((List.range (n+1)).map g).Nodup:=by
    rw[List.nodup_iff_pairwise_ne,List.pairwise_map];refine List.Pairwise.imp_of_mem ?_ List.pairwise_lt_range;intro a b ha hb hab;exact inj a b hab (by have:=List.mem_range.mp hb;omega)
   have:=aFb n _ nd (λx hx=>by obtain⟨i,_,rfl⟩:=List.mem_map.mp hx;exact h i)
   simp at this;omega
 obtain⟨J,hJ,hp⟩:=ex;obtain⟨m,a,b,c⟩:=least (P:=λJ=>∃i,i<J/\g i=g J) J hp
 exact⟨m,by omega,b,λj hj i hi z=>c j hj ⟨i,hi,z⟩⟩
theorem aJs{C:Ex}{L:Bd}(st:Nat->PSt)(J:Nat)(hgo:∀j,j<J->C (st j)=.ok (.bl true)/\L (st j)=.ok (.nx (st (j+1))))(hst:C (st J)=.ok (.bl false)):∀(k fuel:Nat),k<=J->k<fuel->nA C L fuel (st (J-k))=.ok (.nx (st J))
 |0,fuel,_,hf=>by
  obtain⟨m,rfl⟩:∃m,fuel=m+1:=⟨fuel-1,by omega⟩
  rw[tM,Nat.sub_zero,hst];rfl
 |k+1,fuel,hk,hf=>by
  obtain⟨m,rfl⟩:∃m,fuel=m+1:=⟨fuel-1,by omega⟩
  obtain⟨h1,h2⟩:=hgo (J-(k+1)) (by omega)
  have ih:=aJs st J hgo hst k m (by omega) (by omega)
  rw[tM,h1];simp only[aM,nC,if_true,h2];rw[show J-(k+1)+1=J-k by omega]
  exact ih
section
variable {c:Nat} {f:Nat->Nat}
theorem aRk{s:Nat}:seg S f q s s=[]:=by unfold seg;rw[Nat.sub_self];rfl
theorem aD5{s e:Nat}(h:s<e):seg S f q s e=fw S f q s::seg S f q (s+1) e:=by
 unfold seg;rw[show e-s=(e-(s+1))+1 by omega,List.range'_succ,map_cons]
theorem aG7{s e:Nat}(h1:s<=m)(h2:m<=e):seg S f q s m++seg S f q m e=seg S f q s e:=by
 unfold seg;have:=List.range'_append_1 (s:=s) (m:=m-s) (n:=e-m);rw[show s+(m-s)=m by omega,show m-s+(e-m)=e-s by omega]at this
 rw[<-List.map_append,this]
theorem bAd{s:Nat}:seg S f q s (s+1)=[fw S f q s]:=by rw[aD5 (by omega),aRk]
theorem aD6{s e:Nat}:(seg S f q s e).length=e-s:=by unfold seg;simp
theorem aNi{s e:Nat}(h:s<=e):seg S f q s (e+1)=seg S f q s e++[fw S f q e]:=by rw[<-bAd,aG7 h (by omega)]
theorem aWk{s e:Nat}(h:s<=e):(seg S f q s (e+1)).getLast?=some (fw S f q e):=by rw[aNi h,List.getLast?_append];rfl
theorem aHe:∀(x:List Nat)(n:Nat),(∀i,i<x.length->x.getD i 0=f (n+i))->runs S (fw S f q n) x=seg S f q (n+1) (n+1+x.length)
 |[],n,_=>by rw[length_nil,Nat.add_zero,aRk];rfl
 |ch::x,n,h=>by
  have h0:ch=f n:=by have:=h 0 (by simp);simpa using this
  have e:stp S (fw S f q n) (ch-97)=fw S f q (n+1):=by rw[h0];rfl
  rw[length_cons,aD5 (by omega),<-e,show n+1+(x.length+1)=n+1+1+x.length by omega,<-aHe x (n+1) (λi hi=>by
   have:=h (i+1) (by simp;omega)
   rw[show n+1+i=n+(i+1) by omega,<-this]
   simp),<-e]
  rfl
theorem zL(M:Mch S rk c)(hf:∀n,97<=f n/\(f n:Int)<97+c)(hq:q<S.length):∀n,fw S f q n<S.length
 |0=>hq
 |n+1=>by
  obtain⟨_,_,_,h⟩:=aD4 M (zL M hf hq n) (hf n).1 (hf n).2;exact h
end
section
variable{K V:Nat->D}{g:Nat->Nat}(hK:∀i j,eqK (K i) (K j)=decide (g i=g j))
include hK
theorem bAe(h:∀i,i<j->g i≠g m):qP ((List.range j).map K) (K m)=false:=by
 unfold qP;rw[List.any_map,List.any_eq_false];intro i hi;have:=h i (List.mem_range.mp hi);simp[hK,this]
theorem aWl(h:i<j)(e:g i=g m):qP ((List.range j).map K) (K m)=true:=by
 unfold qP;rw[List.any_map,List.any_eq_true];exact⟨i,List.mem_range.mpr h,by simp[hK,e]⟩
theorem aWm(h:i<j)(e:g i=g m)(hn:∀a,a<i->g a≠g m):uL ((List.range j).map K) ((List.range j).map V) (K m)=some (V i):=by
 unfold uL;rw[List.zip_map',List.find?_map];have:(List.range j).find? ((λp:D×D=>eqK p.1 (K m)) ∘ λa=>(K a,V a))=some i:=by
  rw[List.find?_range_eq_some];refine⟨by simp[hK,e],List.mem_range.mpr h,λa ha=>?_⟩
  have:=hn a ha;simp[hK,this]
 rw[this];rfl
end
theorem aNj(F:Nat->D)(j:Nat):(List.range j).map F++[F j]=(List.range (j+1)).map F:=by rw[List.range_succ,List.map_append];rfl
theorem aD7(a b:List Nat):nats a++nats b=nats (a++b):=by unfold nats;rw[List.map_append]
theorem aWn(a:α)(x:List α):cut (a::x) (some 1) none=x:=by
 have:=bEs (a::x) 1 (by simp)
 simpa using this
theorem bAf(x y:List α)(a:α)(n:Nat)(h:x.length=n):cut (x++y++[a]) (some (n:Int)) (some (-1))=y:=by
 subst h;have l:(x++y++[a]).length=x.length+y.length+1:=by simp;omega
 unfold cut;have e1:sIx (x++y++[a]).length 0 (some (x.length:Int))=x.length:=by
  rw[l];show (if ((x.length:Int)<0) then ((x.length:Int)+((x.length+y.length+1:Nat):Int)).toNat else min (x.length:Int).toNat (x.length+y.length+1))=_;rw[if_neg (by omega)];omega
 have e2:sIx (x++y++[a]).length (x++y++[a]).length (some (-1))=x.length+y.length:=by
  rw[l];unfold sIx;simp;omega
 rw[e1,e2,List.append_assoc,List.drop_left,show x.length+y.length-x.length=y.length by omega,List.take_left]
section
variable {c:Nat}
theorem aPw(M:Mch S rk c){b t:List Nat}(lb:Ltr c b)(l2:Ltr c t)(t1:1<=t.length)(tl:t.length<=10000)(bl:b.length<=10000):jJ [.tup [.str b,.str t],.int c]=.ok (.bl true):=by
 have h1:=M.c1;have h3:=M.c3;rw[aJ4 (.str b) (.str t) c true true (by rw[aBz b c (by omega) (by omega) (by omega),aD2.mpr lb]) (by rw[aBz t c (by omega) (by omega) (by omega),aD2.mpr l2]) rfl (by simp)]
 have:t≠[]:=λz=>by rw[z]at t1;simp at t1
 simp[this]
theorem aJt(M:Mch S rk c){f:Nat->Nat}(hf:∀n,97<=f n/\(f n:Int)<97+c)(hq:q<S.length)(x:List Nat)(hl:x.length<=10000)(hx:Ltr c x)(n:Nat)(h:∀i,i<x.length->x.getD i 0=f (n+i)):bD [mD S rk c,.int (fw S f q n),.str x]=.ok (.lst (nats (seg S f q n (n+x.length+1)))):=by
 rw[aHb M (zL M hf hq n) x hx (by omega),aHe x n h,aD5 (s:=n) (by omega),show n+x.length+1=n+1+x.length by omega]
theorem bEt{b t:List Nat} (h:i<b.length):b.getD i 0=lt b t (0+i):=by unfold lt;rw[Nat.zero_add,if_pos h]
theorem bEu{b t:List Nat} (j:Nat) (h:i<t.length):t.getD i 0=lt b t (b.length+j*t.length+i):=by
 rw[show b.length+j*t.length+i=b.length+i+j*t.length by omega,aG6 (by omega),<-bCy h]
 unfold lt;rw[if_neg (by omega),show b.length+i-b.length=i by omega]
theorem aTx(M:Mch S rk c)(hq:q<S.length){b t:List Nat}(lb:Ltr c b)(l2:Ltr c t)(t1:1<=t.length)(tl:t.length<=10000)(bl:b.length<=10000):∃i J,i<J/\J<=S.length/\fw S (lt b t) q (b.length+i*t.length)=fw S (lt b t) q (b.length+J*t.length)/\(∀j,j<J->∀i,i<j->fw S (lt b t) q (b.length+i*t.length)≠fw S (lt b t) q (b.length+j*t.length))/\
  ∃(rs0 rsJ ksJ vsJ:List D)(gJ:Nat),bD [mD S rk c,.int q,.str b]=.ok (.lst rs0)/\
   nA lK pK 100000 [some (.v (mD S rk c)),some (.v (.tup [.str b,.str t])),some (.v (.int q)),some (.o .l rs0),some (.o (.d false []) []),none]=.ok (.nx [some (.v (mD S rk c)),some (.v (.tup [.str b,.str t])),some (.v (.int q)),some (.o .l rsJ),some (.o (.d false ksJ) vsJ),none])/\
   atI rsJ (-1)=some (.int gJ)/\uL ksJ vsJ (.int gJ)=some (.int ((b.length+i*t.length:Nat):Int))/\cut rsJ none (some ((b.length+i*t.length:Nat):Int))=nats (seg S (lt b t) q 0 (b.length+i*t.length))/\
   cut rsJ (some ((b.length+i*t.length:Nat):Int)) (some (-1))=nats (seg S (lt b t) q (b.length+i*t.length) (b.length+J*t.length)):=by
 have hf:=aC1 lb l2 t1;have h8:=M.most;generalize hg:(λi=>fw S (lt b t) q (b.length+i*t.length))=g
 obtain⟨J,hJ,⟨i,hi,e⟩,hn⟩:=aNh g S.length (λi=>by rw[<-hg];exact zL M hf hq _)
 have hg':∀i,fw S (lt b t) q (b.length+i*t.length)=g i:=λi=>by rw[<-hg]
 refine⟨i,J,hi,hJ,by rw[hg',hg',e],λj hj i hi=>by rw[hg',hg'];exact hn j hj i hi,?_⟩
 have hK:∀i j,eqK (.int (g i)) (.int (g j))=decide (g i=g j):=λi j=>by
  rw[Bool.eq_iff_iff];unfold eqK;simp;omega
 have hJt:J*t.length<=8*10000:=Nat.mul_le_mul (by omega) tl
 obtain⟨ks,hks⟩:∃ks:Nat->List D,∀j,ks j=(List.range j).map λi=>D.int (g i):=⟨_,λ_=>rfl⟩
 obtain⟨vs,hvs⟩:∃vs:Nat->List D,∀j,vs j=(List.range j).map λi=>D.int ((b.length+i*t.length:Nat):Int):=⟨_,λ_=>rfl⟩
 have hvl:∀j,(vs j).length=j:=λj=>by rw[hvs];simp
 obtain⟨rs,hrs⟩:∃rs:Nat->List D,∀j,rs j=nats (seg S (lt b t) q 0 (b.length+j*t.length+1)):=⟨_,λ_=>rfl⟩
 have hrl:∀j,((rs j).length:Int)-1=((b.length+j*t.length:Nat):Int):=λj=>by rw[hrs,bM,aD6];omega
 have hlast:∀j,atI (rs j) (-1)=some (.int (g j)):=λj=>by
  rw[<-hg',hrs];exact atI_last (aJr (aWk (by omega)))
 have hgo:∀j,j<J->lK [some (.v (mD S rk c)),some (.v (.tup [.str b,.str t])),some (.v (.int q)),some (.o .l (rs j)),some (.o (.d false (ks j)) (vs j)),none]=.ok (.bl true)/\pK [some (.v (mD S rk c)),some (.v (.tup [.str b,.str t])),some (.v (.int q)),some (.o .l (rs j)),some (.o (.d false (ks j)) (vs j)),none]=.ok (.nx [some (.v (mD S rk c)),some (.v (.tup [.str b,.str t])),some (.v (.int q)),some (.o .l (rs (j+1))),some (.o (.d false (ks (j+1))) (vs (j+1))),none]):=λj hj=>by
  have hno:=bAe (K:=λi=>.int (g i)) hK (j:=j) (m:=j) (λi hi=>hn j hj i hi)
  have hjt:j*t.length<=8*10000:=Nat.le_trans (Nat.mul_le_mul_right _ (by omega)) hJt
  rw[<-hks]at hno;have hl:e2 dIx (dZ 3) (e1 rE (eC (.int 1))) [some (.v (mD S rk c)),some (.v (.tup [.str b,.str t])),some (.v (.int q)),some (.o .l (rs j)),some (.o (.d false (ks j)) (vs j)),none]=.ok (.int (g j)):=aH rfl rfl (eX (hlast j));refine⟨aH hl rfl (by
   show aY (keyOk false (.int (g j))=true) (R.ok (D.bl (!qP (ks j) (.int (g j)))))=_;rw[aF (c:=keyOk false (.int (g j))=true) rfl,hno];rfl),?_⟩
  .have hal:=aJt M hf hq t tl l2 (b.length+j*t.length) (λi hi=>bEu j hi)
   rw[hg']at hal;have p1:tL (ks j) (.int (g j))=ks (j+1):=by
    unfold tL;rw[if_neg (by rw[hno];decide),hks,hks]
    exact aNj (λi=>D.int (g i)) j
   have p2:xN (ks j) (vs j) (.int (g j)) (.int ((b.length+j*t.length:Nat):Int))=vs (j+1):=by
    unfold xN;rw[if_neg (by rw[hno];decide),hvs,hvs]
    exact aNj (λi=>D.int ((b.length+i*t.length:Nat):Int)) j
   refine aQ (st':=[some (.v (mD S rk c)),some (.v (.tup [.str b,.str t])),some (.v (.int q)),some (.o .l (rs j)),some (.o (.d false (ks (j+1))) (vs (j+1))),none]) ?_ ?_
   .have hs:e2 bA0 (e1 lY (dZ 3)) (eC (.int 1)) [some (.v (mD S rk c)),some (.v (.tup [.str b,.str t])),some (.v (.int q)),some (.o .l (rs j)),some (.o (.d false (ks j)) (vs j)),none]=.ok (.int ((b.length+j*t.length:Nat):Int)):=by
     rw[<-hrl j];exact aH rfl rfl rfl
    unfold sDPut;rw[hs,aM,hl,aM,<-p1,<-p2];exact aF ⟨rfl,aGq (by rw[hvl];omega)⟩
   .have hm:dU "Machine" "rooms_along" bD [] (aB 0) (aC (e2 dIx (dZ 3) (e1 rE (eC (.int 1)))) (aC (e2 dIx (aB 1) (eC (.int 1))) aU)) [some (.v (mD S rk c)),some (.v (.tup [.str b,.str t])),some (.v (.int q)),some (.o .l (rs j)),some (.o (.d false (ks (j+1))) (vs (j+1))),none]=.ok (.lst (nats (seg S (lt b t) q (b.length+j*t.length) (b.length+j*t.length+t.length+1)))):=by
     rw[kZ (xs:=[.int (g j),.str t]) rfl (aP (aH rfl rfl (eX (hlast j))) (aP (aH rfl rfl rfl) rfl)) (by decide)]
     exact hal
    have hc:cut (nats (seg S (lt b t) q (b.length+j*t.length) (b.length+j*t.length+t.length+1))) (some 1) none=nats (seg S (lt b t) q (b.length+j*t.length+1) (b.length+j*t.length+t.length+1)):=by
     rw[aD5 (by omega)];exact aWn _ _
    have hr1:rs (j+1)=rs j++nats (seg S (lt b t) q (b.length+j*t.length+1) (b.length+j*t.length+t.length+1)):=by
     rw[hrs,hrs,aD7,aG7 (by omega) (by omega),show b.length+(j+1)*t.length+1=b.length+j*t.length+t.length+1 by rw[succ_mul];omega]
    have hlen:(rs j).length+(nats (seg S (lt b t) q (b.length+j*t.length+1) (b.length+j*t.length+t.length+1))).length<=big:=dD (by
     have:=hrl j;rw[bM,aD6];omega)
    rw[hr1];refine aWf ?_ rfl hlen;rw[aPq,hm,<-hc];rfl
 have hno:=aWl (K:=λi=>.int (g i)) hK hi e
 rw[<-hks]at hno;have hget:=aWm (K:=λi=>.int (g i)) (V:=λi=>D.int ((b.length+i*t.length:Nat):Int)) hK hi e (λa ha=>by rw[<-e];exact hn i hi a ha)
 rw[<-hks,<-hvs]at hget;have hij:i*t.length<=J*t.length:=Nat.mul_le_mul_right _ (by omega)
 obtain⟨n,hn0⟩:∃n,n=b.length+i*t.length:=⟨_,rfl⟩;rw[<-hn0]at hget ⊢;have hstop:lK [some (.v (mD S rk c)),some (.v (.tup [.str b,.str t])),some (.v (.int q)),some (.o .l (rs J)),some (.o (.d false (ks J)) (vs J)),none]=.ok (.bl false):=by
  refine aH (aH rfl rfl (eX (hlast J))) rfl ?_
  show aY (keyOk false (.int (g J))=true) (R.ok (D.bl (!qP (ks J) (.int (g J)))))=_;rw[aF (c:=keyOk false (.int (g J))=true) rfl,hno];rfl
 have hw:=aJs (λj=>[some (.v (mD S rk c)),some (.v (.tup [.str b,.str t])),some (.v (.int q)),some (.o .l (rs j)),some (.o (.d false (ks j)) (vs j)),none]) J hgo hstop J 100000 (Nat.le_refl _) (by omega)
 rw[Nat.sub_self]at hw;have h0:=aJt M hf hq b bl lb 0 (λi hi=>bEt hi)
 rw[Nat.zero_add]at h0;have hr0:rs 0=nats (seg S (lt b t) q 0 (b.length+1)):=by rw[hrs,Nat.zero_mul,Nat.add_zero]
 rw[<-hr0]at h0;have hk0:ks 0=[]:=by rw[hks];rfl
 have hv0:vs 0=[]:=by rw[hvs];rfl
 have c1:cut (rs J) none (some (n:Int))=nats (seg S (lt b t) q 0 n):=by
  rw[bEr,hrs,<-aG7 (s:=0) (m:=n) (by omega) (by omega),<-aD7,List.take_left' (by rw[bM,aD6];omega)]
 have c2:cut (rs J) (some (n:Int)) (some (-1))=nats (seg S (lt b t) q n (b.length+J*t.length)):=by
  rw[hrs,aNi (by omega),<-aG7 (s:=0) (m:=n) (by omega) (by omega),<-aD7,<-aD7]
  exact bAf _ _ _ _ (by rw[bM,aD6];omega)
 refine⟨rs 0,rs J,ks J,vs J,g J,h0,?_,hlast J,hget,c1,c2⟩;rw[hk0,hv0]at hw;exact hw
end
section
variable{S:List (List Nat)}{rk:List Nat}{c:Nat}{q:Nat}
theorem aEh:fD "Machine" "ranks" (mD S rk c)=.ok (.lst (nats rk)):=by unfold mD;rw[yQ,aF rfl];rfl
theorem aWo{r:Nat}(h:r<rk.length):atI (nats rk) (r:Int)=some (.int (rk.getD r 0)):=by
 rw[atI_nat (by rw[bM];exact h)]
 simp[nats,getD_eq_getElem?_getD,List.getElem?_eq_getElem h]
def rkD(rk:List Nat):D->D
 |.int i=>.int (rk.getD i.toNat 0)
 |d=>d
theorem bEv(l:List Nat):(nats l).map (rkD rk)=(l.map λr=>((rk.getD r 0:Nat):Int)).map D.int:=by
 unfold nats;rw[List.map_map,List.map_map];refine List.map_congr_left λr _=>?_
 simp[rkD]
theorem bEw(h:l≠[]):aGw (.lst ((nats l).map (rkD rk)))=.ok (.int (mx rk l)):=by
 rw[bEv];unfold aGw;simp only[rT,aM];rw[aF (by rw[length_map];exact List.length_pos_iff.mpr h)]
 rfl
theorem aRl{b t:List Nat}{J:Nat}(t1:1<=t.length)(hi:i<J)(e:fw S (lt b t) q (b.length+i*t.length)=fw S (lt b t) q (b.length+J*t.length)):Lp S (lt b t) q (b.length+i*t.length) (b.length+J*t.length):=by
 have h1:i*t.length+(J-i)*t.length=J*t.length:=by rw[<-Nat.add_mul];congr 1;omega
 have h2:1*1<=(J-i)*t.length:=Nat.mul_le_mul (by omega) t1
 refine⟨by omega,λn hn=>?_,e⟩
 rw[show b.length+J*t.length-(b.length+i*t.length)=(J-i)*t.length by omega]
 exact aG6 (by omega) _
end
section
variable {c:Nat}
theorem bAg(hq:q<S.length):bW [mD S rk c,.int q]=.ok .non:=by
 have hb:aW nF (aC (aB 1) (aC (e1 (fD "Machine" "many") (aB 0)) aU)) [some (.v (mD S rk c)),some (.v (.int q))]=.ok (.bl true):=aV (aP rfl (aP (vI:fD "Machine" "many" (mD S rk c)=_) rfl)) (aEf hq);exact aPu rfl (qM (qU hb) rfl)
theorem aRm(M:Mch S rk c)(hq:q<S.length){b t:List Nat}(lb:Ltr c b)(l2:Ltr c t)(t1:1<=t.length)(tl:t.length<=10000)(bl:b.length<=10000):∃i J,i<J/\J<=S.length/\fw S (lt b t) q (b.length+i*t.length)=fw S (lt b t) q (b.length+J*t.length)/\(∀j,j<J->∀i,i<j->fw S (lt b t) q (b.length+i*t.length)≠fw S (lt b t) q (b.length+j*t.length))/\
  kE [mD S rk c,.tup [.str b,.str t],.int q]=.ok (.tup [.lst (nats (seg S (lt b t) q 0 (b.length+i*t.length))),.lst (nats (seg S (lt b t) q (b.length+i*t.length) (b.length+J*t.length)))]):=by
 obtain⟨i,J,hi,hJ,e,hn,rs0,rsJ,ksJ,vsJ,gJ,h0,hw,hlast,hget,c1,c2⟩:=aTx M hq lb l2 t1 tl bl;refine⟨i,J,hi,hJ,e,hn,?_⟩;generalize b.length+i*t.length=n at hget c1 c2 ⊢;have he:aW jJ (aC (aB 1) (aC (e1 (fD "Machine" "letters") (aB 0)) aU)) [some (.v (mD S rk c)),some (.v (.tup [.str b,.str t])),some (.v (.int q)),none,none,none]=.ok (.bl true):=aV (aP rfl (aP (aFa:fD "Machine" "letters" (mD S rk c)=_) rfl)) (aPw M lb l2 t1 tl bl);have hm:dU "Machine" "rooms_along" bD [] (aB 0) (aC (aB 2) (aC (e2 dIx (aB 1) (eC (.int 0))) aU)) [some (.v (mD S rk c)),some (.v (.tup [.str b,.str t])),some (.v (.int q)),none,none,none]=.ok (.lst rs0):=by
  rw[kZ (xs:=[.int q,.str b]) rfl (aP rfl (aP (aH rfl rfl rfl) rfl)) (by decide)]
  exact h0
 have hx:aTq (dU "Machine" "check_room" bW [] (aB 0) (aC (aB 2) aU)) [some (.v (mD S rk c)),some (.v (.tup [.str b,.str t])),some (.v (.int q)),none,none,none]=.ok (.nx [some (.v (mD S rk c)),some (.v (.tup [.str b,.str t])),some (.v (.int q)),none,none,none]):=by
  unfold aTq;rw[kZ rfl rfl (by decide)]
  show (bW [mD S rk c,.int q]).bind _=_;rw[bAg hq];rfl
 refine bT rfl (dX hx (dX (qM (qU he) rfl) ?_));refine aQ (st':=[some (.v (mD S rk c)),some (.v (.tup [.str b,.str t])),some (.v (.int q)),some (.o .l rs0),none,none]) (wK hm) ?_
 refine aQ (st':=[some (.v (mD S rk c)),some (.v (.tup [.str b,.str t])),some (.v (.int q)),some (.o .l rs0),some (.o (.d false []) []),none]) rfl ?_
 refine aQ hw ?_
 have hl:e2 dIx (dZ 3) (e1 rE (eC (.int 1))) [some (.v (mD S rk c)),some (.v (.tup [.str b,.str t])),some (.v (.int q)),some (.o .l rsJ),some (.o (.d false ksJ) vsJ),none]=.ok (.int gJ):=aH rfl rfl (eX hlast);have hg:e2 dIx (dZ 4) (e2 dIx (dZ 3) (e1 rE (eC (.int 1)))) [some (.v (mD S rk c)),some (.v (.tup [.str b,.str t])),some (.v (.int q)),some (.o .l rsJ),some (.o (.d false ksJ) vsJ),none]=.ok (.int (n:Nat)):=aH rfl hl (by
  show aY (keyOk false (.int gJ)=true) (ofO (uL ksJ vsJ (.int gJ)))=_;rw[aF (c:=keyOk false (.int gJ)=true) rfl,hget];rfl)
 refine aQ (st':=[some (.v (mD S rk c)),some (.v (.tup [.str b,.str t])),some (.v (.int q)),some (.o .l rsJ),some (.o (.d false ksJ) vsJ),some (.v (.int (n:Nat)))]) (bK hg) (cU ?_);have s1:eSl (dZ 3) vB (qH (aB 5)) [some (.v (mD S rk c)),some (.v (.tup [.str b,.str t])),some (.v (.int q)),some (.o .l rsJ),some (.o (.d false ksJ) vsJ),some (.v (.int (n:Nat)))]=.ok (.lst (nats (seg S (lt b t) q 0 n))):=by rw[<-c1];rfl
 have s2:eSl (dZ 3) (qH (aB 5)) (qH (e1 rE (eC (.int 1)))) [some (.v (mD S rk c)),some (.v (.tup [.str b,.str t])),some (.v (.int q)),some (.o .l rsJ),some (.o (.d false ksJ) vsJ),some (.v (.int (n:Nat)))]=.ok (.lst (nats (seg S (lt b t) q n (b.length+J*t.length)))):=by rw[<-c2];rfl
 show R.bind (aC _ (aC _ aU) _) _=_;rw[aP s1 (aP s2 rfl),aM];exact aF (dD (by show 2<=_;omega))
theorem aRn(M:Mch S rk c)(hq:q<S.length){b t:List Nat}(lb:Ltr c b)(l2:Ltr c t)(t1:1<=t.length)(tl:t.length<=10000)(bl:b.length<=10000):∃v,Ev S rk (lt b t) q v/\bV [mD S rk c,.tup [.str b,.str t],.int q]=.ok (.bl v):=by
 obtain⟨i,J,hi,hJ,e,_,hw⟩:=aRm M hq lb l2 t1 tl bl;have L:=aRl t1 hi e;have h8:=M.most;have hJt:J*t.length<=8*10000:=Nat.mul_le_mul (by omega) tl
 have hlt:=zL M (aC1 lb l2 t1) hq;have hlen:(seg S (lt b t) q (b.length+i*t.length) (b.length+J*t.length)).length<=1000000:=by rw[aD6];omega
 have hin:∀r∈seg S (lt b t) q (b.length+i*t.length) (b.length+J*t.length),r<rk.length:=λr hr=>by
  obtain⟨n,_,_,rfl⟩:=oG.mp hr;rw[M.rks];exact hlt n
 have hne:=aHd (S:=S) (f:=lt b t) (q:=q) L.lt;refine⟨decide (mx rk (seg S (lt b t) q (b.length+i*t.length) (b.length+J*t.length))%2=0),⟨_,_,L,rfl⟩,?_⟩;generalize seg S (lt b t) q (b.length+i*t.length) (b.length+J*t.length)=l at hw hlen hin hne;have hm:e1 aGw (dF [4] (tgN 4) (itE (aB 3)) dG pL) [some (.v (mD S rk c)),some (.v (.tup [.str b,.str t])),some (.v (.int q)),some (.v (.lst (nats l))),none]=.ok (.int (mx rk l)):=by
  show R.bind (dF [4] (tgN 4) (itE (aB 3)) dG pL [some (.v (mD S rk c)),some (.v (.tup [.str b,.str t])),some (.v (.int q)),some (.v (.lst (nats l))),none]) _=_;rw[iC (tZ rfl) (by rw[bM];exact hlen) (vH (rkD rk) _ λd hd=>by
   obtain⟨r,hr,rfl⟩:=zK hd;exact⟨_,rfl,rfl,aH (aEh:fD "Machine" "ranks" (mD S rk c)=_) rfl (eX (aWo (hin r hr)))⟩),aM]
  exact bEw hne
 exact bT rfl (aQ (st':=[some (.v (mD S rk c)),some (.v (.tup [.str b,.str t])),some (.v (.int q)),some (.v (.lst (nats l))),none]) (bK (aH ((kZ rfl rfl (by decide)).trans hw) rfl rfl)) (cU (aH (aH hm rfl (sJ (by decide))) rfl (zJ _ _))))
end
def slB(u v:List Nat):Prop:=u.length<v.length\/(u.length=v.length/\u<v)
theorem aWp:∀{u v:List Nat}(a b:Nat),u.length=v.length->u<v->u++[a] < v++[b]
 |[],[],_,_,_,h=>absurd h (List.lt_irrefl _)
 |[],_::_,_,_,h,_=>by simp at h
 |_::_,[],_,_,h,_=>by simp at h
 |x::u,y::v,a,b,h,h2=>by
  rw[cons_append,cons_append,List.cons_lt_cons_iff];rcases List.cons_lt_cons_iff.mp h2 with h3|⟨h3,h4⟩
  .exact .inl h3
  .exact .inr ⟨h3,aWp a b (by simpa using h) h4⟩
theorem aRo:∀(u:List Nat){a b:Nat},a<b->u++[a] < u++[b]
 |[],a,b,h=>by
  show [a] < [b];rw[List.cons_lt_cons_iff];exact .inl h
 |x::u,a,b,h=>by
  rw[cons_append,cons_append,List.cons_lt_cons_iff];exact .inr ⟨rfl,aRo u h⟩
theorem aRp{u v:List Nat}(a b:Nat)(h:slB u v):slB (u++[a]) (v++[b]):=by
 rcases h with h|⟨h1,h2⟩
 .exact .inl (by rw[length_append,length_append];simpa using h)
 .exact .inr ⟨by rw[length_append,length_append,h1];rfl,aWp a b h1 h2⟩
theorem aWq(u:List Nat){a b:Nat}(h:a<b):slB (u++[a]) (u++[b]):=.inr ⟨by simp,aRo u h⟩
theorem bAh(u:List Nat)(a:Nat):slB [] (u++[a]):=.inl (by simp)
theorem aAh(S:List (List Nat)):∀(x:List Nat)(q ch:Nat),fQ S q (x++[ch])=stp S (fQ S q x) (ch-97)
 |[],_,_=>rfl
 |y::x,q,ch=>aAh S x _ ch
def bst(al:Nat->Bool)(acc:List (Nat×List Nat))(g:Nat)(w:List Nat):List (Nat×List Nat):=if al g=true/\g∉acc.map (·.1) then acc++[(g,w)] else acc
structure BM(S:List (List Nat))(s c:Nat)(al:Nat->Bool)(p j:Nat)(acc:List (Nat×List Nat)):Prop where
 nd:(acc.map (·.1)).Nodup
 hd:acc[0]?=some (s,[])
 lt:∀x∈acc,x.1<S.length/\fQ S s x.2=x.1/\Ltr c x.2
 par:∀(k:Nat)(x:Nat×List Nat),acc[k]?=some x->1<=k->al x.1=true/\∃q y ch,acc[q]?=some y/\x.2=y.2++[ch]/\(q<p\/(q=p/\ch<97+j))
 ord:∀(i k:Nat)(x y:Nat×List Nat),acc[i]?=some x->acc[k]?=some y->i<k->slB x.2 y.2
 cls:∀(i:Nat)(x:Nat×List Nat)(l:Nat),acc[i]?=some x->l<c->(i<p\/(i=p/\l<j))->al (stp S x.1 l)=true->∃y∈acc,y.1=stp S x.1 l/\(y.2=x.2++[97+l]\/slB y.2 (x.2++[97+l]))
section
variable{S:List (List Nat)}{rk:List Nat}{s c p j:Nat}{al:Nat->Bool}{acc:List (Nat×List Nat)}
theorem BM.start(hs:s<S.length):BM S s c al 0 0 [(s,[])] where
 nd:=by simp
 hd:=rfl
 lt:=λx hx=>by rw[List.mem_singleton.mp hx];exact⟨hs,rfl,λ_ h=>nomatch h⟩
 par:=λk x e h=>by
  have:k<1:=(List.getElem?_eq_some_iff.mp e).1;omega
 ord:=λi k x y e1 e2 h=>by
  have:k<1:=(List.getElem?_eq_some_iff.mp e2).1;omega
 cls:=λi x l _ _ h=>by omega
theorem BM.next(b:BM S s c al p c acc):BM S s c al (p+1) 0 acc where
 nd:=b.nd
 hd:=b.hd
 lt:=b.lt
 par:=λk x e h=>by
  obtain⟨h0,q,y,ch,h1,h2,h3⟩:=b.par k x e h;exact⟨h0,q,y,ch,h1,h2,.inl (by omega)⟩
 ord:=b.ord
 cls:=λi x l e hl h ha=>b.cls i x l e hl (by omega) ha
theorem BM.below(b:BM S s c al p j acc){x y:Nat×List Nat}{k:Nat}(hx:acc[p]?=some x)(hy:acc[k]?=some y):slB y.2 (x.2++[97+j]):=by
 by_cases hk:k=0
 .subst hk;rw[b.hd]at hy;cases hy;exact bAh _ _
 .obtain⟨_,q,z,ch,h1,h2,h3⟩:=b.par k y hy (by omega)
  rw[h2];rcases h3 with h3|⟨rfl,h3⟩
  .exact aRp _ _ (b.ord q p z x h1 hx h3)
  .rw[hx]at h1;cases h1;exact aWq _ h3
theorem BM.turn(M:Mch S rk c)(b:BM S s c al p j acc){x:Nat×List Nat}(hx:acc[p]?=some x)(hj:j<c):BM S s c al p (j+1) (bst al acc (stp S x.1 j) (x.2++[97+j])):=by
 have hxm:x∈acc:=List.mem_of_getElem? hx;obtain⟨x1,x2,x3⟩:=b.lt x hxm;have hg:stp S x.1 j<S.length:=by obtain⟨_,_,_,h⟩:=aLh M x1 hj;exact h
 unfold bst
 by_cases hc:al (stp S x.1 j)=true/\stp S x.1 j∉acc.map (·.1)
 .rw[if_pos hc];have old:∀{k:Nat}{y:Nat×List Nat},acc[k]?=some y->(acc++[(stp S x.1 j,x.2++[97+j])])[k]?=some y:=λ{k y} e=>by
   rw[List.getElem?_append_left (List.getElem?_eq_some_iff.mp e).1];exact e
  have inv:∀{k:Nat}{y:Nat×List Nat},(acc++[(stp S x.1 j,x.2++[97+j])])[k]?=some y->acc[k]?=some y\/(k=acc.length/\y=(stp S x.1 j,x.2++[97+j])):=λ{k y} e=>by
   by_cases hk:k<acc.length
   .rw[List.getElem?_append_left hk]at e;exact .inl e
   .have hlt:=(List.getElem?_eq_some_iff.mp e).1;rw[length_append,length_singleton]at hlt;have:k=acc.length:=by omega
    subst this;rw[List.getElem?_append_right (Nat.le_refl _),Nat.sub_self]at e;simp at e;exact .inr ⟨rfl,e.symm⟩
  have lt_of:∀{k:Nat}{y:Nat×List Nat},acc[k]?=some y->k<acc.length:=λe=>(List.getElem?_eq_some_iff.mp e).1
  refine⟨?_,old b.hd,λy hy=>?_,λk y e h=>?_,λi k y z e1 e2 h=>?_,λi y l e hl h ha=>?_⟩
  .rw[List.map_append,List.nodup_append];refine⟨b.nd,by simp,λa ha b' hb=>?_⟩
   rw[List.map_singleton,List.mem_singleton]at hb;rw[hb];show a≠stp S x.1 j;exact λz=>hc.2 (by rw[<-z];exact ha)
  .rcases List.mem_append.mp hy with hy|hy
   .exact b.lt y hy
   .rw[List.mem_singleton.mp hy];refine⟨hg,?_,λch hch=>?_⟩
    .show fQ S s (x.2++[97+j])=_;rw[aAh,x2,show 97+j-97=j by omega]
    .rcases List.mem_append.mp hch with h|h
     .exact x3 ch h
     .rw[List.mem_singleton.mp h];constructor<;>omega
  .rcases inv e with e|⟨rfl,rfl⟩
   .obtain⟨h0,q,z,ch,h1,h2,h3⟩:=b.par k y e h;exact⟨h0,q,z,ch,old h1,h2,h3.imp id λh=>⟨h.1,by omega⟩⟩
   .exact⟨hc.1,p,x,97+j,old hx,rfl,.inr ⟨rfl,by omega⟩⟩
  .rcases inv e2 with e2|⟨rfl,rfl⟩
   .rcases inv e1 with e1|⟨rfl,_⟩
    .exact b.ord i k y z e1 e2 h
    .have:=lt_of e2;omega
   .rcases inv e1 with e1|⟨rfl,_⟩
    .exact b.below hx e1
    .omega
  .rcases inv e with e'|⟨rfl,rfl⟩
   .by_cases hip:i=p/\l=j
    .obtain⟨rfl,rfl⟩:=hip;rw[hx]at e';cases e';exact⟨_,List.mem_append_right _ (List.mem_singleton.mpr rfl),rfl,.inl rfl⟩
    .obtain⟨z,h1,h2⟩:=b.cls i y l e' hl (by omega) ha
     exact⟨z,List.mem_append_left _ h1,h2⟩
   .have:=lt_of hx;omega
 .rw[if_neg hc];refine⟨b.nd,b.hd,b.lt,λk y e h=>?_,b.ord,λi y l e hl h ha=>?_⟩
  .obtain⟨h0,q,z,ch,h1,h2,h3⟩:=b.par k y e h;exact⟨h0,q,z,ch,h1,h2,h3.imp id λh=>⟨h.1,by omega⟩⟩
  .by_cases hip:i=p/\l=j
   .obtain⟨rfl,rfl⟩:=hip;rw[hx]at e;cases e;have hm:stp S x.1 l∈acc.map (·.1):=Classical.byContradiction λz=>hc ⟨ha,z⟩
    obtain⟨y,hy,ey⟩:=List.mem_map.mp hm;obtain⟨k,hk⟩:=List.mem_iff_getElem?.mp hy;exact⟨y,hy,ey,.inr (b.below hx hk)⟩
   .exact b.cls i y l e hl (by omega) ha
theorem BM.len(b:BM S s c al p j acc):acc.length<=S.length:=by
 have h:=b.nd;have hsub:∀x∈acc.map (·.1),x∈List.range S.length:=λx hx=>by
  obtain⟨y,hy,rfl⟩:=List.mem_map.mp hx;exact List.mem_range.mpr (b.lt y hy).1
 have:=mK S.length (acc.map (·.1)) h λx hx=>List.mem_range.mp (hsub x hx)
 rwa [length_map]at this
def kD(acc:List (Nat×List Nat)):List D:=acc.map λx=>D.int (x.1:Nat)
theorem aLi(acc:List (Nat×List Nat)):(kD acc).length=acc.length:=by unfold kD;simp
theorem aWr(acc:List (Nat×List Nat))(g:Nat)(w:List Nat):kD (acc++[(g,w)])=kD acc++[.int g]:=by unfold kD;simp
theorem bI7{k:Nat}{x:Nat×List Nat}(h:acc[k]?=some x):atI (kD acc) (k:Int)=some (.int x.1):=by
 have hk:=(List.getElem?_eq_some_iff.mp h).1;rw[atI_nat (by rw[aLi];exact hk)]
 unfold kD;rw[List.getElem_map,(List.getElem?_eq_some_iff.mp h).2]
theorem bEx{g:Nat}{w:List Nat}{k:Nat}{x:Nat×List Nat}(h:acc[k]?=some x):(bst al acc g w)[k]?=some x:=by
 unfold bst;split
 .rw[List.getElem?_append_left (List.getElem?_eq_some_iff.mp h).1];exact h
 .exact h
theorem aPx(g:Nat)(acc:List (Nat×List Nat)):qP (kD acc) (.int g)=decide (g∈acc.map (·.1)):=by
 unfold qP kD;rw[List.any_map]
 by_cases h:g∈acc.map (·.1)
 .rw[decide_eq_true h,List.any_eq_true];obtain⟨x,hx,e⟩:=List.mem_map.mp h;exact⟨x,hx,by simp[eqK,e]⟩
 .rw[decide_eq_false h,List.any_eq_false];intro x hx;have:¬ (x.1:Int)=(g:Int):=λz=>h (List.mem_map.mpr ⟨x,hx,by omega⟩)
  simp[eqK,this]
end
def wD(acc:List (Nat×List Nat)):List D:=acc.map λx=>D.str x.2
theorem aWs(nd:(acc.map (·.1)).Nodup){x:Nat×List Nat}(hx:x∈acc):uL (kD acc) (wD acc) (.int x.1)=some (.str x.2):=by
 unfold uL kD wD;rw[List.zip_map',List.find?_map];have:acc.find? ((λp:D×D=>eqK p.1 (.int x.1)) ∘ λa=>(D.int (a.1:Nat),D.str a.2))=some x:=by
  induction acc with
  |nil=>cases hx
  |cons y acc ih=>
   rw[List.find?_cons];rw[map_cons,List.nodup_cons]at nd;rcases List.mem_cons.mp hx with rfl|hx
   .simp[eqK]
   .have:¬ (y.1:Int)=(x.1:Int):=λz=>nd.1 (List.mem_map.mpr ⟨x,hx,by omega⟩)
    simp only[Function.comp,eqK,beq_eq_false_iff_ne.mpr this];exact ih nd.2 hx
 rw[this];rfl
section
variable{S:List (List Nat)}{rk:List Nat}{s c p j:Nat}{al:Nat->Bool}{acc:List (Nat×List Nat)}
theorem BM.wlen(b:BM S s c al p j acc):∀(k:Nat)(x:Nat×List Nat),acc[k]?=some x->x.2.length<=k:=by
 intro k
 induction k using strongRecOn with
 |ind k ih=>
  intro x hx
  by_cases hk:k=0
  .subst hk;rw[b.hd]at hx;cases hx;exact Nat.le_refl _
  .obtain⟨_,q,y,ch,h1,h2,_⟩:=b.par k x hx (by omega)
   have hl:x.2.length=y.2.length+1:=by rw[h2];simp
   have hq:q<k:=by
    rcases Nat.lt_trichotomy q k with h|h|h
    .exact h
    .subst h;rw[hx]at h1;cases h1;omega
    .rcases b.ord k q x y hx h1 h with h3|⟨h3,_⟩ <;> omega
   have:=ih q hq y h1;omega
def wst(S:List (List Nat))(s:Nat)(als:List Nat)(acc:List (Nat×List Nat))(p:Nat)(x6 x7 x8:Option Sl):PSt:=
 [some (.v (.lst (stD S))),some (.v (.int s)),some (.v (.lst (nats als))),some (.o (.d false (kD acc)) (wD acc)),some (.o .l (kD acc)),some (.v (.int p)),x6,x7,x8]
theorem bEy(acc:List (Nat×List Nat)):(wD acc).length=acc.length:=by unfold wD;simp
theorem bEz(acc:List (Nat×List Nat))(g:Nat)(w:List Nat):wD (acc++[(g,w)])=wD acc++[.str w]:=by unfold wD;simp
theorem aTy(M:Mch S rk c)(als:List Nat)(b:BM S s c (λg=>decide (g∈als)) p j acc){x:Nat×List Nat}(hx:acc[p]?=some x)(ch g:Nat) :
  pW (wst S s als acc p (some (.v (.int x.1))) (some (.v (.str [ch]))) (some (.v (.int g))))=.ok (.nx (wst S s als (bst (λg=>decide (g∈als)) acc g (x.2++[ch])) p (some (.v (.int x.1))) (some (.v (.str [ch]))) (some (.v (.int g))))):=by
 have n8:=M.most;have hlen:=b.len;have hw:=b.wlen p x hx;have hp:p<acc.length:=(List.getElem?_eq_some_iff.mp hx).1;obtain⟨p1,p2,_⟩:=jN als;have t1:e2 dIn (aB 8) (aB 2) (wst S s als acc p (some (.v (.int x.1))) (some (.v (.str [ch]))) (some (.v (.int g))))=.ok (.bl (decide (g∈als))):=aH rfl rfl (by rw[<-aG5];exact aF ⟨by rw[p2];decide,rfl,p1⟩)
 have t2:e2 wB (aB 8) (dZ 3) (wst S s als acc p (some (.v (.int x.1))) (some (.v (.str [ch]))) (some (.v (.int g))))=.ok (.bl (!decide (g∈acc.map (·.1)))):=aH rfl rfl (by rw[<-aPx];exact aF rfl)
 have t:=aWd t1 λ_=>t2
 unfold bst
 by_cases h:decide (g∈als)=true/\g∉acc.map (·.1)
 .rw[if_pos h];rw[h.1,decide_eq_false h.2]at t;have hk:qP (kD acc) (.int g)=false:=by rw[aPx,decide_eq_false h.2]
  have ek:tL (kD acc) (.int g)=kD (acc++[(g,x.2++[ch])]):=by
   unfold tL;rw[hk,aWr];rfl
  have ev:xN (kD acc) (wD acc) (.int g) (.str (x.2++[ch]))=wD (acc++[(g,x.2++[ch])]):=by
   unfold xN;rw[hk,bEz];rfl
  refine aFu t (aQ (st':=[some (.v (.lst (stD S))),some (.v (.int s)),some (.v (.lst (nats als))),some (.o (.d false (kD (acc++[(g,x.2++[ch])]))) (wD (acc++[(g,x.2++[ch])]))),some (.o .l (kD acc)),some (.v (.int p)),some (.v (.int x.1)),some (.v (.str [ch])),some (.v (.int g))]) ?_ ?_)
  .have e:e2 gD (e2 dIx (dZ 3) (aB 6)) (aB 7) (wst S s als acc p (some (.v (.int x.1))) (some (.v (.str [ch]))) (some (.v (.int g))))=.ok (.str (x.2++[ch])):=by
    refine aH (x:=.str x.2) (y:=.str [ch]) (aH rfl rfl ?_) rfl (aF (dD (by show x.2.length+1<=_;omega)))
    show aY (keyOk false (.int x.1)=true) (ofO (uL (kD acc) (wD acc) (.int x.1)))=_;rw[aF (c:=keyOk false (.int x.1)=true) rfl,aWs b.nd (List.mem_of_getElem? hx)];rfl
   unfold sDPut;rw[e,<-ek,<-ev];exact aF ⟨rfl,aGq (by rw[bEy];omega)⟩
  .rw[aEe (xs:=kD acc) (d:=.int g) rfl rfl (by rw[aLi];omega),<-aWr acc g (x.2++[ch])]
   rfl
 .rw[if_neg h];refine qM (aH7 t ?_) rfl;cases h1:decide (g∈als) with
  |false=>rfl
  |true=>rw[decide_eq_true (Classical.byContradiction λz=>h ⟨h1,z⟩)];rfl
theorem aHf(M:Mch S rk c)(als:List Nat):∀(m j:Nat) (acc:List (Nat×List Nat)) (x7 x8:Option Sl) (x:Nat×List Nat),j+m=c->BM S s c (λg=>decide (g∈als)) p j acc->acc[p]?=some x->
  ∃acc' x7' x8',forR (tgT [7,8]) pW ((List.range' j m).map λl=>D.tup [.str [97+l],.int (stp S x.1 l)]) (wst S s als acc p (some (.v (.int x.1))) x7 x8)=.ok (.nx (wst S s als acc' p (some (.v (.int x.1))) x7' x8'))/\BM S s c (λg=>decide (g∈als)) p c acc'/\acc'[p]?=some x
 |0,j,acc,x7,x8,x,hj,b,hx=>⟨acc,x7,x8,rfl,by rw[show c=j by omega]at b ⊢; exact b,hx⟩
 |m+1,j,acc,x7,x8,x,hj,b,hx=>by
  obtain⟨acc',x7',x8',e,b',hx'⟩:=aHf M als m (j+1) _ (some (.v (.str [97+j]))) (some (.v (.int (stp S x.1 j)))) x (by omega) (b.turn M hx (by omega)) (bEx hx)
  refine⟨acc',x7',x8',?_,b',hx'⟩;rw[List.range'_succ,map_cons,pG];show (pW (wst S s als acc p (some (.v (.int x.1))) (some (.v (.str [97+j]))) (some (.v (.int (stp S x.1 j)))))).bind _=_;rw[aTy M als b hx];exact e
theorem bAi(M:Mch S rk c){h:Nat}(hh:h<S.length):aCm [97,98,99] (nats S[h])=(List.range' 0 c).map λl=>D.tup [.str [97+l],.int (stp S h l)]:=by
 have hr:=(M.row S[h] (List.getElem_mem hh)).1;have e:∀l,stp S h l=S[h].getD l 0:=λl=>by simp[stp,getD_eq_getElem?_getD,List.getElem?_eq_getElem hh]
 have h1:=M.c1;have h3:=M.c3;simp only[e];generalize S[h]=r at hr
 match r,hr with
 |[],hr=>simp at hr;omega
 |[a],hr=>subst hr;rfl
 |[a,b],hr=>subst hr;rfl
 |[a,b,d],hr=>subst hr;rfl
 |_::_::_::_::r,hr=>simp at hr;omega
theorem aHg(M:Mch S rk c)(als:List Nat):∀(m p:Nat) (acc:List (Nat×List Nat)) (x6 x7 x8:Option Sl) (f:Nat),S.length+1<=m+p->m<=f->BM S s c (λg=>decide (g∈als)) p 0 acc->p<=acc.length->
  ∃acc' x6' x7' x8',nA uN aBa f (wst S s als acc p x6 x7 x8)=.ok (.nx (wst S s als acc' acc'.length x6' x7' x8'))/\BM S s c (λg=>decide (g∈als)) acc'.length 0 acc'
 |0,p,acc,x6,x7,x8,f,hm,hf,b,hp=>by have:=b.len;omega
 |m+1,p,acc,x6,x7,x8,f,hm,hf,b,hp=>by
  obtain⟨f,rfl⟩:∃g,f=g+1:=⟨f-1,by omega⟩
  have test:uN (wst S s als acc p x6 x7 x8)=.ok (.bl (decide ((p:Int)<((kD acc).length:Nat)))):=aH rfl rfl rfl;rw[aLi]at test
  by_cases h:p<acc.length
  .have hx:acc[p]?=some acc[p]:=List.getElem?_eq_getElem h;generalize acc[p]=x at hx;obtain⟨l1,_,_⟩:=b.lt x (List.mem_of_getElem? hx);obtain⟨acc',x7',x8',e,b',hx'⟩:=aHf M als c 0 acc x7 x8 x (by omega) b hx
   have hp':p<acc'.length:=(List.getElem?_eq_some_iff.mp hx').1;obtain⟨acc2,y6,y7,y8,ew,b3⟩:=aHg M als m (p+1) acc' (some (.v (.int x.1))) x7' x8' f (by omega) (by omega) b'.next (by omega)
   refine⟨acc2,y6,y7,y8,aWe (aH7 test (bI4 h)) (st':=wst S s als acc' (p+1) (some (.v (.int x.1))) x7' x8') ?_ ew,b3⟩;refine aQ (st':=wst S s als acc p (some (.v (.int x.1))) x7 x8) (bK (aH rfl rfl (eX (bI7 hx)))) (aQ (st':=wst S s als acc' p (some (.v (.int x.1))) x7' x8') (iK (xs:=aCm [97,98,99] (nats S[x.1])) ?_ ?_) (bK rfl))
   .show ((e2 dIx (aB 0) (aB 6)) (wst S s als acc p (some (.v (.int x.1))) x7 x8)).bind _=_;rw[aH (rfl:aB 0 (wst S s als acc p (some (.v (.int x.1))) x7 x8)=.ok (.lst (stD S))) rfl (eX (aH9 l1))];rfl
   .rw[bAi M l1];exact e
  .have:p=acc.length:=by omega
   subst this;exact⟨acc,x6,x7,x8,aTu (aH7 test (bI5 h)),b⟩
theorem aRq(M:Mch S rk c){s:Nat}(hs:s<S.length)(als:List Nat):∃acc,kO [.lst (stD S),.int s,.lst (nats als)]=.ok (.dct false (kD acc) (wD acc))/\BM S s c (λg=>decide (g∈als)) acc.length 0 acc:=by
 have n8:=M.most;obtain⟨acc,x6,x7,x8,e,b⟩:=aHg M als (S.length+1) 0 [(s,[])] none none none 100000 (by omega) (by omega) (BM.start hs) (by simp)
 refine⟨acc,bT rfl ?_,b⟩;unfold zB;refine aQ (st':=[some (.v (.lst (stD S))),some (.v (.int s)),some (.v (.lst (nats als))),some (.o (.d false (kD [(s,[])])) (wD [(s,[])])),none,none,none,none,none]) (by simp[aPs,aVz,atom,kD,wD]) ?_
 refine aQ (st':=[some (.v (.lst (stD S))),some (.v (.int s)),some (.v (.lst (nats als))),some (.o (.d false (kD [(s,[])])) (wD [(s,[])])),some (.o .l (kD [(s,[])])),none,none,none,none]) (by simp[kD]) ?_
 refine aQ (st':=wst S s als [(s,[])] 0 none none none) (by simp[wst]) ?_
 refine aQ (st':=wst S s als acc acc.length x6 x7 x8) (by rw[aTr];exact e) ?_
 simp[wst,ofK]
end
def prD(acc:List (Nat×List Nat)):List D:=acc.map λx=>D.tup [.int (x.1:Nat),.str x.2]
theorem aWt:∀acc:List (Nat×List Nat),List.zipWith (λk d=>D.tup [k,d]) (kD acc) (wD acc)=prD acc
 |[]=>rfl
 |x::l=>congrArg (D.tup [.int (x.1:Nat),.str x.2] :: ·) (aWt l)
theorem bAj(acc:List (Nat×List Nat)):(prD acc).length=acc.length:=by unfold prD;rw[length_map]
section
variable{S:List (List Nat)}{rk:List Nat}{c:Nat}{acc:List (Nat×List Nat)}
abbrev bF0(S:List (List Nat))(c:Nat)(acc:List (Nat×List Nat)):Prop:=BM S 0 c (λg=>decide (g∈List.range S.length)) acc.length 0 acc
theorem aPy(M:Mch S rk c):∃acc,mW [mD S rk c]=.ok (.lst (prD acc))/\bF0 S c acc:=by
 have n8:=M.most;obtain⟨acc,e,b⟩:=aRq M (show 0<S.length from M.one) (List.range S.length)
 have hl:=b.len;refine⟨acc,bT rfl ?_,b⟩;have h1:lN [some (.v (mD S rk c)),none]=.ok (.nx [some (.v (mD S rk c)),some (.v (.dct false (kD acc) (wD acc)))]):=by
  refine aQ (st':=[some (.v (mD S rk c)),some (.v (.dct false (kD acc) (wD acc)))]) (bK (aV (aP (show fD "Machine" "steps" (mD S rk c)=_ from pN) (aP rfl (aP (d:=.lst (nats (List.range S.length))) ?_ rfl))) e)) rfl
  show R.bind (fD "Machine" "many" (mD S rk c)) aCn=_;rw[vI,aM,<-(show pF 0 S.length=nats (List.range S.length) by rw[zH];rfl)]
  exact aF ⟨aL1 (by omega),aG3 (by omega)⟩
 show tQ lN (e1 aGy (aB 1)) [some (.v (mD S rk c)),none]=_;unfold tQ;rw[h1];show R.bind (aY ((kD acc).length<=big) (.ok (D.lst (List.zipWith (λk d=>D.tup [k,d]) (kD acc) (wD acc))))) _=_
 rw[aF (dD (by rw[aLi];omega)),aWt]
 rfl
theorem bF0.wl(M:Mch S rk c)(b:bF0 S c acc){x:Nat×List Nat}(hx:x∈acc):x.2.length<=8:=by
 obtain⟨k,hk⟩:=List.mem_iff_getElem?.mp hx;have h1:=b.wlen k x hk;have h2:=(List.getElem?_eq_some_iff.mp hk).1;have h3:=b.len;have h4:=M.most;omega
end
def orN(l:List Nat):Nat->Nat:=λb=>l.foldl (λb r=>b|||2^r) b
theorem aRr(r:Nat):∀(l:List Nat)(b:Nat),(orN l b).testBit r=(b.testBit r||decide (r∈l))
 |[],b=>by simp[orN]
 |x::l,b=>by
  show (orN l (b|||2^x)).testBit r=_
  rw[aRr r l,testBit_or,Nat.testBit_two_pow]
  by_cases h:x=r
  .simp[h]
  .have h':¬ r=x:=λz=>h z.symm
   simp[h,h']
def cX(l:List Nat):Nat:=orN l 0
theorem iD(l:List Nat)(r:Nat):(cX l).testBit r=decide (r∈l):=by
 unfold cX;rw[aRr,zero_testBit,Bool.false_or]
theorem bAk{l':List Nat}(h:∀r,r∈l↔r∈l'):cX l=cX l':=eq_of_testBit_eq λr=>by
 rw[iD,iD,decide_eq_decide.mpr (h r)]
def aX(n:Nat):List Nat:=(List.range (vC n)).filter λr=>n.testBit r
theorem aWu(h:vC n<=r):n.testBit r=false:=by
 unfold vC at h
 by_cases h0:(n:Int)=0
 .have:n=0:=by omega
  rw[this,zero_testBit]
 .rw[if_neg h0]at h;have hn:n≠0:=λz=>h0 (by rw[z];rfl)
  have h1:n<2^(n.log2+1):=(Nat.log2_lt hn).mp (Nat.lt_succ_self _);exact Nat.testBit_lt_two_pow (Nat.lt_of_lt_of_le h1 (Nat.pow_le_pow_right (by decide) (by simpa using h)))
theorem aZ:r∈aX n↔n.testBit r=true:=by
 unfold aX;rw[List.mem_filter,List.mem_range];refine⟨λh=>h.2,λh=>⟨?_,h⟩⟩
 rcases Nat.lt_or_ge r (vC n) with h1|h1
 .exact h1
 .rw[aWu h1]at h;cases h
theorem pO(n:Nat):cX (aX n)=n:=eq_of_testBit_eq λr=>by
 rw[iD];cases h:n.testBit r with
 |true=>exact decide_eq_true (aZ.mpr h)
 |false=>exact decide_eq_false λz=>by rw[aZ.mp z]at h;cases h
theorem pP:r∈aX (cX l)↔r∈l:=by
 rw[aZ,iD,decide_eq_true_eq]
theorem cD{k:Nat}(h:n<2^k)(hr:r∈aX n):r<k:=by
 rw[aZ]at hr;rcases Nat.lt_or_ge r k with h1|h1
 .exact h1
 .rw[Nat.testBit_lt_two_pow (Nat.lt_of_lt_of_le h (Nat.pow_le_pow_right (by decide) h1))]at hr
  cases hr
theorem aWv{k:Nat}(h:n<2^k):vC n<=k:=by
 unfold vC
 by_cases h0:(n:Int)=0
 .rw[if_pos h0];exact zero_le _
 .rw[if_neg h0];have hn:n≠0:=λz=>h0 (by rw[z];rfl)
  have:n.log2<k:=(Nat.log2_lt hn).mpr h;show (n:Int).natAbs.log2+1<=k;rw[Int.natAbs_natCast];omega
@[simp] theorem aWw(i j:Int):aN7 (.int i) (.int j)=aY (0<=j/\j<=1000000/\i.natAbs<18446744073709551616) (.ok (.int (i*2^j.toNat))):=rfl
@[simp] theorem bI8(i j:Int):aTt (.int i) (.int j)=aY (0<=j) (.ok (.int (i/2^j.toNat))):=rfl
@[simp] theorem aWx(i j:Int):aL5 (.int i) (.int j)=aY (0<=i/\0<=j) (.ok (.int ((i.toNat&&&j.toNat:Nat):Int))):=rfl
@[simp] theorem bAl(i j:Int):dOr (.int i) (.int j)=aY (0<=i/\0<=j) (.ok (.int ((i.toNat|||j.toNat:Nat):Int))):=rfl
@[simp] theorem bD1(i:Int):aG4 (.int i)=.ok (.int (vC i:Nat)):=rfl
theorem aWy(n r:Nat):(((n:Int)/2^r).toNat&&&(1:Int).toNat)=if n.testBit r=true then 1 else 0:=by
 have e:((n:Int)/2^r).toNat=n/2^r:=by
  have:(n:Int)/2^r=((n/2^r:Nat):Int):=by push_cast;rfl
  rw[this,toNat_natCast]
 rw[e,show (1:Int).toNat=1 from rfl,Nat.and_one_is_mod,Nat.testBit_eq_decide_div_mod_eq]
 by_cases h:n/2^r%2=1
 .simp[h]
 .have:n/2^r%2=0:=by omega
  simp[this]
theorem zM(n r:Nat):fU [.int n,.int r]=.ok (.bl (n.testBit r)):=by
 have hb:=aWy n r;have h0:0<=(n:Int)/2^r:=Int.ediv_nonneg (by omega) (Int.pow_nonneg (by decide))
 refine bT rfl ?_
 unfold aBv;show cY _ [some (.v (.int n)),some (.v (.int r))]=_;have e1:e2 aTt (aB 0) (aB 1) [some (.v (.int n)),some (.v (.int r))]=.ok (.int ((n:Int)/2^r)):=by simp
 have e2':e2 aL5 (e2 aTt (aB 0) (aB 1)) (eC (.int 1)) [some (.v (.int n)),some (.v (.int r))]=.ok (.int ((if n.testBit r=true then 1 else 0:Nat):Int)):=by
  rw[aN4,e1,aM,bCt,aM,aWx,aF ⟨h0,by decide⟩,hb]
 rw[wC,aN4,e2'];cases n.testBit r<;>simp
theorem lB{tg:Tg}{C E:Ex}{st:PSt}{q:Nat->Bool}{G:Nat->D}:∀(ks:List Nat),(∀k∈ks,∃s1,tg (.int k) st=.ok s1/\C s1=.ok (.bl (q k))/\E s1=.ok (G k))->jY tg C E st (nats ks)=.ok ((ks.filter q).map G)
 |[],_=>rfl
 |k::ks,h=>by
  obtain⟨s1,e1,e2,e3⟩:=h k mem_cons_self;have ih:=lB ks λk hk=>h k (mem_cons_of_mem _ hk)
  show jY tg C E st (.int k::nats ks)=_;rw[nD,e1];cases hq:q k with
  |true=>
   rw[filter_cons_of_pos hq,map_cons];simp[e2,e3,hq,ih]
  |false=>
   rw[filter_cons_of_neg (by rw[hq];decide)]
   simp[e2,hq,ih]
theorem aFc(n:Nat):pF 0 n=nats (List.range n):=by
 rw[zH];rfl
theorem mL{k:Nat}(h:n<2^k)(hk:k<=2000):cA [.int n]=.ok (.lst (nats (aX n))):=by
 have hb:=aWv h;have e:=lB (tg:=tgN 1) (C:=wH) (E:=wG) (st:=[some (.v (.int n)),none]) (q:=λr=>n.testBit r) (G:=λr=>.int r) (List.range (vC n)) (λr _=>⟨_,rfl,by
  simp[wH,zM n r],by simp[wG]⟩)
 refine bT rfl ?_
 unfold aBw;show cY _ [some (.v (.int n)),none]=_;have hi:yG (e1 aG4 (aB 0)) [some (.v (.int n)),none]=.ok (nats (List.range (vC n))):=by
  simp[show ((vC n:Nat):Int)<=(big:Int) from aG3 (by omega)]
  exact aFc _
 rw[wC,aGv,hi];simp only[aM,bM,length_range];rw[aF (dD (by omega)),show clr [1] [some (Sl.v (D.int n)),none]=[some (.v (.int n)),none] from rfl,e]
 rfl
theorem aJu(a:Option Sl):∀(l:List Nat)(b:Nat)(x2:Option Sl),(∀r∈l,r<=1000000)->∃x2',forR (tgN 2) nR (nats l) [a,some (.v (.int b)),x2]=.ok (.nx [a,some (.v (.int (orN l b))),x2'])
 |[],b,x2,_=>⟨x2,rfl⟩
 |r::l,b,x2,h=>by
  obtain⟨x2',e⟩:=aJu a l (b|||2^r) (some (.v (.int r))) λr hr=>h r (mem_cons_of_mem _ hr)
  refine⟨x2',?_⟩;have hr:=h r mem_cons_self;have hr':(r:Int)<=1000000:=by omega
  have ee:((1:Int)*2^(r:Int).toNat)=((2^r:Nat):Int):=by push_cast;simp
  show forR (tgN 2) nR (.int r::nats l) _=_;rw[pG];have e3:(2:Int)^r=((2^r:Nat):Int):=by push_cast;rfl
  have t:nR [a,some (.v (.int b)),some (.v (.int r))]=.ok (.nx [a,some (.v (.int ((b|||2^r:Nat):Int))),some (.v (.int r))]):=by
   have h1:e2 aN7 (eC (.int 1)) (aB 2) [a,some (.v (.int b)),some (.v (.int r))]=.ok (.int ((2^r:Nat):Int)):=by
    simp only[aN4,bCt,aR4,aM,getElem?_cons_succ,List.getElem?_cons_zero];rw[aWw,aF ⟨by omega,hr',by decide⟩,ee]
   unfold nR;rw[aR8,aN4,h1];simp only[aR4,aM,getElem?_cons_succ,List.getElem?_cons_zero];rw[bAl,aF ⟨Int.natCast_nonneg _,Int.natCast_nonneg _⟩,toNat_natCast,toNat_natCast];rfl
  show (nR [a,some (.v (.int b)),some (.v (.int r))]).bind _=_;rw[t];exact e
theorem aD8{l:List Nat}(h:∀r∈l,r<=1000000)(hl:l.length<=1000000):jR [.lst (nats l)]=.ok (.int (cX l)):=by
 obtain⟨x2',e⟩:=aJu (some (.v (.lst (nats l)))) l 0 none h;refine bT rfl ?_
 unfold aEa;refine aQ (st':=[some (.v (.lst (nats l))),some (.v (.int 0)),none]) (by simp) ?_
 refine aQ (st':=[some (.v (.lst (nats l))),some (.v (.int (cX l))),x2']) ?_ (by simp)
 rw[aR9,show itE (aB 0) [some (Sl.v (D.lst (nats l))),some (.v (.int 0)),none]=.ok (nats l) from rfl,aM]
 exact e
inductive Rch (S:List (List Nat)) (c:Nat) (al:Nat->Bool) (s:Nat):Nat->Prop where
 |here:Rch S c al s s
 |on {r l:Nat}:Rch S c al s r->l<c->al (stp S r l)=true->Rch S c al s (stp S r l)
theorem fV(n:Nat):(aX n).Nodup:=List.nodup_range.filter _
theorem aAi{l:List Nat}{k:Nat}(h:∀r∈l,r<k):cX l<2^k:=Nat.lt_pow_two_of_testBit _ λr hr=>by
 rw[iD];exact decide_eq_false λz=>by have:=h r z;omega
open Classical in
noncomputable def fW(S:List (List Nat))(c n r:Nat):Nat:=cX ((List.range S.length).filter λg=>decide (Rch S c (λg=>n.testBit g) r g))
section
variable {c:Nat}
theorem aEi(M:Mch S rk c) {s g:Nat} (hs:s<S.length) (h:Rch S c al s g):g<S.length:=by
 induction h with
 |here=>exact hs
 |on _ hl _ ih=>obtain⟨_,_,_,h⟩:=aLh M ih hl;exact h
theorem aLj{s g:Nat}(hs:al s=true)(h:Rch S c al s g):al g=true:=by
 cases h with
 |here=>exact hs
 |on _ _ ha=>exact ha
open Classical in
theorem gU(M:Mch S rk c){r:Nat}(hr:r<S.length)(g:Nat):(fW S c n r).testBit g=true↔Rch S c (λg=>n.testBit g) r g:=by
 unfold fW;rw[iD,decide_eq_true_eq,List.mem_filter,List.mem_range,decide_eq_true_eq];exact⟨λh=>h.2,λh=>⟨aEi M hr h,h⟩⟩
theorem zN:fW S c n r<2^S.length:=aAi λg hg=>List.mem_range.mp (List.mem_filter.mp hg).1
theorem aHh(M:Mch S rk c){a b:Nat}(ha:a<S.length):b∈S.getD a []↔∃l,l<c/\stp S a l=b:=by
 have hr:=(M.row S[a] (List.getElem_mem ha)).1;have hg:S.getD a []=S[a]:=by rw[getD_eq_getElem?_getD,List.getElem?_eq_getElem ha];rfl
 have e:∀l,stp S a l=S[a].getD l 0:=λl=>by unfold stp;rw[hg]
 rw[hg];constructor
 .intro h;obtain⟨l,hl,rfl⟩:=List.mem_iff_getElem.mp h;exact⟨l,by omega,by rw[e,getD_eq_getElem?_getD,List.getElem?_eq_getElem hl];rfl⟩
 .rintro⟨l,hl,rfl⟩;have hl':l<S[a].length:=by omega
  rw[e,getD_eq_getElem?_getD,List.getElem?_eq_getElem hl'];exact List.getElem_mem hl'
theorem Rch.trans{a b d:Nat}(h1:Rch S c al a b)(h2:Rch S c al b d):Rch S c al a d:=by
 induction h2 with
 |here=>exact h1
 |on _ hl ha ih=>exact .on ih hl ha
end
theorem bF1(g:Nat)(l:List Nat):dIn (.int g) (.lst (nats l))=.ok (.bl (decide (g∈l))):=by
 obtain⟨p1,p2,_⟩:=jN l;rw[<-aG5];exact aF ⟨by rw[p2];exact zero_le 60,rfl,p1⟩
theorem bF2(h:n<=1000000):aN7 (.int 1) (.int n)=.ok (.int ((2^n:Nat):Int)):=by
 have e:((2^n:Nat):Int)=1*2^(n:Int).toNat:=by rw[Int.one_mul,toNat_natCast];push_cast;rfl
 rw[e];exact aF ⟨by omega,by omega,by decide⟩
theorem aRs(a b:Nat):aL5 (.int a) (.int b)=.ok (.int ((a&&&b:Nat):Int)):=by
 rw[<-toNat_natCast a,<-toNat_natCast b];exact aF ⟨by omega,by omega⟩
theorem aNk(g:Nat)(l:List Nat):qP (nats l) (.int g)=decide (g∈l):=by
 unfold qP nats;rw[List.any_map]
 by_cases h:g∈l
 .rw[decide_eq_true h,List.any_eq_true];exact⟨g,h,by simp[eqK]⟩
 .rw[decide_eq_false h,List.any_eq_false];intro x hx
  have : ¬ (x : Int) = (g : Int) := fun z => h (by have e : x = g := by omega
                                                   rw[<-e];exact hx)
  simp[eqK,this]
theorem zO(V:Nat->D){g:Nat}:∀{l:List Nat},g∈l->uL (nats l) (l.map V) (.int g)=some (V g)
 |[],h=>nomatch h
 |x::l,h=>by
  show uL (.int x::nats l) (V x::l.map V) (.int g)=_;unfold uL;rw[zip_cons_cons,List.find?_cons]
  by_cases e:x=g
  .simp[eqK,e]
  .have:¬ (x:Int)=(g:Int):=by omega
   simp only[eqK,beq_eq_false_iff_ne.mpr this];exact zO V ((List.mem_cons.mp h).resolve_left λz=>e z.symm)
theorem oH(l:List Nat)(x:Nat):nats (l++[x])=nats l++[.int x]:=by unfold nats;simp
theorem aD9{ks vs:List D}{g:Nat} (h:uL ks vs (.int g)=some d):dIx (.dct false ks vs) (.int g)=.ok d:=by
 show aY (keyOk false (.int g)=true) (ofO (uL ks vs (.int g)))=_;rw[aF (c:=keyOk false (.int g)=true) rfl,h];rfl
section
variable {s c p:Nat}
theorem BM.sound(b:BM S s c al p j acc):∀(k:Nat)(x:Nat×List Nat),acc[k]?=some x->Rch S c al s x.1:=by
 intro k
 induction k using strongRecOn with
 |ind k ih=>
  intro x hx
  by_cases hk:k=0
  .subst hk;rw[b.hd]at hx;cases hx;exact .here
  .obtain⟨h0,q,y,ch,h1,h2,_⟩:=b.par k x hx (by omega)
   have hl:x.2.length=y.2.length+1:=by rw[h2];simp
   have hq:q<k:=by
    rcases Nat.lt_trichotomy q k with h|h|h
    .exact h
    .subst h;rw[hx]at h1;cases h1;omega
    .rcases b.ord k q x y hx h1 h with h3|⟨h3,_⟩ <;> omega
   obtain⟨_,x2,x3⟩:=b.lt x (List.mem_of_getElem? hx);obtain⟨_,y2,_⟩:=b.lt y (List.mem_of_getElem? h1);have hch:=x3 ch (by rw[h2];simp)
   have e:x.1=stp S y.1 (ch-97):=by rw[<-x2,h2,aAh,y2]
   rw[e]at h0 ⊢;exact .on (ih q hq y h1) (by omega) h0
theorem BM.whole(b:BM S s c al acc.length 0 acc){g:Nat}:g∈acc.map (·.1)↔Rch S c al s g:=by
 constructor
 .intro h;obtain⟨x,hx,rfl⟩:=List.mem_map.mp h;obtain⟨k,hk⟩:=List.mem_iff_getElem?.mp hx;exact b.sound k x hk
 .intro h
  induction h with
  |here=>exact List.mem_map.mpr ⟨_,List.mem_of_getElem? b.hd,rfl⟩
  |on _ hl ha ih=>
   obtain⟨x,hx,rfl⟩:=List.mem_map.mp ih;obtain⟨k,hk⟩:=List.mem_iff_getElem?.mp hx;obtain⟨y,h1,h2,_⟩:=b.cls k x _ hk hl (.inl (List.getElem?_eq_some_iff.mp hk).1) ha;exact List.mem_map.mpr ⟨y,h1,h2⟩
theorem aTz{al':Nat->Bool}(h:∀g,al g=al' g){g:Nat}:Rch S c al s g↔Rch S c al' s g:=by
 have:al=al':=funext h;rw[this]
end
inductive Pw (B:Nat->Nat->Prop) (K:Nat->Prop):Nat->Nat->Prop where
 |one {a b:Nat}:B a b->Pw B K a b
 |mid {a m b:Nat}:K m->Pw B K a m->Pw B K m b->Pw B K a b
theorem Pw.cut{B:Nat->Nat->Prop}{K K':Nat->Prop}{k a b:Nat}(hK:∀m,K' m->K m\/m=k)(h:Pw B K' a b):Pw B K a b\/(Pw B K a k/\Pw B K k b):=by
 induction h with
 |one h=>exact .inl (.one h)
 |mid hm _ _ i1 i2=>
  rename_i a m b _ _;rcases hK m hm with hm|rfl
  .rcases i1 with x|⟨x1,x2⟩
   .rcases i2 with y|⟨y1,y2⟩
    .exact .inl (.mid hm x y)
    .exact .inr ⟨.mid hm x y1,y2⟩
   .rcases i2 with y|⟨y1,y2⟩
    .exact .inr ⟨x1,.mid hm x2 y⟩
    .exact .inr ⟨x1,y2⟩
  .exact .inr ⟨i1.elim id λz=>z.1,i2.elim id λz=>z.2⟩
theorem Pw.mono{B:Nat->Nat->Prop}{K K':Nat->Prop}{a b:Nat}(hK:∀m,K m->K' m)(h:Pw B K a b):Pw B K' a b:=by
 induction h with
 |one h=>exact .one h
 |mid hm _ _ i1 i2=>exact .mid (hK _ hm) i1 i2
def jE(V:Nat->Nat)(m:Nat):Nat->Nat:=λr=>if (V r).testBit m=true then V r|||V m else V r
theorem aRt{B:Nat->Nat->Prop}{R:Nat->Prop}(hR:∀a b,R a->B a b->R b):∀(ks ds:List Nat)(V:Nat->Nat),(∀k∈ks,R k)->(∀r,R r->∀g,(V r).testBit g=true↔Pw B (· ∈ ds) r g)->∀r,R r->∀g,((ks.foldl jE V) r).testBit g=true↔Pw B (· ∈ ds++ks) r g
 |[],ds,V,_,h,r,hr,g=>by rw[append_nil];exact h r hr g
 |k::ks,ds,V,hk,h,r,hr,g=>by
  have e:ds++k::ks=(ds++[k])++ks:=by simp
  rw[e];refine aRt hR ks (ds++[k]) (jE V k) (λx hx=>hk x (mem_cons_of_mem _ hx)) (λr hr g=>?_) r hr g
  have hk':=hk k mem_cons_self;have up:∀{a b:Nat},Pw B (· ∈ ds) a b->Pw B (· ∈ ds++[k]) a b:=λz=>z.mono λm hm=>List.mem_append_left _ hm
  have in_k:k∈ds++[k]:=by simp
  unfold jE
  by_cases hb:(V r).testBit k=true
  .rw[if_pos hb,testBit_or,or_eq_true,h r hr g,h k hk' g];constructor
   .rintro(z|z)
    .exact up z
    .exact .mid in_k (up ((h r hr k).mp hb)) (up z)
   .intro z;rcases z.cut (K:=(· ∈ ds)) (k:=k) (λm hm=>by simpa using hm) with y|⟨_,y⟩
    .exact .inl y
    .exact .inr y
  .rw[if_neg hb,h r hr g];constructor
   .exact up
   .intro z;rcases z.cut (K:=(· ∈ ds)) (k:=k) (λm hm=>by simpa using hm) with y|⟨y,_⟩
    .exact y
    .exact absurd ((h r hr k).mpr y) hb
section
variable{S:List (List Nat)}{rk:List Nat}{c n:Nat}
def rC(S:List (List Nat))(n:Nat):Nat->Nat:=λr=>(cX (S.getD r [])|||2^r)&&&n
theorem aWz{g:Nat}:(rC S n r).testBit g=true↔(r=g\/g∈S.getD r [])/\n.testBit g=true:=by
 unfold rC;rw[testBit_and,testBit_or,iD,Nat.testBit_two_pow,and_eq_true,or_eq_true,decide_eq_true_eq,decide_eq_true_eq];exact⟨λh=>⟨h.1.symm,h.2⟩,λh=>⟨h.1.symm,h.2⟩⟩
theorem aU0(M:Mch S rk c)(hn:n<2^S.length) (hr:r∈aX n) (g:Nat):(((aX n).foldl jE (rC S n)) r).testBit g=true↔Rch S c (λg=>n.testBit g) r g:=by
 have hp:=aRt (B:=λa b=>(a=b\/b∈S.getD a [])/\n.testBit b=true) (R:=(· ∈ aX n)) (λa b _ h=>aZ.mpr h.2) (aX n) [] (rC S n) (λk hk=>hk) (λr _ g=>by
  rw[aWz];constructor
  .exact λh=>.one h
  .intro h;cases h with
   |one h=>exact h
   |mid h _ _=>cases h) r hr g
 rw[hp,nil_append];clear hp;constructor
 .intro h;have hi:∀{a b:Nat},Pw (λa b=>(a=b\/b∈S.getD a [])/\n.testBit b=true) (· ∈ aX n) a b->a∈aX n->Rch S c (λg=>n.testBit g) a b:=by
   intro a b h
   induction h with
   |one h=>
    intro ha;obtain⟨rfl|h1,h2⟩:=h
    .exact .here
    .obtain⟨l,hl,rfl⟩:=(aHh M (cD hn ha)).mp h1;exact .on .here hl h2
   |mid hm _ _ i1 i2=>exact λha=>Rch.trans (i1 ha) (i2 hm)
  exact hi h hr
 .intro h
  induction h with
  |here=>exact .one ⟨.inl rfl,aZ.mp hr⟩
  |on h1 hl ha ih=>
   have hx:_∈aX n:=aZ.mpr (aLj (al:=λg=>n.testBit g) (aZ.mp hr) h1)
   exact .mid hx ih (.one ⟨.inr ((aHh M (cD hn hx)).mpr ⟨_,hl,rfl⟩),ha⟩)
theorem aX0(M:Mch S rk c)(hn:n<2^S.length) (hr:r∈aX n):((aX n).foldl jE (rC S n)) r=fW S c n r:=eq_of_testBit_eq λg=>by
 have e:=(aU0 M hn hr g).trans (gU M (cD hn hr) g).symm;cases h1:(((aX n).foldl jE (rC S n)) r).testBit g with
 |true=>exact(e.mp h1).symm
 |false=>
  cases h2:(fW S c n r).testBit g with
  |true=>rw[e.mpr h2]at h1;cases h1
  |false=>rfl
theorem aRu(a b:Nat):dOr (.int a) (.int b)=.ok (.int ((a|||b:Nat):Int)):=by
 rw[<-toNat_natCast a,<-toNat_natCast b];exact aF ⟨by omega,by omega⟩
def yJ(S:List (List Nat))(n:Nat)(ks:List Nat)(V:Nat->Nat)(x4 x5:Option Sl):PSt:=[some (.v (.lst (stD S))),some (.v (.int n)),some (.v (.lst (nats (aX n)))),some (.o (.d false (nats ks)) (ks.map λr=>D.int (V r:Nat))),x4,x5]
theorem bAm{V:Nat->Nat}{r:Nat}{x:D}(hr:r∉ks):tL (nats ks) (.int r)=nats (ks++[r])/\xN (nats ks) (ks.map λr=>D.int (V r:Nat)) (.int r) x=(ks.map λr=>D.int (V r:Nat))++[x]:=by
 have hk:qP (nats ks) (.int r)=false:=by rw[aNk,decide_eq_false hr]
 unfold tL xN;rw[hk,oH];exact⟨rfl,rfl⟩
theorem bAn{V:Nat->Nat}{r x:Nat}(hr:r∈ks):tL (nats ks) (.int r)=nats ks/\xN (nats ks) (ks.map λr=>D.int (V r:Nat)) (.int r) (.int x)=ks.map λk=>D.int ((if k=r then x else V k:Nat):Int):=by
 have hk:qP (nats ks) (.int r)=true:=by rw[aNk,decide_eq_true hr]
 unfold tL xN;rw[hk,if_pos rfl,if_pos rfl];refine⟨rfl,?_⟩;unfold nats;rw[List.zip_map',List.map_map];refine List.map_congr_left λk _=>?_
 show (if eqK (.int (k:Int)) (.int (r:Int))=true then D.int (x:Int) else D.int (V k:Int))=_
 by_cases e:k=r
 .rw[if_pos e,if_pos (by rw[e];simp[eqK])]
 .have:¬ (k:Int)=(r:Int):=by omega
  rw[if_neg e,if_neg (by simp[eqK,this])]
theorem aRv{st:PSt}{k:D}{ks vs:List D}(hf:f st=.ok d)(hg:g st=.ok k)(hs:st[i]?=some (some (.o (.d false ks) vs)))(hk:keyOk false k=true)(hl:vs.length<1000):sDPut i g f st=.ok (.nx (st.set i (some (.o (.d false (tL ks k)) (xN ks vs k d))))):=by
 unfold sDPut;rw[hf,aM,hg,aM,hs];exact aF ⟨hk,aGq (by omega)⟩
theorem aJv(M:Mch S rk c):∀(rs ks:List Nat)(x4:Option Sl),(ks++rs).Nodup->(∀r∈ks++rs,r<S.length)->∃x4',forR (tgN 4) yZ (nats rs) (yJ S n ks (rC S n) x4 none)=.ok (.nx (yJ S n (ks++rs) (rC S n) x4' none))
 |[],ks,x4,_,_=>⟨x4,by rw[append_nil];rfl⟩
 |r::rs,ks,x4,nd,hl=>by
  have n8:=M.most;have h1:ks++r::rs=(ks++[r])++rs:=by simp
  rw[h1]at nd hl;obtain⟨x4',e⟩:=aJv M rs (ks++[r]) (some (.v (.int r))) nd hl;refine⟨x4',?_⟩;rw[h1];have hr:r∉ks:=λz=>(List.nodup_append.mp (List.nodup_append.mp nd).1).2.2 r z r (List.mem_singleton.mpr rfl) rfl
  have hrl:r<S.length:=hl r (by simp)
  have hlen:ks.length<=S.length:=mK S.length ks (List.nodup_append.mp (List.nodup_append.mp nd).1).1 λx hx=>hl x (by simp[hx])
  have hg:S.getD r []=S[r]:=by rw[getD_eq_getElem?_getD,List.getElem?_eq_getElem hrl];rfl
  have hrow:=M.row S[r] (List.getElem_mem hrl);have c3:=M.c3;have hb:=aD8 (l:=S[r]) (λx hx=>by have:=hrow.2 x hx;omega) (by rw[hrow.1];omega)
  obtain⟨p1,p2⟩:=bAm (V:=rC S n) (x:=.int (rC S n r:Nat)) hr;refine jM rfl (s2:=yJ S n (ks++[r]) (rC S n) (some (.v (.int r))) none) ?_ e;have hv:e2 aL5 (e2 dOr (aW jR (aC (e2 dIx (aB 0) (aB 4)) aU)) (e2 aN7 (eC (.int 1)) (aB 4))) (aB 1) (yJ S n ks (rC S n) (some (.v (.int r))) none)=.ok (.int (rC S n r:Nat)):=by
   unfold rC;rw[hg];exact aH (aH (aV (aP (aH rfl rfl (eX (aH9 hrl))) rfl) hb) (aH rfl rfl (bF2 (by omega))) (aRu _ _)) rfl (aRs _ _)
  refine(aRv hv rfl rfl rfl (by rw[length_map];omega)).trans ?_
  rw[p1,p2];unfold yJ;rw[List.map_append];rfl
theorem aU1{V:Nat->Nat} (hl:ks.length<1000) (hr:r∈ks) (hm:m∈ks):oA (yJ S n ks V (some (.v (.int r))) (some (.v (.int m))))=.ok (.nx (yJ S n ks (λk=>if k=r then jE V m r else V k) (some (.v (.int r))) (some (.v (.int m))))):=by
 have gr:e2 dIx (dZ 3) (aB 4) (yJ S n ks V (some (.v (.int r))) (some (.v (.int m))))=.ok (.int (V r:Nat)):=aH rfl rfl (aD9 (zO (λr=>D.int (V r:Nat)) hr))
 have gm:e2 dIx (dZ 3) (aB 5) (yJ S n ks V (some (.v (.int r))) (some (.v (.int m))))=.ok (.int (V m:Nat)):=aH rfl rfl (aD9 (zO (λr=>D.int (V r:Nat)) hm))
 have t:=aV (aP gr (show aC (aB 5) aU (yJ S n ks V (some (.v (.int r))) (some (.v (.int m))))=.ok [.int m] from rfl)) (zM (V r) m)
 by_cases hb:(V r).testBit m=true
 .rw[hb]at t;obtain⟨p1,p2⟩:=bAn (V:=V) (x:=V r|||V m) hr
  refine aFu t ((aRv (aH gr gm (aRu _ _)) rfl rfl rfl (by rw[length_map];omega)).trans ?_)
  rw[p1,p2];unfold jE;rw[if_pos hb];rfl
 .rw[Bool.eq_false_iff.mpr hb]at t;refine qM t ?_
  have:(λk=>if k=r then jE V m r else V k)=V:=funext λk=>by
   by_cases e:k=r
   .rw[if_pos e,e];unfold jE;rw[if_neg hb]
   .rw[if_neg e]
  rw[this];rfl
theorem aJw{ks:List Nat}{V:Nat->Nat}{m:Nat}(hl:ks.length<1000)(hm:m∈ks):∀(rs:List Nat)(W:Nat->Nat)(x4:Option Sl),(∀r∈rs,r∈ks)->W m=V m->(∀r∈rs,W r=V r\/W r=jE V m r)->∃W' x4',forR (tgN 4) oA (nats rs) (yJ S n ks W x4 (some (.v (.int m))))=.ok (.nx (yJ S n ks W' x4' (some (.v (.int m)))))/\∀r,W' r=if r∈rs then jE V m r else W r
 |[],W,x4,_,_,_=>⟨W,x4,rfl,λr=>by rw[if_neg (by simp)]⟩
 |r::rs,W,x4,hs,hw,hv=>by
  have ho:jE W m r=jE V m r:=by
   rcases hv r mem_cons_self with h|h
   .unfold jE;rw[h,hw]
   .unfold jE at h ⊢;rw[h,hw]
    by_cases hb:(V r).testBit m=true
    .rw[if_pos hb]
     by_cases hb2:(V r|||V m).testBit m=true
     .rw[if_pos hb2,Nat.or_assoc,Nat.or_self]
     .rw[if_neg hb2]
    .rw[if_neg hb,if_neg hb]
  have hom:jE V m m=V m:=by
   unfold jE;split
   .exact Nat.or_self _
   .rfl
  obtain⟨W',x4',e,h⟩:=aJw hl hm rs (λk=>if k=r then jE W m r else W k) (some (.v (.int r))) (λx hx=>hs x (mem_cons_of_mem _ hx)) (by
   show (if m=r then jE W m r else W m)=V m
   by_cases e:m=r
   .rw[if_pos e,ho,<-e,hom]
   .rw[if_neg e,hw]) (λx hx=>by
   show (if x=r then jE W m r else W x)=V x\/(if x=r then jE W m r else W x)=jE V m x
   by_cases e:x=r
   .rw[if_pos e,ho,e];exact .inr rfl
   .rw[if_neg e];exact hv x (mem_cons_of_mem _ hx))
  refine⟨W',x4',jM rfl (aU1 hl (hs r mem_cons_self) hm) e,λx=>?_⟩
  rw[h x]
  by_cases hx:x∈rs
  .rw[if_pos hx,if_pos (mem_cons_of_mem _ hx)]
  .rw[if_neg hx]
   by_cases e:x=r
   .rw[if_pos e,if_pos (by rw[e];exact mem_cons_self),ho,e]
   .rw[if_neg e,if_neg (by simp[e,hx])]
theorem aHi{ks:List Nat}{V W:Nat->Nat}{x4 x5:Option Sl}(h:∀k∈ks,V k=W k):yJ S n ks V x4 x5=yJ S n ks W x4 x5:=by
 unfold yJ;rw[List.map_congr_left λk hk=>congrArg (λx:Nat=>D.int (x:Int)) (h k hk)]
theorem aJx(hl:(aX n).length<1000):∀(ms:List Nat)(V:Nat->Nat)(x4 x5:Option Sl),(∀m∈ms,m∈aX n)->∃x4' x5',forR (tgN 5) zA (nats ms) (yJ S n (aX n) V x4 x5)=.ok (.nx (yJ S n (aX n) (ms.foldl jE V) x4' x5'))
 |[],V,x4,x5,_=>⟨x4,x5,rfl⟩
 |m::ms,V,x4,x5,hs=>by
  obtain⟨W,y4,e,h⟩:=aJw (S:=S) (n:=n) (V:=V) hl (hs m mem_cons_self) (aX n) V x4 (λr hr=>hr) rfl λr _=>.inl rfl
  obtain⟨z4,z5,e'⟩:=aJx hl ms (jE V m) y4 (some (.v (.int m))) λx hx=>hs x (mem_cons_of_mem _ hx)
  refine⟨z4,z5,jM rfl (iK (L:=oA) rfl e) ?_⟩;rw[aHi (W:=jE V m) λk hk=>by rw[h k,if_pos hk]]
  exact e'
theorem aNl(M:Mch S rk c)(hn:n<2^S.length):jK [.lst (stD S),.int n]=.ok (.dct false (nats (aX n)) ((aX n).map λr=>D.int (fW S c n r:Nat))):=by
 have n8:=M.most;have hro:=mL hn (by omega)
 have hlen:(aX n).length<=S.length:=mK S.length _ (fV _) λx hx=>cD hn hx
 obtain⟨x4,e1⟩:=aJv (n:=n) M (aX n) [] none (fV n) λr hr=>cD hn hr
 obtain⟨y4,y5,e2⟩:=aJx (S:=S) (n:=n) (by omega) (aX n) (rC S n) x4 none λm hm=>hm
 refine bT rfl (aQ (st':=[some (.v (.lst (stD S))),some (.v (.int n)),some (.v (.lst (nats (aX n)))),none,none,none]) (bK (aV rfl hro)) (aQ (st':=yJ S n [] (rC S n) none none) rfl (aQ (iK rfl e1) (aQ (iK rfl e2) ?_))));rw[aHi λk hk=>aX0 M hn hk]
 rfl
end
noncomputable def fB(S:List (List Nat))(c n r:Nat):Nat:=cX ((aX (fW S c n r)).filter λg=>(fW S c n g).testBit r)
def roundN(S:List (List Nat))(m:Nat):Bool:=decide (1<(aX m).length)||decide ((aX m).headD 0∈S.getD ((aX m).headD 0) [])
noncomputable def lC(S:List (List Nat))(c n:Nat):List Nat:=(aX n).foldl (λps r=>if fB S c n r∉ps/\roundN S (fB S c n r)=true then ps++[fB S c n r] else ps) []
section
variable{S:List (List Nat)}{rk:List Nat}{c n:Nat}
theorem aLk{n:Nat}:fB S c n r<2^S.length:=aAi λg hg=>cD zN (List.mem_filter.mp hg).1
theorem aX1(M:Mch S rk c) (hm:m<2^S.length) (h0:m≠0):rG [.lst (stD S),.int m]=.ok (.bl (roundN S m)):=by
 have n8:=M.most;have hro:=mL hm (by omega)
 obtain⟨r,T,eT⟩:∃r T,aX m=r::T:=by
  cases h:aX m with
  |nil=>
   refine absurd ?_ h0;have:=pO m;rw[h]at this;exact this.symm
  |cons r T=>exact⟨r,T,rfl⟩
 rw[eT]at hro;have hr:r<S.length:=cD hm (by rw[eT];exact mem_cons_self)
 refine bT rfl (aQ (st':=[some (.v (.lst (stD S))),some (.v (.int m)),some (.v (.lst (nats (r::T))))]) (bK (aV rfl hro)) (cU ?_));have ln:e1 lY (aB 2) [some (.v (.lst (stD S))),some (.v (.int m)),some (.v (.lst (nats (r::T))))]=.ok (.int ((T.length+1:Nat):Int)):=by
  show R.ok (D.int (((nats (r::T)).length:Nat):Int))=_;rw[bM];rfl
 have v0:e2 dIx (aB 2) (eC (.int 0)) [some (.v (.lst (stD S))),some (.v (.int m)),some (.v (.lst (nats (r::T))))]=.ok (.int r):=aH rfl rfl (eX (atI_nat (i:=0) (by rw[bM];exact Nat.succ_pos _)))
 have hg:S.getD r []=S[r]:=by rw[getD_eq_getElem?_getD,List.getElem?_eq_getElem hr];rfl
 have t:=aH6 (aH ln (rfl:eC (.int 1) _=_) (rfl:dGt _ _=_)) λ_=>aH v0 (aH (rfl:aB 0 _=.ok (.lst (stD S))) v0 (eX (aH9 hr))) (bF1 r S[r])
 refine aH7 t ?_
 unfold roundN;rw[eT];show (decide ((1:Int)<((T.length+1:Nat):Int))||decide (r∈S[r]))=(decide (1<T.length+1)||decide (r∈S.getD r []))
 rw[hg];congr 1;exact decide_eq_decide.mpr (by omega)
noncomputable def pst(S:List (List Nat))(c n:Nat)(ps:List Nat)(x4 x5:Option Sl):PSt:=[some (.v (.lst (stD S))),some (.v (.int n)),some (.v (.dct false (nats (aX n)) ((aX n).map λr=>D.int (fW S c n r:Nat)))),some (.o .l (nats ps)),x4,x5,none]
theorem aPz(M:Mch S rk c)(hn:n<2^S.length) (hr:r∈aX n) (ps:List Nat) (hps:ps.length<=1000) (x5:Option Sl):∃x5',qT (pst S c n ps (some (.v (.int r))) x5)=.ok (.nx (pst S c n (if fB S c n r∉ps/\roundN S (fB S c n r)=true then ps++[fB S c n r] else ps) (some (.v (.int r))) x5')):=by
 have n8:=M.most;have hrl:=cD hn hr;have hrb:=aZ.mp hr;have hro:=mL (zN (S:=S) (c:=c) (n:=n) (r:=r)) (by omega)
 have hin:∀g∈aX (fW S c n r),g∈aX n:=λg hg=>aZ.mpr (aLj (al:=λg=>n.testBit g) hrb ((gU M hrl g).mp (aZ.mp hg)))
 have gk:∀{g:Nat},g∈aX n->uL (nats (aX n)) ((aX n).map λr=>D.int (fW S c n r:Nat)) (.int g)=some (.int (fW S c n g:Nat)):=λ{g} h=>zO (λr=>D.int (fW S c n r:Nat)) h
 have hlen:(aX (fW S c n r)).length<=S.length:=mK S.length _ (fV _) λx hx=>cD zN hx
 have ce:=lB (tg:=tgN 6) (C:=xU) (E:=xT) (st:=pst S c n ps (some (.v (.int r))) x5) (q:=λg=>(fW S c n g).testBit r) (G:=λg=>.int g) (aX (fW S c n r)) (λg hg=>⟨_,rfl,aV (aP (aH rfl rfl (aD9 (gk (hin g hg)))) rfl) (zM (fW S c n g) r),rfl⟩)
 have hi:itE (aW cA (aC (e2 dIx (aB 2) (aB 4)) aU)) (pst S c n ps (some (.v (.int r))) x5)=.ok (nats (aX (fW S c n r))):=tZ (aV (aP (aH rfl rfl (aD9 (gk hr))) rfl) hro);have hcomp:=iC (is:=[6]) hi (by rw[bM];omega) ce
 have hbi:jR [.lst (nats ((aX (fW S c n r)).filter λg=>(fW S c n g).testBit r))]=.ok (.int (fB S c n r)):=aD8 (λg hg=>by have:=cD zN (List.mem_filter.mp hg).1;omega) (by have:=length_filter_le (λg=>(fW S c n g).testBit r) (aX (fW S c n r));omega)
 have hne:fB S c n r≠0:=λz=>by
  have:(fB S c n r).testBit r=true:=by
   unfold fB;rw[iD,decide_eq_true_eq,List.mem_filter];have h0:(fW S c n r).testBit r=true:=(gU M hrl r).mpr .here;exact⟨aZ.mpr h0,h0⟩
  rw[z,zero_testBit]at this;cases this
 have hgo:=aX1 M (aLk (S:=S) (c:=c) (n:=n) (r:=r)) hne;obtain⟨p1,p2,_⟩:=jN ps;refine⟨some (.v (.int (fB S c n r))),aQ (st':=pst S c n ps (some (.v (.int r))) (some (.v (.int (fB S c n r))))) (bK (aV (aP hcomp rfl) hbi)) ?_⟩;have t:=aWd (st:=pst S c n ps (some (.v (.int r))) (some (.v (.int (fB S c n r))))) (aH (f:=aB 5) (g:=dZ 3) rfl rfl (show wB (.int (fB S c n r)) (.lst (nats ps))=.ok (.bl (!decide (fB S c n r∈ps))) by rw[<-aG5];exact aF ⟨by rw[p2];exact zero_le 60,rfl,p1⟩)) λ_=>aV (r:=aC (aB 0) (aC (aB 5) aU)) rfl hgo
 by_cases h:fB S c n r∉ps/\roundN S (fB S c n r)=true
 .rw[if_pos h];refine aFu (aH7 t (by rw[decide_eq_false h.1,h.2];rfl)) ?_
  rw[aEe (xs:=nats ps) (d:=.int (fB S c n r)) rfl rfl (by rw[bM];omega),<-oH]
  rfl
 .rw[if_neg h];refine qM (aH7 t ?_) rfl;cases h1:roundN S (fB S c n r) with
  |false=>rw[Bool.and_false]
  |true=>rw[decide_eq_true (Classical.byContradiction λz=>h ⟨z,h1⟩)];rfl
theorem aHj(M:Mch S rk c)(hn:n<2^S.length):∀(rs:List Nat)(ps:List Nat)(x4 x5:Option Sl),(∀r∈rs,r∈aX n)->ps.length+rs.length<=1000->∃x4' x5',forR (tgN 4) qT (nats rs) (pst S c n ps x4 x5)=.ok (.nx (pst S c n (rs.foldl (λps r=>if fB S c n r∉ps/\roundN S (fB S c n r)=true then ps++[fB S c n r] else ps) ps) x4' x5'))
 |[],ps,x4,x5,_,_=>⟨x4,x5,rfl⟩
 |r::rs,ps,x4,x5,h,hl=>by
  rw[length_cons]at hl;obtain⟨x5',e1⟩:=aPz M hn (h r mem_cons_self) ps (by omega) x5
  obtain⟨y4,y5,e2⟩:=aHj M hn rs (if fB S c n r∉ps/\roundN S (fB S c n r)=true then ps++[fB S c n r] else ps) (some (.v (.int r))) x5' (λr hr=>h r (mem_cons_of_mem _ hr)) (by
   split
   .rw[length_append,length_singleton];omega
   .omega)
  exact⟨y4,y5,jM rfl e1 e2⟩
theorem aNm(M:Mch S rk c)(hn:n<2^S.length):pU [.lst (stD S),.int n]=.ok (.lst (nats (lC S c n))):=by
 have n8:=M.most;have hro:=mL hn (by omega)
 have hlen:(aX n).length<=S.length:=mK S.length _ (fV _) λx hx=>cD hn hx
 obtain⟨y4,y5,e⟩:=aHj M hn (aX n) [] none none (λ_ h=>h) (by simp;omega)
 exact bT rfl (aQ (bK (aV rfl (aNl M hn))) (aQ (st':=pst S c n [] none none) (wK (lZ rfl)) (aQ (iK (tZ (aV rfl hro)) e) rfl)))
theorem aNn(M:Mch S rk c)(hn:n<2^S.length):gZ [mD S rk c,.int n]=.ok (.lst (nats (lC S c n))):=
 bT rfl (cU (aV (aP (show fD "Machine" "steps" (mD S rk c)=_ from pN) rfl) (aNm M hn)))
end
section
variable{S:List (List Nat)}{rk:List Nat}{c n:Nat}
theorem aC2:fD "Machine" "ranks" (mD S rk c)=.ok (.lst (nats rk)):=by unfold mD;rw[yQ,aF rfl];rfl
theorem aLl:∀(l m:List Nat),mH (nats l) (nats m)=decide (l=m)
 |[],[]=>by simp[nats,mH]
 |[],y::m=>by simp[nats,mH]
 |x::l,[]=>by simp[nats,mH]
 |x::l,y::m=>by
  rw[aEg,aEg];unfold mH;rw[aLl l m]
  by_cases h:x=y
  .subst h;simp[eqD]
  .have:¬ (x:Int)=(y:Int):=by omega
   simp[eqD,h,this]
theorem Rch.mono{al':Nat->Bool}(m:∀g,al g=true->al' g=true){a b:Nat}(h:Rch S c al a b):Rch S c al' a b:=by
 induction h with
 |here=>exact .here
 |on _ hl ha ih=>exact .on ih hl (m _ ha)
def inN(n:Nat):Nat->Bool:=λg=>n.testBit g
def Mut(S:List (List Nat))(c n a b:Nat):Prop:=Rch S c (inN n) a b/\Rch S c (inN n) b a
theorem oJ(M:Mch S rk c){g:Nat}(hr:r<S.length):(fB S c n r).testBit g=true↔Mut S c n r g:=by
 unfold fB;rw[iD,decide_eq_true_eq,List.mem_filter,aZ,gU M hr];constructor
 .rintro⟨h1,h2⟩;exact⟨h1,(gU M (aEi M hr h1) r).mp h2⟩
 .rintro⟨h1,h2⟩;exact⟨h1,(gU M (aEi M hr h1) r).mpr h2⟩
theorem aNo(M:Mch S rk c){g:Nat}(hr:r<S.length)(h:Rch S c (inN n) r g)(hb:Rch S c (inN n) g r):Rch S c (inN (fB S c n r)) r g:=by
 induction h with
 |here=>exact .here
 |on h1 hl ha ih=>
  rename_i y l;have hy:Rch S c (inN n) y r:=Rch.trans (.on .here hl ha) hb;exact .on (ih hy) hl ((oJ M hr).mpr ⟨.on h1 hl ha,hb⟩)
theorem Mut.symm{a b:Nat}(h:Mut S c n a b):Mut S c n b a:=⟨h.2,h.1⟩
theorem Mut.trans{a b d:Nat}(h1:Mut S c n a b)(h2:Mut S c n b d):Mut S c n a d:=⟨Rch.trans h1.1 h2.1,Rch.trans h2.2 h1.2⟩
theorem aX2(M:Mch S rk c){g:Nat}(hr:r<S.length)(h:Mut S c n r g):fB S c n g=fB S c n r:=eq_of_testBit_eq λx=>by
 have hg:=aEi M hr h.1;have e:(fB S c n g).testBit x=true↔(fB S c n r).testBit x=true:=by
  rw[oJ M hg,oJ M hr];exact⟨λz=>h.trans z,λz=>h.symm.trans z⟩
 cases h1:(fB S c n g).testBit x with
 |true=>exact(e.mp h1).symm
 |false=>
  cases h2:(fB S c n r).testBit x with
  |true=>rw[e.mpr h2]at h1;cases h1
  |false=>rfl
def LpN(S:List (List Nat))(c n:Nat):Prop:=n≠0/\(∀a∈aX n,∀b∈aX n,Rch S c (inN n) a b)/\roundN S n=true
theorem aNp(f:Nat->Nat)(q:Nat->Bool):∀(rs ps:List Nat)(m:Nat),m∈rs.foldl (λps r=>if f r∉ps/\q (f r)=true then ps++[f r] else ps) ps↔m∈ps\/∃r∈rs,f r=m/\q m=true
 |[],ps,m=>by simp
 |r::rs,ps,m=>by
  rw[foldl_cons,aNp f q rs]
  by_cases h:f r∉ps/\q (f r)=true
  .rw[if_pos h];constructor
   .rintro(h1|⟨r',h1,h2⟩)
    .rcases List.mem_append.mp h1 with h1|h1
     .exact .inl h1
     .rw[List.mem_singleton]at h1;exact .inr ⟨r,mem_cons_self,h1.symm,by rw[h1];exact h.2⟩
    .exact .inr ⟨r',mem_cons_of_mem _ h1,h2⟩
   .rintro(h1|⟨r',h1,h2,h3⟩)
    .exact .inl (List.mem_append_left _ h1)
    .rcases List.mem_cons.mp h1 with rfl|h1
     .exact .inl (List.mem_append_right _ (by rw[h2];simp))
     .exact .inr ⟨r',h1,h2,h3⟩
  .rw[if_neg h];constructor
   .rintro(h1|⟨r',h1,h2⟩)
    .exact .inl h1
    .exact .inr ⟨r',mem_cons_of_mem _ h1,h2⟩
   .rintro(h1|⟨r',h1,h2,h3⟩)
    .exact .inl h1
    .rcases List.mem_cons.mp h1 with rfl|h1
     .refine .inl (Classical.byContradiction λz=>h ⟨by rw[h2];exact z,by rw[h2];exact h3⟩)
     .exact .inr ⟨r',h1,h2,h3⟩
theorem vJ:m∈lC S c n↔∃r∈aX n,fB S c n r=m/\roundN S m=true:=by
 unfold lC;rw[aNp (λr=>fB S c n r) (roundN S)]
 simp
theorem aNq(f:Nat->Nat)(q:Nat->Bool)(m:Nat):∀(rs:List Nat),(∀r∈rs,f r=m)->rs.foldl (λps r=>if f r∉ps/\q (f r)=true then ps++[f r] else ps) [m]=[m]
 |[],_=>rfl
 |r::rs,h=>by
  rw[foldl_cons,if_neg λz=>z.1 (by rw[h r mem_cons_self];simp)]
  exact aNq f q m rs λr hr=>h r (mem_cons_of_mem _ hr)
theorem aRw(M:Mch S rk c) (hn:n<2^S.length) (hr:r∈aX n) {g:Nat} (hg:g∈aX (fB S c n r)):g∈aX n:=by
 have h:=(oJ M (cD hn hr)).mp (aZ.mp hg);exact aZ.mpr (aLj (al:=inN n) (aZ.mp hr) h.1)
theorem aX3(M:Mch S rk c) (hn:n<2^S.length) (hr:r∈aX n):r∈aX (fB S c n r):=aZ.mpr ((oJ M (cD hn hr)).mpr ⟨.here,.here⟩)
theorem aU2(M:Mch S rk c)(hn:n<2^S.length):lC S c n=[n]↔LpN S c n:=by
 constructor
 .intro h;have hm:n∈lC S c n:=by rw[h];simp
  obtain⟨r,hr,e,hq⟩:=vJ.mp hm;have hrl:=cD hn hr;refine⟨(λz=>by rw[z]at hr;rw[aZ,zero_testBit]at hr;cases hr),λa ha b hb=>?_,hq⟩
  have ha':=(oJ (n:=n) M hrl).mp (by rw[e];exact aZ.mp ha)
  have hb':=(oJ (n:=n) M hrl).mp (by rw[e];exact aZ.mp hb)
  exact Rch.trans ha'.2 hb'.1
 .rintro⟨h0,hs,hq⟩;have all:∀r∈aX n,fB S c n r=n:=λr hr=>eq_of_testBit_eq λg=>by
   have e:(fB S c n r).testBit g=true↔n.testBit g=true:=by
    rw[oJ M (cD hn hr)];constructor
    .exact λz=>aLj (al:=inN n) (aZ.mp hr) z.1
    .exact λz=>⟨hs r hr g (aZ.mpr z),hs g (aZ.mpr z) r hr⟩
   cases h1:(fB S c n r).testBit g with
   |true=>exact(e.mp h1).symm
   |false=>
    cases h2:n.testBit g with
    |true=>rw[e.mpr h2]at h1;cases h1
    |false=>rfl
  unfold lC;cases h:aX n with
  |nil=>
   refine absurd ?_ h0;have:=pO n;rw[h]at this;exact this.symm
  |cons r T=>
   rw[h]at all;have er:=all r mem_cons_self;rw[foldl_cons,if_pos ⟨by simp,by rw[er];exact hq⟩,er,nil_append]
   exact aNq (λr=>fB S c n r) (roundN S) n T λr hr=>all r (mem_cons_of_mem _ hr)
theorem aJy(M:Mch S rk c) (hn:n<2^S.length) (hr:r∈aX n) (hq:roundN S (fB S c n r)=true):LpN S c (fB S c n r):=by
 have hrl:=cD hn hr;refine⟨(λz=>by have:=aX3 M hn hr;rw[z,aZ,zero_testBit]at this;cases this),λa ha b hb=>?_,hq⟩
 have ha':=(oJ M hrl).mp (aZ.mp ha);have hb':=(oJ M hrl).mp (aZ.mp hb);have hal:=aEi M hrl ha'.1;have h1:=aNo (n:=n) M hal ha'.2 ha'.1;rw[aX2 M hrl ha']at h1;exact Rch.trans h1 (aNo M hrl hb'.1 hb'.2)
theorem bAo(M:Mch S rk c){m:Nat}(hn:n<2^S.length)(hm:LpN S c m)(hs:∀g∈aX m,g∈aX n)(hr:r∈aX m):∀g∈aX m,g∈aX (fB S c n r):=λg hg=>by
 have up:∀{a b:Nat},Rch S c (inN m) a b->Rch S c (inN n) a b:=λh=>Rch.mono (λg hg=>aZ.mp (hs g (aZ.mpr hg))) h
 exact aZ.mpr ((oJ M (cD hn (hs r hr))).mpr ⟨up (hm.2.1 r hr g hg),up (hm.2.1 g hg r hr)⟩)
end
theorem bAp{l:List Int}(h:l≠[]):aE9 l∈l/\∀x∈l,x<=aE9 l:=by
 cases l with
 |nil=>exact(h rfl).elim
 |cons i r=>
  obtain⟨h1,h2,h3⟩:=aAf r i;refine⟨?_,λx hx=>?_⟩
  .rcases h3 with h3|h3
   .show r.foldl _ i∈_;rw[h3];exact mem_cons_self
   .exact mem_cons_of_mem _ h3
  .rcases List.mem_cons.mp hx with rfl|hx
   .exact h1
   .exact h2 x hx
section
variable{S:List (List Nat)}{rk:List Nat}{c n:Nat}
def tH(rk:List Nat)(n:Nat):Int:=aE9 ((aX n).map λr=>(rk.getD r 0:Int))
theorem bF3(M:Mch S rk c)(hn:n<2^S.length)(h0:n≠0):wI [mD S rk c,.int n]=.ok (.int (tH rk n)):=by
 have n8:=M.most;have hro:=mL hn (by omega)
 have hlen:(aX n).length<=S.length:=mK S.length _ (fV _) λx hx=>cD hn hx
 have hpos:0<(aX n).length:=by
  cases h:aX n with
  |nil=>
   refine absurd ?_ h0;have:=pO n;rw[h]at this;exact this.symm
  |cons r T=>simp
 have ce:=vH (tg:=tgN 2) (c:=dG) (f:=rH) (st:=[some (.v (mD S rk c)),some (.v (.int n)),none]) (λd=>match d with|.int i=>.int (rk.getD i.toNat 0:Nat)|d=>d) (nats (aX n)) λd hd=>by
  obtain⟨r,hr,rfl⟩:=zK hd;have hr':r<rk.length:=by rw[M.rks];exact cD hn hr
  have ea:atI (nats rk) (r:Int)=some (.int (rk.getD r 0:Nat)):=by
   rw[atI_nat (by rw[bM];exact hr')]
   simp[nats,getD_eq_getElem?_getD,List.getElem?_eq_getElem hr']
  refine⟨_,rfl,rfl,?_⟩;simp[rH,aC2,ea]
 have em:(nats (aX n)).map (λd=>match d with|.int i=>D.int (rk.getD i.toNat 0:Nat)|d=>d)=((aX n).map λr=>(rk.getD r 0:Int)).map D.int:=by
  unfold nats;simp[Function.comp_def]
 rw[em]at ce;have hc:dF [2] (tgN 2) (itE (aW cA (aC (aB 1) aU))) dG rH [some (.v (mD S rk c)),some (.v (.int n)),none]=.ok (.lst (((aX n).map λr=>(rk.getD r 0:Int)).map D.int)):=by
  have hi:itE (aW cA (aC (aB 1) aU)) [some (.v (mD S rk c)),some (.v (.int n)),none]=.ok (nats (aX n)):=by simp[hro]
  rw[aGv,hi];simp only[aM,bM];rw[aF (dD (by omega)),show clr [2] [some (Sl.v (mD S rk c)),some (.v (.int n)),none]=[some (.v (mD S rk c)),some (.v (.int n)),none] from rfl,ce]
  rfl
 refine bT rfl ?_
 unfold aBx;have h0':¬ (n:Int)=0:=by omega
 refine dX (by simp[h0',h0]) ?_
 show cY _ [some (.v (mD S rk c)),some (.v (.int n)),none]=_;rw[wC,aN5,hc];have hm:aGw (.lst (((aX n).map λr=>(rk.getD r 0:Int)).map D.int))=.ok (.int (tH rk n)):=by
  show (xP _).bind _=_;rw[rT,aM,aF (by rw[length_map];exact hpos)]
  rfl
 rw[aM,hm];rfl
end
section
variable {c:Nat}
theorem aQ0(M:Mch S rk c)(hn:n<2^S.length):vD [mD S rk c,.int n]=.ok (.bl (decide (lC S c n=[n]))):=by
 have e:=aNn M hn;obtain⟨p1,p2,_⟩:=jN (lC S c n);have h:=aLl (lC S c n) [n];refine bT rfl ?_
 unfold aEd;have e1:[D.int (n:Int)]=nats [n]:=rfl;simp[e,p1,p2];rw[e1,h]
end
section
variable {c:Nat}
theorem sub_len{l m:List Nat}(h1:l.Nodup)(hs:∀x∈l,x∈m)(he:l.length=m.length){x:Nat}(hx:x∈m):x∈l:=by
 refine Classical.byContradiction λhn=>?_
 have:(x::l).length<=m.length:=List.Nodup.length_le_of_subset (List.nodup_cons.mpr ⟨hn,h1⟩) λy hy=>by
  rcases List.mem_cons.mp hy with rfl|hy
  .exact hx
  .exact hs y hy
 rw[length_cons]at this;omega
theorem bF4{m o:Nat}:o|||m=o↔∀g∈aX m,g∈aX o:=by
 constructor
 .intro h g hg;rw[aZ]at hg ⊢;rw[<-h,testBit_or,hg,Bool.or_true]
 .intro h;refine eq_of_testBit_eq λg=>?_
  rw[testBit_or];cases hm:m.testBit g with
  |false=>rw[Bool.or_false]
  |true=>rw[aZ.mp (h g (aZ.mpr hm))];rfl
theorem bF5{m o:Nat}(h1:∀g∈aX m,g∈aX o)(h2:∀g∈aX o,g∈aX m):m=o:=by
 rw[<-pO m,<-pO o];exact bAk λr=>⟨h1 r,h2 r⟩
theorem aX4{m o:Nat}(hm:LpN S c m)(hs:∀g∈aX m,g∈aX o):roundN S o=true:=by
 have hq:=hm.2.2;have hne:∃r,r∈aX m:=by
  cases h:aX m with
  |nil=>
   refine absurd ?_ hm.1;have:=pO m;rw[h]at this;exact this.symm
  |cons r T=>exact⟨r,by simp⟩
 obtain⟨r,hr⟩:=hne;have hl:(aX m).length<=(aX o).length:=List.Nodup.length_le_of_subset (fV m) λx hx=>hs x hx
 unfold roundN at hq ⊢
 by_cases h1:1<(aX o).length
 .rw[decide_eq_true h1];rfl
 .have he:(aX m).length=(aX o).length:=by
   have:0<(aX m).length:=List.length_pos_of_mem hr;omega
  have:m=o:=bF5 hs λg hg=>sub_len (fV m) hs he hg
  rw[<-this];exact hq
end
section
variable {c:Nat}
theorem aQ1:cX (List.range n)<2^n:=aAi λr hr=>List.mem_range.mp hr
theorem aRx(M:Mch S rk c):kI [mD S rk c]=.ok (.int (cX (List.range S.length))):=by
 have n8:=M.most;refine bT rfl (cU (aV (aP (d:=.lst (nats (List.range S.length))) ?_ rfl) (aD8 (λr hr=>by have:=List.mem_range.mp hr;omega) (by rw[length_range];omega))))
 show R.bind (fD "Machine" "many" (mD S rk c)) aCn=_;rw[vI,aM,<-aFc];exact aF ⟨aL1 (by omega),aG3 (by omega)⟩
theorem aRy(M:Mch S rk c){st:PSt}(h:st[0]?=some (some (.v (mD S rk c)))):aW jK (aC (e1 (fD "Machine" "steps") (aB 0)) (aC (aW kI (aC (aB 0) (aU))) (aU))) st=.ok (.dct false (nats (aX (cX (List.range S.length)))) ((aX (cX (List.range S.length))).map λr=>D.int (fW S c (cX (List.range S.length)) r:Nat))):=by
 have e:aB 0 st=.ok (mD S rk c):=by unfold aB;rw[h]
 exact aV (aP (show R.bind (aB 0 st) (fD "Machine" "steps")=_ by rw[e,aM,pN]) (aP (aV (aP e rfl) (aRx M)) rfl)) (aNl M aQ1)
theorem aRz{r:Nat}(hr:r<S.length):dIx (.dct false (nats (aX (cX (List.range S.length)))) ((aX (cX (List.range S.length))).map λr=>D.int (fW S c (cX (List.range S.length)) r:Nat))) (.int r)=.ok (.int (fW S c (cX (List.range S.length)) r:Nat)):=aD9 (zO (λr=>D.int (fW S c (cX (List.range S.length)) r:Nat)) (pP.mpr (List.mem_range.mpr hr)))
end
section
variable {c:Nat}
theorem aX5(M:Mch S rk c) (hr:r<S.length):nU [mD S rk c,.int r]=.ok (.int (fW S c (cX (List.range S.length)) r)):=
 bT rfl (cU (aH (aRy M rfl) rfl (aRz hr)))
end
theorem aU3(l:List Nat)(k:Nat):cX (l++[k])=cX l|||2^k:=by
 unfold cX orN;rw[List.foldl_append];rfl
theorem aDa(p:Nat->Bool):∀k,(((List.range k).filter p).map λr=>2^r).sum=cX ((List.range k).filter p)
 |0=>rfl
 |k+1=>by
  rw[List.range_succ,List.filter_append];have ih:=aDa p k;have hlt:cX ((List.range k).filter p)<2^k:=aAi λr hr=>List.mem_range.mp (List.mem_filter.mp hr).1
  cases hp:p k with
  |true=>
   rw[filter_cons_of_pos hp,List.filter_nil,aU3,List.map_append,List.sum_append,ih,List.map_singleton,List.sum_singleton,Nat.or_comm];have:=Nat.two_pow_add_eq_or_of_lt hlt 1;rw[Nat.mul_one]at this;rw[<-this,Nat.add_comm]
  |false=>rw[filter_cons_of_neg (by rw[hp];decide),List.filter_nil,append_nil,ih]
section
variable{S:List (List Nat)}{rk:List Nat}{c n:Nat}
noncomputable def aDb(S:List (List Nat))(c G:Nat):Nat->Bool:=λr=>decide (0<fW S c (cX (List.range S.length)) r&&&G)
theorem aX6(M:Mch S rk c)(G:Nat):wJ [mD S rk c,.int G]=.ok (.int (cX ((List.range S.length).filter (aDb S c G)))):=by
 have n8:=M.most;refine bT rfl (aQ (bK (aRy M rfl)) (cU (aV (aP (d:=.lst (nats ((List.range S.length).filter (aDb S c G)))) (iC (xs:=nats (List.range S.length)) ?_ (by rw[bM,length_range];omega) ?_) rfl) (aD8 (l:=(List.range S.length).filter (aDb S c G)) (λr hr=>by have:=List.mem_range.mp (List.mem_filter.mp hr).1;omega) (by have:=length_filter_le (aDb S c G) (List.range S.length);rw[length_range]at this;omega)))))
 .exact aD1 (by show fD "Machine" "many" (mD S rk c)=_;exact vI) (by omega)
 .exact lB (q:=aDb S c G) (G:=λr=>.int r) (List.range S.length) (λr hr=>⟨_,rfl,aH7 (aH (aH (aH rfl rfl (aRz (List.mem_range.mp hr))) rfl (aRs _ _)) rfl (bEp _ _)) (by
   unfold aDb
   by_cases h:0<fW S c (cX (List.range S.length)) r&&&G
   .rw[decide_eq_true h,decide_eq_false (by omega)];rfl
   .rw[decide_eq_false h,decide_eq_true (by omega)];rfl),rfl⟩)
end
section
variable{S:List (List Nat)}{rk:List Nat}{c n s g:Nat}{al:Nat->Bool}{acc:List (Nat×List Nat)}
def Pat(S:List (List Nat))(c:Nat)(al:Nat->Bool):List Nat->Nat->Nat->Prop
 |[],s,g=>s=g
 |ch::u,s,g=>∃l,l<c/\ch=97+l/\al (stp S s l)=true/\Pat S c al u (stp S s l) g
theorem aAj:∀{u v:List Nat}{s r g:Nat},Pat S c al u s r->Pat S c al v r g->Pat S c al (u++v) s g
 |[],v,s,r,g,h1,h2=>by
  have e:s=r:=h1;rw[e];exact h2
 |ch::u,v,s,r,g,h1,h2=>by
  obtain⟨l,a,b,d,e⟩:=h1;exact⟨l,a,b,d,aAj e h2⟩
theorem aS0:∀{u v:List Nat}{s g:Nat},Pat S c al (u++v) s g->∃r,Pat S c al u s r/\Pat S c al v r g
 |[],v,s,g,h=>⟨s,rfl,h⟩
 |ch::u,v,s,g,h=>by
  obtain⟨l,a,b,d,e⟩:=h;obtain⟨r,h1,h2⟩:=aS0 e;exact⟨r,⟨l,a,b,d,h1⟩,h2⟩
theorem aU4{u v w:List Nat}(h1:slB u v)(h2:slB v w):slB u w:=by
 rcases h1 with h1|⟨h1,h3⟩
 .rcases h2 with h2|⟨h2,_⟩
  .exact .inl (by omega)
  .exact .inl (by omega)
 .rcases h2 with h2|⟨h2,h4⟩
  .exact .inl (by omega)
  .exact .inr ⟨by omega,List.lt_trans h3 h4⟩
theorem snoc_ind{P:List Nat->Prop}(h0:P [])(h1:∀u a,P u->P (u++[a])):∀(k:Nat)(u:List Nat),u.length=k->P u
 |0,u,h=>by rw[List.length_eq_zero_iff.mp h];exact h0
 |k+1,u,h=>by
  rcases List.eq_nil_or_concat u with e|⟨v,a,e⟩
  .rw[e]at h;simp at h
  .rw[List.concat_eq_append]at e;rw[e]at h ⊢;exact h1 v a (snoc_ind h0 h1 k v (by simpa using h))
theorem BM.least(b:BM S s c al acc.length 0 acc):∀(u:List Nat)(g:Nat),Pat S c al u s g->∃y∈acc,y.1=g/\(y.2=u\/slB y.2 u):=λu=>
 snoc_ind (P:=λu=>∀g,Pat S c al u s g->∃y∈acc,y.1=g/\(y.2=u\/slB y.2 u)) (λg h=>⟨(s,[]),List.mem_of_getElem? b.hd,h,.inl rfl⟩) (λu a ih g h=>by
  obtain⟨r,h1,l,hl,ea,ha,e⟩:=aS0 h;obtain⟨y,hy,rfl,hq⟩:=ih r h1;have e':stp S y.1 l=g:=e;obtain⟨i,hi⟩:=List.mem_iff_getElem?.mp hy;obtain⟨z,hz,ez,hw⟩:=b.cls i y l hi hl (.inl (List.getElem?_eq_some_iff.mp hi).1) ha;refine⟨z,hz,ez.trans e',?_⟩;rw[ea];rcases hq with rfl|hq
  .exact hw
  .have:=aRp (97+l) (97+l) hq;rcases hw with hw|hw
   .rw[hw];exact .inr this
   .exact .inr (aU4 hw this)) u.length u rfl
theorem BM.path(b:BM S s c al acc.length 0 acc):∀(k:Nat)(x:Nat×List Nat),acc[k]?=some x->Pat S c al x.2 s x.1:=by
 intro k
 induction k using strongRecOn with
 |ind k ih=>
  intro x hx
  by_cases hk:k=0
  .subst hk;rw[b.hd]at hx;cases hx;exact rfl
  .obtain⟨h0,q,y,ch,h1,h2,_⟩:=b.par k x hx (by omega)
   have hl:x.2.length=y.2.length+1:=by rw[h2];simp
   have hq:q<k:=by
    rcases Nat.lt_trichotomy q k with h|h|h
    .exact h
    .subst h;rw[hx]at h1;cases h1;omega
    .rcases b.ord k q x y hx h1 h with h3|⟨h3,_⟩ <;> omega
   obtain⟨_,x2,x3⟩:=b.lt x (List.mem_of_getElem? hx);obtain⟨_,y2,_⟩:=b.lt y (List.mem_of_getElem? h1);have hch:=x3 ch (by rw[h2];simp)
   have e:x.1=stp S y.1 (ch-97):=by rw[<-x2,h2,aAh,y2]
   rw[h2];exact aAj (ih q hq y h1) ⟨ch-97,by omega,by omega,by rw[<-e];exact h0,e.symm⟩
def Lst(S:List (List Nat))(c:Nat)(al:Nat->Bool)(s g:Nat)(u:List Nat):Prop:=Pat S c al u s g/\∀v,Pat S c al v s g->u=v\/slB u v
theorem bF6(n:Nat):(λg=>decide (g∈aX n))=λg=>n.testBit g:=funext λg=>by
 cases h:n.testBit g with
 |true=>exact decide_eq_true (aZ.mpr h)
 |false=>exact decide_eq_false λz=>by rw[aZ.mp z]at h;cases h
theorem aX7(M:Mch S rk c)(hn:n<2^S.length)(hs:s<S.length)(g:Nat):(oF [mD S rk c,.int n,.int s,.int g]=.ok .non/\¬ (n.testBit s=true/\∃u,Pat S c (λg=>n.testBit g) u s g))\/∃u,oF [mD S rk c,.int n,.int s,.int g]=.ok (.str u)/\n.testBit s=true/\Lst S c (λg=>n.testBit g) s g u/\Ltr c u/\u.length+1<=(aX n).length:=by
 have n8:=M.most;cases hb:n.testBit s with
 |false=>exact .inl ⟨bT rfl (aLc (aFu (qU (p:=false) (aV rfl (by rw[zM,hb]))) (cU rfl))),λz=>nomatch z.1⟩
 |true=>
  obtain⟨acc,e,b⟩:=aRq M hs (aX n);rw[bF6]at b;have hr:∀{d:D},aW9 (aW kO (aC (e1 (fD "Machine" "steps") (aB 0)) (aC (aB 2) (aC (aW cA (aC (aB 1) aU)) aU)))) (aB 3) (eC .non) [some (.v (mD S rk c)),some (.v (.int n)),some (.v (.int s)),some (.v (.int g))]=.ok d->oF [mD S rk c,.int n,.int s,.int g]=.ok d:=λhd=>bT rfl (dX (qM (qU (p:=true) (aV rfl (by rw[zM,hb]))) rfl) (cU hd))
  have hg:∀{r:R D},aGz (.dct false (kD acc) (wD acc)) (.int g) .non=r->aW9 (aW kO (aC (e1 (fD "Machine" "steps") (aB 0)) (aC (aB 2) (aC (aW cA (aC (aB 1) aU)) aU)))) (aB 3) (eC .non) [some (.v (mD S rk c)),some (.v (.int n)),some (.v (.int s)),some (.v (.int g))]=r:=λh=>by
   unfold aW9;rw[aV (aP (show fD "Machine" "steps" (mD S rk c)=_ from pN) (aP rfl (aP (aV rfl (mL hn (by omega))) rfl))) e]
   exact h
  have hh:=aPx g acc
  by_cases hm:g∈acc.map (·.1)
  .rw[decide_eq_true hm]at hh;obtain⟨x,hx,rfl⟩:=List.mem_map.mp hm;obtain⟨k,hk⟩:=List.mem_iff_getElem?.mp hx;have hkl:=(List.getElem?_eq_some_iff.mp hk).1;refine .inr ⟨x.2,hr (hg ?_),rfl,⟨b.path k x hk,λv hv=>?_⟩,(b.lt x hx).2.2,?_⟩
   .show aY (keyOk false (.int x.1)=true) _=_;rw[aF (c:=keyOk false (.int x.1)=true) rfl,if_pos hh,aWs b.nd hx];rfl
   .obtain⟨y,hy,ey,hq⟩:=b.least v x.1 hv;obtain⟨j,hj⟩:=List.mem_iff_getElem?.mp hy;have:y=x:=by
     have hkj:j=k:=by
      have h1:(acc.map (·.1))[j]?=some x.1:=by rw[List.getElem?_map,hj,<-ey];rfl
      have h2:(acc.map (·.1))[k]?=some x.1:=by rw[List.getElem?_map,hk];rfl
      obtain⟨a1,b1⟩:=List.getElem?_eq_some_iff.mp h1;obtain⟨a2,b2⟩:=List.getElem?_eq_some_iff.mp h2;exact(List.getElem_inj b.nd).mp (b1.trans b2.symm)
     rw[hkj,hk]at hj;exact(Option.some.inj hj).symm
    rw[this]at hq;exact hq
   .have h1:=b.wlen k x hk;have h2:(acc.map (·.1)).length<=(aX n).length:=List.Nodup.length_le_of_subset b.nd λy hy=>by
     obtain⟨z,hz,rfl⟩:=List.mem_map.mp hy;obtain⟨j,hj⟩:=List.mem_iff_getElem?.mp hz
     by_cases hj0:j=0
     .subst hj0;rw[b.hd]at hj;cases hj;exact aZ.mpr hb
     .exact aZ.mpr (b.par j z hj (by omega)).1
    rw[length_map]at h2;omega
  .rw[decide_eq_false hm]at hh;refine .inl ⟨hr (hg ?_),λ⟨_,u,hu⟩=>?_⟩
   .show aY (keyOk false (.int g)=true) _=_;rw[aF (c:=keyOk false (.int g)=true) rfl,if_neg (by rw[hh];decide)]
   .obtain⟨y,hy,ey,_⟩:=b.least u g hu;exact hm (List.mem_map.mpr ⟨y,hy,ey⟩)
end
theorem aS1{l:Nat}(h:l<3):dIx (.str [97,98,99]) (.int l)=.ok (.str [97+l]):=by
 show aY _ _=_;rw[aF (dD (by show 3<=_;omega)),atI_nat (xs:=[97,98,99]) (i:=l) (by show l<3;exact h)]
 have:l=0\/l=1\/l=2:=by omega
 rcases this with rfl|rfl|rfl<;>rfl
theorem bF7(l m:List Nat):dEq (.lst (nats l)) (.lst (nats m))=.ok (.bl (decide (l=m))):=by
 obtain⟨p1,p2,_⟩:=jN l;obtain⟨q1,_,_⟩:=jN m;have:=aLl l m;simp[p1,p2,q1,this]
section
variable{S:List (List Nat)}{rk:List Nat}{c n s g r:Nat}{al:Nat->Bool}
theorem aLm:∀{u:List Nat}{s g:Nat},Pat S c al u s g->Ltr c u
 |[],_,_,_=>λ_ h=>nomatch h
 |ch::u,s,g,⟨l,a,b,_,e⟩=>λx hx=>by
  rcases List.mem_cons.mp hx with rfl|hx
  .omega
  .exact aLm e x hx
theorem aDc:∀{u:List Nat}{s g:Nat},Pat S c al u s g->fQ S s u=g
 |[],_,_,h=>h
 |ch::u,s,g,⟨l,a,b,_,e⟩=>by
  show fQ S (stp S s (ch-97)) u=g;rw[b,show 97+l-97=l by omega]
  exact aDc e
theorem aHk:∀(x y:List Nat)(q:Nat),runs S q (x++y)=runs S q x++runs S (fQ S q x) y
 |[],_,_=>rfl
 |ch::x,y,q=>congrArg (stp S q (ch-97) :: ·) (aHk x y _)
theorem aLn:∀(x:List Nat)(q:Nat),fQ S q x∈q::runs S q x
 |[],_=>mem_cons_self
 |ch::x,q=>mem_cons_of_mem _ (aLn x (stp S q (ch-97)))
theorem aX8{x:List Nat}(h:x≠[])(q:Nat):fQ S q x∈runs S q x:=by
 cases x with
 |nil=>exact absurd rfl h
 |cons ch x=>exact aLn x (stp S q (ch-97))
theorem aS2{s g:Nat}(h:Rch S c al s g):∃u,Pat S c al u s g:=by
 induction h with
 |here=>exact⟨[],rfl⟩
 |on _ hl ha ih=>
  obtain⟨u,hu⟩:=ih;exact⟨u++[97+_],aAj hu ⟨_,hl,rfl,ha,rfl⟩⟩
structure Rnd(S:List (List Nat))(c n r:Nat)(u:List Nat):Prop where
 pat:Pat S c (λg=>n.testBit g) u r r
 ne:u≠[]
 len:u.length<=(aX n).length*(aX n).length
 all:∀g∈aX n,g∈runs S r u
def aX9(S:List (List Nat))(rk:List Nat)(c n r:Nat)(x:List Nat)(h:Nat)(x5:Option Sl):PSt:=[some (.v (mD S rk c)),some (.v (.int n)),some (.v (.int r)),some (.v (.str x)),some (.v (.int h)),x5]
theorem aHl{e:Exs}{st:PSt}(hf:f st=.ok (mD S rk c))(hr:e st=.ok xs):dU "Machine" "rooms_along" p [] f e st=p (mD S rk c::xs):=by
 rw[aCj,hf,hr];show aY _ (p (mD S rk c::(xs++[])))=_;rw[append_nil];exact aF ⟨rfl,by decide⟩
theorem aNr(M:Mch S rk c)(hn:n<2^S.length)(hL:LpN S c n){a b:Nat}(ha:a∈aX n)(hb:b∈aX n):∃u,oF [mD S rk c,.int n,.int a,.int b]=.ok (.str u)/\Pat S c (λg=>n.testBit g) u a b/\u.length+1<=(aX n).length:=by
 rcases aX7 M hn (cD hn ha) b with ⟨_,h2⟩|⟨u,h1,_,h3,_,h5⟩
 .exact absurd ⟨aZ.mp ha,aS2 (hL.2.1 a ha b hb)⟩ h2
 .exact⟨u,h1,h3.1,h5⟩
theorem aC3(M:Mch S rk c)(hn:n<2^S.length)(hL:LpN S c n)(hr:r∈aX n):∀(gs:List Nat)(x:List Nat)(h j:Nat)(x5:Option Sl),(∀g∈gs,g∈aX n)->Pat S c (λg=>n.testBit g) x r h->h∈aX n->x.length<=j*((aX n).length-1)->j+gs.length<=8->
  ∃x' h' j' x5',forR (tgN 5) aCu (nats gs) (aX9 S rk c n r x h x5)=.ok (.nx (aX9 S rk c n r x' h' x5'))/\Pat S c (λg=>n.testBit g) x' r h'/\h'∈aX n/\x'.length<=j' * ((aX n).length-1)/\j'<=j+(gs.filter λg=>!decide (g=r)).length/\(∀g∈gs,g∈r::runs S r x')/\∀g∈r::runs S r x,g∈r::runs S r x'
 |[],x,h,j,x5,_,h1,h2,h3,_=>⟨x,h,j,x5,rfl,h1,h2,h3,Nat.le_add_right _ _,λ_ z=>(nomatch z),λ_ z=>z⟩
 |g::gs,x,h,j,x5,hg,h1,h2,h3,h4=>by
  have n8:=M.most;rw[length_cons]at h4;have hk:(aX n).length<=8:=Nat.le_trans (mK S.length _ (fV _) λy hy=>cD hn hy) n8
  have hx:x.length<=100:=by
   have:j*((aX n).length-1)<=8*7:=Nat.mul_le_mul (by omega) (by omega)
   omega
  have hrl:=cD hn hr;obtain⟨p1,p2,_⟩:=jN (r::runs S r x);have t:e2 wB (aB 5) (dU "Machine" "rooms_along" (bD) [] (aB 0) (aC (aB 2) (aC (aB 3) aU))) (aX9 S rk c n r x h (some (.v (.int g))))=.ok (.bl (!decide (g∈r::runs S r x))):=aH rfl ((aHl rfl rfl).trans (aHb M hrl x (aLm h1) (by omega))) (by
   rw[<-aG5];exact aF ⟨by rw[p2];exact zero_le 60,rfl,p1⟩)
  by_cases hm:g∈r::runs S r x
  .rw[decide_eq_true hm]at t;obtain⟨x',h',j',x5',e,k1,k2,k3,k4,k5,k6⟩:=aC3 M hn hL hr gs x h j (some (.v (.int g))) (λy hy=>hg y (mem_cons_of_mem _ hy)) h1 h2 h3 (by omega)
   refine⟨x',h',j',x5',jM rfl (qM t rfl) e,k1,k2,k3,Nat.le_trans k4 ?_,λy hy=>?_,k6⟩
   .by_cases z:(!decide (g=r))=true
    .rw[filter_cons_of_pos (p:=λg=>!decide (g=r)) z,length_cons];omega
    .rw[filter_cons_of_neg (p:=λg=>!decide (g=r)) z];exact Nat.le_refl _
   .rcases List.mem_cons.mp hy with rfl|hy
    .exact k6 _ hm
    .exact k5 y hy
  .rw[decide_eq_false hm]at t;have hgr:g≠r:=λz=>hm (by rw[z];exact mem_cons_self)
   obtain⟨u,w1,w2,w3⟩:=aNr M hn hL h2 (hg g mem_cons_self);have hl:(x++u).length<=(j+1)*((aX n).length-1):=by
    rw[length_append,Nat.add_mul,Nat.one_mul];omega
   obtain⟨x',h',j',x5',e,k1,k2,k3,k4,k5,k6⟩:=aC3 M hn hL hr gs (x++u) g (j+1) (some (.v (.int g))) (λy hy=>hg y (mem_cons_of_mem _ hy)) (aAj h1 w2) (hg g mem_cons_self) hl (by omega)
   have up:∀y∈r::runs S r x,y∈r::runs S r (x++u):=λy hy=>by
    rw[aHk];rcases List.mem_cons.mp hy with rfl|hy
    .exact mem_cons_self
    .exact mem_cons_of_mem _ (List.mem_append_left _ hy)
   refine⟨x',h',j',x5',jM rfl (aFu t (aQ (st':=aX9 S rk c n r (x++u) h (some (.v (.int g)))) (bK (aH rfl (aV rfl w1) (aF (dD (by omega))))) (bK rfl))) e,k1,k2,k3,Nat.le_trans k4 ?_,λy hy=>?_,λy hy=>k6 y (up y hy)⟩
   .rw[filter_cons_of_pos (by rw[decide_eq_false hgr];rfl),length_cons];omega
   .rcases List.mem_cons.mp hy with rfl|hy
    .refine k6 _ ?_
     have:=aLn (S:=S) (x++u) r;rw[aDc (aAj h1 w2)]at this;exact this
    .exact k5 y hy
theorem bF8(nd:l.Nodup)(hr:r∈l):(l.filter λg=>!decide (g=r)).length+1<=l.length:=by
 have h1:(l.filter λg=>!decide (g=r)).length<l.length:=by
  rcases Nat.lt_or_eq_of_le (length_filter_le (λg=>!decide (g=r)) l) with h|h
  .exact h
  .have:=List.length_filter_eq_length_iff.mp h r hr;rw[decide_eq_true rfl]at this;cases this
 omega
theorem aHm(M:Mch S rk c)(hn:n<2^S.length)(hL:LpN S c n)(hr:r∈aX n):∃u,sH [mD S rk c,.int n,.int r]=.ok (.str u)/\Rnd S c n r u:=by
 have n8:=M.most;have c3:=M.c3;have hrl:=cD hn hr;have hro:=mL hn (by omega)
 have hk:(aX n).length<=8:=Nat.le_trans (mK S.length _ (fV _) λy hy=>cD hn hy) n8
 have a1:sIf (rF (aW vD (aC (aB 0) (aC (aB 1) aU)))) qQ dM [some (.v (mD S rk c)),some (.v (.int n)),some (.v (.int r)),none,none,none]=.ok (.nx [some (.v (mD S rk c)),some (.v (.int n)),some (.v (.int r)),none,none,none]):=qM ((qU (p:=true) (aV rfl (by rw[aQ0 M hn,decide_eq_true ((aU2 M hn).mpr hL)])))) rfl
 have a2:sIf (rF (aW fU (aC (aB 1) (aC (aB 2) aU)))) qQ dM [some (.v (mD S rk c)),some (.v (.int n)),some (.v (.int r)),none,none,none]=.ok (.nx [some (.v (mD S rk c)),some (.v (.int n)),some (.v (.int r)),none,none,none]):=qM ((qU (p:=true) (aV rfl (by rw[zM,aZ.mp hr])))) rfl
 have t3:=aH (op:=dEq) (f:=aW cA (aC (aB 1) aU)) (g:=nZ (aC (aB 2) aU)) (st:=[some (.v (mD S rk c)),some (.v (.int n)),some (.v (.int r)),none,none,none]) (aV rfl hro) (lZ (ds:=nats [r]) rfl) (bF7 (aX n) [r])
 by_cases h1:aX n=[r]
 .rw[decide_eq_true h1]at t3;have hq:=hL.2.2;unfold roundN at hq;rw[h1]at hq;have hq':r∈S.getD r []:=by
   have:=of_decide_eq_true (show decide (r∈S.getD r [])=true from hq)
   exact this
  have hg:S.getD r []=S[r]:=by rw[getD_eq_getElem?_getD,List.getElem?_eq_getElem hrl];rfl
  rw[hg]at hq';have hrow:=(M.row S[r] (List.getElem_mem hrl)).1;have hs:((S[r].map λ(x:Nat)=>(x:Int)).findIdx? λi=>i==(r:Int)).isSome=true:=by
   rw[List.findIdx?_isSome,List.any_eq_true];exact⟨(r:Int),List.mem_map.mpr ⟨r,hq',rfl⟩,by simp⟩
  obtain⟨k,hk'⟩:=Option.isSome_iff_exists.mp hs;obtain⟨k1,k2,_⟩:=List.findIdx?_eq_some_iff_getElem.mp hk';rw[length_map]at k1;have hkr:S[r][k]=r:=by
   rw[List.getElem_map,beq_iff_eq]at k2;exact Int.ofNat_inj.mp k2
  have hst:stp S r k=r:=by
   unfold stp;rw[hg,getD_eq_getElem?_getD,List.getElem?_eq_getElem k1];exact hkr
  have hix:eMt aRd (e2 dIx (e1 (fD "Machine" "steps") (aB 0)) (aB 2)) (aC (aB 2) aU) [some (.v (mD S rk c)),some (.v (.int n)),some (.v (.int r)),none,none,none]=.ok (.int k):=by
   unfold eMt;rw[aH (show e1 (fD "Machine" "steps") (aB 0) [some (.v (mD S rk c)),some (.v (.int n)),some (.v (.int r)),none,none,none]=_ from pN) rfl (eX (aH9 hrl))]
   show (xP (nats S[r])).bind _=_;rw[show nats S[r]=(S[r].map λ(x:Nat)=>(x:Int)).map D.int by rw[List.map_map];rfl,rT,aM,hk']
   show R.bind (.ok k) _=_;rw[aM];exact aF (dD (by rw[length_map,length_map];omega))
  refine⟨[97+k],bT rfl (dX a1 (dX a2 (aLc ((aFu t3 (cU (aH rfl hix (aS1 (by omega)))))))) ),⟨⟨k,by omega,rfl,by rw[hst];exact aZ.mp hr,hst⟩,by simp,by rw[h1];exact Nat.le_refl _,λg hg=>?_⟩⟩
  rw[h1,List.mem_singleton]at hg;show g∈stp S r (97+k-97)::[];rw[show 97+k-97=k by omega,hst,hg]
  exact mem_cons_self
 .rw[decide_eq_false h1]at t3;obtain⟨g0,hg0,hne⟩:∃g0∈aX n,g0≠r:=Classical.byContradiction λz=>h1 (by
   have all:∀y∈aX n,y=r:=λy hy=>Classical.byContradiction λw=>z ⟨y,hy,w⟩
   have nd:=fV n;cases hm:aX n with
   |nil=>rw[hm]at hr;cases hr
   |cons a T=>
    rw[hm]at all nd;have ea:=all a mem_cons_self;cases T with
    |nil=>rw[ea]
    |cons b T=>
     have eb:=all b (by simp)
     exact absurd (by simp[ea,eb]) (List.nodup_cons.mp nd).1)
  obtain⟨x,h,j,x5,e,k1,k2,k3,k4,k5,_⟩:=aC3 M hn hL hr (aX n) [] r 0 none (λ_ z=>z) rfl hr (zero_le _) (by omega)
  obtain⟨y,w1,w2,w3⟩:=aNr M hn hL k2 hr;have hc:=bF8 (fV n) hr;have hxl:x.length<=((aX n).length-1)*((aX n).length-1):=Nat.le_trans k3 (Nat.mul_le_mul_right _ (by omega))
  have hxn:x≠[]:=λz=>by
   rw[z]at k5;rcases List.mem_cons.mp (k5 g0 hg0) with z'|z'
   .exact hne z'
   .cases z'
  have hp:=aAj k1 w2;have hne':x++y≠[]:=λz=>hxn (List.append_eq_nil_iff.mp z).1
  have hlen:(x++y).length<=(aX n).length*(aX n).length:=by
   obtain⟨k,hk2⟩:∃k,(aX n).length=k+1:=⟨(aX n).length-1,by omega⟩
   rw[hk2,Nat.add_sub_cancel]at hxl;rw[length_append,hk2,Nat.add_mul,Nat.mul_add,Nat.one_mul];omega
  have h64:(aX n).length*(aX n).length<=8*8:=Nat.mul_le_mul hk hk;refine⟨x++y,bT rfl (dX a1 (dX a2 (dX ((qM t3 rfl)) (aQ ((bK rfl)) (aQ (st':=aX9 S rk c n r [] r none) ((bK rfl)) (aQ ((iK (tZ (aV rfl hro)) e)) ((cU (aH rfl (aV rfl w1) (aF (dD (by rw[length_append]at hlen;omega)))))))))))),⟨hp,hne',hlen,λg hg=>?_⟩⟩
  rcases List.mem_cons.mp (k5 g hg) with rfl|z
  .have:=aX8 (S:=S) hne' g
   rwa [aDc hp]at this
  .rw[aHk];exact List.mem_append_left _ z
end
theorem aS3{x:Int}:∀(l acc:List Int),x∈l.foldl (λacc x=>if acc.any (· == x) then acc else acc++[x]) acc↔x∈acc\/x∈l
 |[],acc=>by simp
 |y::l,acc=>by
  rw[foldl_cons,aS3 l]
  by_cases h:acc.any (· == y)=true
  .rw[if_pos h];have hy:y∈acc:=by
    obtain⟨z,hz,e⟩:=List.any_eq_true.mp h;rw[<-eq_of_beq e];exact hz
   constructor
   .rintro(z|z)
    .exact .inl z
    .exact .inr (mem_cons_of_mem _ z)
   .rintro(z|z)
    .exact .inl z
    .rcases List.mem_cons.mp z with rfl|z
     .exact .inl hy
     .exact .inr z
  .rw[if_neg h,List.mem_append,List.mem_singleton,mem_cons,or_assoc]
theorem bF9{x:Int}{l:List Int}:x∈yH (yS l)↔x∈l:=by
 rw[(sE _).mem_iff];unfold yS;rw[aS3];simp
theorem aQ2(l:List Int):∀acc:List Int,(l.foldl (λacc x=>if acc.any (· == x) then acc else acc++[x]) acc).length<=acc.length+l.length:=by
 induction l with
 |nil=>intro acc;exact Nat.le_refl _
 |cons y l ih=>
  intro acc;rw[foldl_cons,length_cons];refine Nat.le_trans (ih _) ?_
  split
  .omega
  .rw[length_append,length_singleton];omega
section
variable{S:List (List Nat)}{rk:List Nat}{c n al:Nat}{p:Int}{w:Bool}
theorem aDd(h0:n≠0):aX n≠[]:=λz=>h0 (by
 have:=pO n;rw[z]at this;exact this.symm)
theorem sO(h0:n≠0):(∃r∈aX n,(rk.getD r 0:Int)=tH rk n)/\∀r∈aX n,(rk.getD r 0:Int)<=tH rk n:=by
 obtain⟨h1,h2⟩:=bAp (l:=(aX n).map λr=>(rk.getD r 0:Int)) (by simpa using aDd h0)
 obtain⟨r,hr,e⟩:=List.mem_map.mp h1;exact⟨⟨r,hr,e⟩,λr hr=>h2 _ (List.mem_map.mpr ⟨r,hr,rfl⟩)⟩
theorem bFa{r:Nat}(hr:r∈aX n)(e:(rk.getD r 0:Int)=p)(hx:∀r∈aX n,(rk.getD r 0:Int)<=p):tH rk n=p:=
 aL4 (List.mem_map.mpr ⟨r,hr,e⟩) λx hx'=>by
  obtain⟨r,hr,rfl⟩:=List.mem_map.mp hx';exact hx r hr
def vK(rk:List Nat)(al:Nat)(p:Int):Nat:=cX ((aX al).filter λr=>decide ((rk.getD r 0:Int)<=p))
theorem aLo:r∈aX (vK rk al p)↔r∈aX al/\(rk.getD r 0:Int)<=p:=by
 unfold vK;rw[pP,List.mem_filter,decide_eq_true_eq]
theorem aEj(ha:al<2^S.length):vK rk al p<2^S.length:=aAi λr hr=>cD ha (List.mem_filter.mp hr).1
noncomputable def uA(S:List (List Nat))(c:Nat)(rk:List Nat)(al:Nat)(p:Int):List Nat:=(lC S c (vK rk al p)).filter λm=>decide (tH rk m=p)
noncomputable def aU5(rk:List Nat)(al:Nat)(w:Bool):List Int:=(yH (yS ((aX al).map λr=>(rk.getD r 0:Int)))).filter λp=>decide (p%2=0)==w
noncomputable def sS(S:List (List Nat))(c:Nat)(rk:List Nat)(al:Nat)(w:Bool):List Nat:=(aU5 rk al w).flatMap (uA S c rk al)
noncomputable def aFd(S:List (List Nat))(c:Nat)(rk:List Nat)(al:Nat)(p:Int)(r:Nat):Bool:=roundN S (fB S c (vK rk al p) r)&&decide (tH rk (fB S c (vK rk al p) r)=p)
theorem aU6(M:Mch S rk c)(ha:al<2^S.length){r:Nat}(hr:r∈aX (vK rk al p))(hg:aFd S c rk al p r=true):LpN S c (fB S c (vK rk al p) r)/\(∀g∈aX (fB S c (vK rk al p) r),g∈aX al)/\tH rk (fB S c (vK rk al p) r)=p:=by
 unfold aFd at hg;rw[and_eq_true,decide_eq_true_eq]at hg;exact⟨aJy M (aEj ha) hr hg.1,λg hg=>(aLo.mp (aRw M (aEj ha) hr hg)).1,hg.2⟩
theorem aJz(M:Mch S rk c)(ha:al<2^S.length){m:Nat}(hm:LpN S c m)(hs:∀g∈aX m,g∈aX al)(ht:tH rk m=p) (hr:r∈aX m):r∈aX (vK rk al p)/\aFd S c rk al p r=true/\∀g∈aX m,g∈aX (fB S c (vK rk al p) r):=by
 obtain⟨⟨g,hg,eg⟩,hx⟩:=sO (rk:=rk) hm.1;rw[ht]at eg hx;have hsub:∀g∈aX m,g∈aX (vK rk al p):=λg hg=>aLo.mpr ⟨hs g hg,hx g hg⟩
 have hin:=bAo M (aEj ha) hm hsub hr;refine⟨hsub r hr,?_,hin⟩;unfold aFd;rw[aX4 hm hin,decide_eq_true (bFa (hin g hg) eg λy hy=>(aLo.mp (aRw M (aEj ha) (hsub r hr) hy)).2)]
 rfl
theorem aK0(M:Mch S rk c)(ha:al<2^S.length){m:Nat}(h:m∈uA S c rk al p):m<2^S.length/\LpN S c m/\(∀g∈aX m,g∈aX al)/\tH rk m=p:=by
 obtain⟨h1,h2⟩:=List.mem_filter.mp h;obtain⟨r,hr,rfl,hq⟩:=vJ.mp h1;exact⟨aLk,aU6 M ha hr (by unfold aFd;rw[hq,h2];rfl)⟩
theorem aG8:p∈aU5 rk al w↔(∃r∈aX al,(rk.getD r 0:Int)=p)/\(decide (p%2=0)==w)=true:=by
 unfold aU5;rw[List.mem_filter,bF9,List.mem_map]
end
theorem aNs{tg:Tg}{C E:Ex}{st:PSt}{q:Int->Bool}:∀(ks:List Int),(∀k∈ks,∃s1,tg (.int k) st=.ok s1/\C s1=.ok (.bl (q k))/\E s1=.ok (.int k))->jY tg C E st (ks.map D.int)=.ok ((ks.filter q).map D.int)
 |[],_=>rfl
 |k::ks,h=>by
  obtain⟨s1,a1,a2,a3⟩:=h k mem_cons_self;have ih:=aNs ks λk hk=>h k (mem_cons_of_mem _ hk)
  rw[map_cons,nD,a1,aM,a2,aM,nC];cases hq:q k with
  |true=>rw[filter_cons_of_pos hq,map_cons,if_pos rfl,a3,aM,ih];rfl
  |false=>rw[filter_cons_of_neg (by rw[hq];decide),if_neg Bool.false_ne_true,ih]
theorem bFb(p q:Bool):dEq (.bl p) (.bl q)=.ok (.bl (p==q)):=aF ⟨zero_le 64,rfl,rfl⟩
section
variable {c al:Nat} {p:Int} {w:Bool}
theorem bD2(M:Mch S rk c){r:Nat}(hr:r<S.length):atI (nats rk) (r:Int)=some (.int (rk.getD r 0:Nat)):=by
 have hr':r<rk.length:=by rw[M.rks];exact hr
 rw[atI_nat (by rw[bM];exact hr')]
 simp[nats,getD_eq_getElem?_getD,List.getElem?_eq_getElem hr']
theorem aDe(hn:n<2^S.length):(aX n).length<=S.length:=mK S.length _ (fV _) λx hx=>cD hn hx
theorem bAq(M:Mch S rk c)(ha:al<2^S.length):mU [mD S rk c,.int al,.bl w]=.ok (.lst ((aU5 rk al w).map D.int)):=by
 have n8:=M.most;have hro:=mL ha (by omega)
 have hl:=aDe ha;have c1:=lB (tg:=tgN 5) (C:=dG) (E:=oE) (st:=[some (.v (mD S rk c)),some (.v (.int al)),some (.v (.bl w)),none,none,none]) (q:=λ_=>true) (G:=λr=>.int (rk.getD r 0:Nat)) (aX al) (λr hr=>⟨_,rfl,rfl,aH (show fD "Machine" "ranks" (mD S rk c)=_ from aC2) rfl (eX (bD2 M (cD ha hr)))⟩)
 rw[List.filter_eq_self.mpr λ_ _=>rfl]at c1
 have em:(aX al).map (λr=>D.int (rk.getD r 0:Nat))=((aX al).map λr=>(rk.getD r 0:Int)).map D.int:=by rw[List.map_map];rfl
 rw[em]at c1;have h1:e1 aL6 (dF [5] (tgN 5) (itE (aW cA (aC (aB 1) aU))) dG oE) [some (.v (mD S rk c)),some (.v (.int al)),some (.v (.bl w)),none,none,none]=.ok (.lst ((yH (yS ((aX al).map λr=>(rk.getD r 0:Int)))).map D.int)):=by
  rw[aN5,iC (tZ (aV rfl hro)) (by rw[bM];omega) c1,aM]
  show (xP _).bind _=_;rw[rT,aM];exact aF ⟨by rw[length_map];omega,Nat.lt_of_le_of_lt (aQ2 _ []) (by rw[length_map,length_nil];omega)⟩
 have hs:(yH (yS ((aX al).map λr=>(rk.getD r 0:Int)))).length<=S.length:=by
  rw[(sE _).length_eq];refine Nat.le_trans (aQ2 _ []) ?_
  rw[length_map];simpa using hl
 refine bT rfl (aQ (bK h1) (cU (iC (tZ rfl) (by rw[length_map];omega) (aNs (q:=λp=>decide (p%2=0)==w) _ λk _=>⟨_,rfl,aH (aH (aH rfl rfl (sJ (by decide))) rfl (zJ _ _)) rfl (bFb _ _),rfl⟩))))
theorem aK1:(lC S c n).length<=(aX n).length:=by
 have hf:∀(rs ps:List Nat),(rs.foldl (λps r=>if fB S c n r∉ps/\roundN S (fB S c n r)=true then ps++[fB S c n r] else ps) ps).length<=ps.length+rs.length:=λrs=>by
  induction rs with
  |nil=>intro ps;exact Nat.le_refl _
  |cons r rs ih=>
   intro ps;rw[foldl_cons,length_cons];refine Nat.le_trans (ih _) ?_
   split
   .rw[length_append,length_singleton];omega
   .omega
 have:=hf (aX n) [];unfold lC;simpa using this
theorem aS4(M:Mch S rk c)(hn:n<2^S.length) (h:m∈lC S c n):m<2^S.length/\m≠0:=by
 obtain⟨r,hr,rfl,hq⟩:=vJ.mp h;exact⟨aLk,(aJy M hn hr hq).1⟩
theorem aU7(M:Mch S rk c)(ha:al<2^S.length):kJ [mD S rk c,.int al,.int p]=.ok (.lst (nats (uA S c rk al p))):=by
 have n8:=M.most;have hro:=mL ha (by omega)
 have hl:=aDe ha;have hlow:=aEj (rk:=rk) (p:=p) ha;have h1:mV [some (.v (mD S rk c)),some (.v (.int al)),some (.v (.int p)),none,none,none]=.ok (.nx [some (.v (mD S rk c)),some (.v (.int al)),some (.v (.int p)),some (.v (.int (vK rk al p))),none,none]):=by
  refine aQ (bK (aV (aP (iC (tZ (aV rfl hro)) (by rw[bM];omega) (lB (q:=λr=>decide ((rk.getD r 0:Int)<=p)) (G:=λr=>.int r) (aX al) λr hr=>⟨_,rfl,aH (aH (show fD "Machine" "ranks" (mD S rk c)=_ from aC2) rfl (eX (bD2 M (cD ha hr)))) rfl rfl,rfl⟩)) rfl) (aD8 (l:=(aX al).filter λr=>decide ((rk.getD r 0:Int)<=p)) (λr hr=>by have:=cD ha (List.mem_filter.mp hr).1;omega) (by have:=length_filter_le (λr=>decide ((rk.getD r 0:Int)<=p)) (aX al);omega)))) rfl
 have hpl:=Nat.le_trans (aK1 (S:=S) (c:=c) (n:=vK rk al p)) (aDe hlow);have h2:=iC (is:=[4]) (it:=itE (aW gZ (aC (aB 0) (aC (aB 3) aU)))) (st:=[some (.v (mD S rk c)),some (.v (.int al)),some (.v (.int p)),some (.v (.int (vK rk al p))),none,none]) (tZ (aV rfl (aNn M hlow))) (by rw[bM];omega) (lB (tg:=tgN 4) (C:=lM) (E:=lL) (q:=λm=>decide (tH rk m=p)) (G:=λr=>.int r) (lC S c (vK rk al p)) λm hm=>⟨_,rfl,aH (aV rfl (bF3 M (aS4 M hlow hm).1 (aS4 M hlow hm).2)) rfl (zJ _ _),rfl⟩)
 refine bT rfl ?_
 show tQ mV _ [some (.v (mD S rk c)),some (.v (.int al)),some (.v (.int p)),none,none,none]=_;unfold tQ;rw[h1];show R.bind (dF [4] (tgN 4) (itE (aW gZ (aC (aB 0) (aC (aB 3) aU)))) lM lL [some (.v (mD S rk c)),some (.v (.int al)),some (.v (.int p)),some (.v (.int (vK rk al p))),none,none]) _=_;rw[h2];rfl
theorem aK2(M:Mch S rk c)(ha:al<2^S.length):∀(ps:List Int)(F:List Nat)(x4:Option Sl),F.length+8*ps.length<=1000->∃x4',forR (tgN 4) tV (ps.map D.int) [some (.v (mD S rk c)),some (.v (.int al)),some (.v (.bl w)),some (.o .l (nats F)),x4]=.ok (.nx [some (.v (mD S rk c)),some (.v (.int al)),some (.v (.bl w)),some (.o .l (nats (F++ps.flatMap (uA S c rk al)))),x4'])
 |[],F,x4,_=>⟨x4,by rw[List.flatMap_nil,append_nil];rfl⟩
 |p::ps,F,x4,hl=>by
  rw[length_cons]at hl;have n8:=M.most;have ht:(uA S c rk al p).length<=8:=Nat.le_trans (length_filter_le _ _) (Nat.le_trans (aK1 (S:=S) (c:=c)) (Nat.le_trans (aDe (aEj ha)) n8));obtain⟨x4',e⟩:=aK2 M ha ps (F++uA S c rk al p) (some (.v (.int p))) (by rw[length_append];omega)
  rw[List.append_assoc]at e;have hx:=aWf (i:=3) (f:=aW kJ (aC (aB 0) (aC (aB 1) (aC (aB 4) aU)))) (st:=[some (.v (mD S rk c)),some (.v (.int al)),some (.v (.bl w)),some (.o .l (nats F)),some (.v (.int p))]) (aV rfl (aU7 (p:=p) M ha)) rfl (dD (by rw[bM,bM];omega))
  refine⟨x4',jM rfl hx ?_⟩;rw[<-(show nats (F++uA S c rk al p)=nats F++nats (uA S c rk al p) from List.map_append),List.flatMap_cons]
  exact e
theorem aLp(M:Mch S rk c)(ha:al<2^S.length):eV [mD S rk c,.int al,.bl w]=.ok (.lst (nats (sS S c rk al w))):=by
 have n8:=M.most;have hr:(aU5 rk al w).length<=8:=by
  refine Nat.le_trans (length_filter_le _ _) ?_
  rw[(sE _).length_eq];refine Nat.le_trans (aQ2 _ []) ?_
  rw[length_map];have:=aDe ha;simp only[length_nil];omega
 obtain⟨x4,e⟩:=aK2 (w:=w) M ha (aU5 rk al w) [] none (by simp only[length_nil];omega)
 exact bT rfl (aQ (wK (lZ rfl)) (aQ (iK (tZ (aV rfl (bAq M ha))) e) rfl))
end
section
variable {c:Nat} {f:Nat->Nat} {s e:Nat}
theorem aQ3(hf:∀n,97<=f n/\(f n:Int)<97+c){al:Nat->Bool}{m:Nat}:∀k,(∀j,m<j->j<=m+k->al (fw S f q j)=true)->Rch S c al (fw S f q m) (fw S f q (m+k))
 |0,_=>.here
 |k+1,h=>by
  have ih:=aQ3 hf (al:=al) (m:=m) k λj h1 h2=>h j h1 (by omega)
  have h3:=h (m+k+1) (by omega) (by omega)
  have hk:=hf (m+k);exact Rch.on (l:=f (m+k)-97) ih (by omega) h3
theorem aU8(M:Mch S rk c)(hf:∀n,97<=f n/\(f n:Int)<97+c)(hq:q<S.length)(L:Lp S f q s e):LpN S c (cX (seg S f q s e)):=by
 have hl:=L.lt;have mem:∀{x},x∈aX (cX (seg S f q s e))↔∃n,s<=n/\n<e/\fw S f q n=x:=λ{x}=>by rw[pP,oG]
 have al:∀j,s<=j->inN (cX (seg S f q s e)) (fw S f q j)=true:=λj hj=>by
  obtain⟨m,a1,a2,a3⟩:=L.into j hj;exact aZ.mp (mem.mpr ⟨m,a1,a2,a3.symm⟩)
 have h0:fw S f q s∈aX (cX (seg S f q s e)):=mem.mpr ⟨s,Nat.le_refl _,hl,rfl⟩;refine⟨λz=>?_,λa ha b hb=>?_,?_⟩
 .rw[z,aZ,zero_testBit]at h0;cases h0
 .obtain⟨i,i1,i2,rfl⟩:=mem.mp ha;obtain⟨j,j1,j2,rfl⟩:=mem.mp hb;have:=aQ3 (S:=S) (q:=q) hf (al:=inN (cX (seg S f q s e))) (m:=i) (j+(e-s)-i) λk h1 h2=>al k (by omega)
  rw[show i+(j+(e-s)-i)=j+(e-s) by omega,L.at j j1]at this
  exact this
 .unfold roundN
  by_cases h1:1<(aX (cX (seg S f q s e))).length
  .rw[decide_eq_true h1];rfl
  .have h2:fw S f q (s+1)∈aX (cX (seg S f q s e)):=aZ.mpr (al (s+1) (by omega))
   have:=hf s;cases hm:aX (cX (seg S f q s e)) with
   |nil=>rw[hm]at h0;cases h0
   |cons x T=>
    rw[hm]at h0 h1 h2;have hT:T=[]:=by
     cases T with
     |nil=>rfl
     |cons y T=>simp at h1
    subst hT;have e0:=List.mem_singleton.mp h0;have e1:=List.mem_singleton.mp h2;have:x∈S.getD x []:=(aHh M (by rw[<-e0];exact zL M hf hq s)).mpr ⟨f s-97,by omega,by
     have h9:stp S (fw S f q s) (f s-97)=fw S f q (s+1):=rfl;rw[e0,e1]at h9;exact h9⟩
    rw[or_eq_true];exact .inr (decide_eq_true this)
theorem bAr{a b:Nat}:0<a&&&b↔∃g,a.testBit g=true/\b.testBit g=true:=by
 constructor
 .intro h;obtain⟨g,hg⟩:=Nat.exists_testBit_of_ne_zero (Nat.pos_iff_ne_zero.mp h);rw[testBit_and,and_eq_true]at hg;exact⟨g,hg⟩
 .rintro⟨g,h1,h2⟩;refine Nat.pos_of_ne_zero λz=>?_
  have:(a&&&b).testBit g=true:=by rw[testBit_and,h1,h2];rfl
  rw[z,zero_testBit]at this;cases this
end
section
variable{S:List (List Nat)}{rk:List Nat}{c n al:Nat}{q:Nat}{w:Bool}
def jn(L:List Nat)(b:Nat):Nat:=L.foldl (λb m=>b|||m) b
theorem aQ4{g:Nat}:∀(L:List Nat)(b:Nat),g∈aX (jn L b)↔g∈aX b\/∃m∈L,g∈aX m
 |[],b=>by
  constructor
  .exact .inl
  .rintro(z|⟨m,h,_⟩)
   .exact z
   .cases h
 |m::L,b=>by
  show g∈aX (jn L (b|||m))↔_
  rw[aQ4 L,aZ,testBit_or,or_eq_true,<-aZ,<-aZ];constructor
  .rintro((z|z)|⟨o,h1,h2⟩)
   .exact .inl z
   .exact .inr ⟨m,mem_cons_self,z⟩
   .exact .inr ⟨o,mem_cons_of_mem _ h1,h2⟩
  .rintro(z|⟨o,h1,h2⟩)
   .exact .inl (.inl z)
   .rcases List.mem_cons.mp h1 with rfl|h1
    .exact .inl (.inr h2)
    .exact .inr ⟨o,h1,h2⟩
theorem bI9(a b:Nat):dOr (.int a) (.int b)=.ok (.int ((a|||b:Nat):Int)):=by
 have:dOr (.int (a:Int)) (.int (b:Int))=.ok (.int (((a:Int).toNat|||(b:Int).toNat:Nat):Int)):=aF ⟨by omega,by omega⟩
 rw[this,toNat_natCast,toNat_natCast]
theorem aS5(x0:Option Sl):∀(L:List Nat)(b:Nat)(x2:Option Sl),∃y2,forR (tgN 2) aH3 (nats L) [x0,some (.v (.int b)),x2]=.ok (.nx [x0,some (.v (.int (jn L b))),y2])
 |[],b,x2=>⟨x2,rfl⟩
 |m::L,b,x2=>by
  obtain⟨y2,e⟩:=aS5 x0 L (b|||m) (some (.v (.int m)))
  exact⟨y2,jM rfl (bK (aH rfl rfl (bI9 b m))) e⟩
theorem bIa(L:List Nat):aCx [.lst (nats L)]=.ok (.int (jn L 0)):=by
 obtain⟨y2,e⟩:=aS5 (some (.v (.lst (nats L)))) L 0 none;exact bT rfl (aQ (bK rfl) (aQ (iK (tZ rfl) e) rfl))
theorem aQ5(p:Nat->Bool):∀k,cX ((List.range k).filter p)+cX ((List.range k).filter λr=>!p r)=cX (List.range k):=λk=>by
 have h1:=aDa p k;have h2:=aDa (λr=>!p r) k
 have h3:=aDa (λ_=>true) k
 have e3:(List.range k).filter (λ_=>true)=List.range k:=List.filter_eq_self.mpr λ_ _=>rfl
 rw[e3]at h3;rw[<-h1,<-h2,<-h3];generalize List.range k=l
 induction l with
 |nil=>rfl
 |cons a l ih=>
  cases h:p a with
  |true=>rw[filter_cons_of_pos h,filter_cons_of_neg (by rw[h];decide),map_cons,map_cons,sum_cons,sum_cons];omega
  |false=>rw[filter_cons_of_neg (by rw[h];decide),filter_cons_of_pos (by rw[h];rfl),map_cons,map_cons,sum_cons,sum_cons];omega
theorem bAs(p:Nat->Bool)(k:Nat):aWa (.int (cX (List.range k):Nat)) (.int (cX ((List.range k).filter p):Nat))=.ok (.int (cX ((List.range k).filter λr=>!p r):Nat)):=by
 have e:aWa (.int (cX (List.range k):Nat)) (.int (cX ((List.range k).filter p):Nat))=.ok (.int ((((cX (List.range k):Int).toNat|||(cX ((List.range k).filter p):Int).toNat:Nat):Int)-(((cX (List.range k):Int).toNat&&&(cX ((List.range k).filter p):Int).toNat:Nat):Int))):=aF ⟨by omega,by omega⟩
 have o1:cX (List.range k)|||cX ((List.range k).filter p)=cX (List.range k):=bF4.mpr λg hg=>pP.mpr (List.mem_filter.mp (pP.mp hg)).1
 have o2:cX (List.range k)&&&cX ((List.range k).filter p)=cX ((List.range k).filter p):=eq_of_testBit_eq λr=>by
  rw[testBit_and,iD,iD]
  by_cases h:r∈(List.range k).filter p
  .rw[decide_eq_true h,decide_eq_true (List.mem_filter.mp h).1];rfl
  .rw[decide_eq_false h,Bool.and_false]
 rw[e,toNat_natCast,toNat_natCast,o1,o2];have:=aQ5 p k;congr 2;omega
noncomputable def aHn(S:List (List Nat))(c:Nat)(rk:List Nat)(w:Bool):Nat:=jn (sS S c rk (cX (List.range S.length)) w) 0
theorem aXa(M:Mch S rk c):fP [mD S rk c,.bl w]=.ok (.int (cX ((List.range S.length).filter λr=>!aDb S c (aHn S c rk w) r))):=
 bT rfl (aQ (bK (aV rfl (aRx M))) (aQ (bK (aV (aP (aV rfl (aLp M aQ1)) rfl) (bIa _))) (cU (aH rfl (aV rfl (aX6 M _)) (bAs _ _)))))
theorem aG9(M:Mch S rk c) (hr:r<S.length):aDb S c (aHn S c rk w) r=true↔∃m,m<2^S.length/\LpN S c m/\(∀g∈aX m,g∈aX (fW S c (cX (List.range S.length)) r))/\(decide (tH rk m%2=0)==w)=true:=by
 have ha:cX (List.range S.length)<2^S.length:=aQ1;unfold aDb;rw[decide_eq_true_eq,bAr];have sees:∀{g},(fW S c (cX (List.range S.length)) r).testBit g=true↔Rch S c (inN (cX (List.range S.length))) r g:=λ{g}=>gU M hr g
 have inAll:∀{m:Nat},m<2^S.length->∀g∈aX m,g∈aX (cX (List.range S.length)):=λhm g hg=>pP.mpr (List.mem_range.mpr (cD hm hg))
 constructor
 .rintro⟨g,h1,h2⟩;rcases (aQ4 _ _).mp (aZ.mpr h2) with z|⟨m,hm,hgm⟩
  .rw[aZ,zero_testBit]at z;cases z
  .obtain⟨p,hp,ht⟩:=List.mem_flatMap.mp hm;obtain⟨t1,t2,t3,t4⟩:=aK0 M ha ht;refine⟨m,t1,t2,λx hx=>aZ.mpr (sees.mpr ?_),by rw[t4];exact(aG8.mp hp).2⟩
   exact Rch.trans (sees.mp h1) (Rch.mono (λy hy=>aZ.mp (inAll t1 y (aZ.mpr hy))) (t2.2.1 g hgm x hx))
 .rintro⟨m,h1,h2,h3,h4⟩;have h0:=aDd h2.1;obtain⟨g,T,hg⟩:∃g T,aX m=g::T:=by
   cases h:aX m with
   |nil=>exact(h0 h).elim
   |cons g T=>exact⟨g,T,rfl⟩
  have hgm:g∈aX m:=by rw[hg];exact mem_cons_self
  obtain⟨l1,l2,l3⟩:=aJz M ha h2 (inAll h1) rfl hgm;obtain⟨⟨x,hx,ex⟩,_⟩:=sO (rk:=rk) h2.1;refine⟨g,aZ.mp (h3 g hgm),aZ.mp ((aQ4 _ _).mpr (.inr ⟨fB S c (vK rk (cX (List.range S.length)) (tH rk m)) g,?_,l3 g hgm⟩))⟩;refine List.mem_flatMap.mpr ⟨tH rk m,aG8.mpr ⟨⟨x,inAll h1 x hx,ex⟩,h4⟩,List.mem_filter.mpr ⟨vJ.mpr ⟨g,l1,rfl,?_⟩,?_⟩⟩
  .unfold aFd at l2;exact(Bool.and_eq_true_iff.mp l2).1
  .unfold aFd at l2;exact(Bool.and_eq_true_iff.mp l2).2
end
theorem aU9{a b c:Bd}{st:PSt}:bG (bG a b) c st=bG a (bG b c) st:=by
 show aJ2 (aJ2 (a st) b) c=aJ2 (a st) λs=>aJ2 (b s) c
 cases h:a st with
 |ok x=>cases x<;>rfl
 |exc e=>rfl
 |bad=>rfl
inductive Fits:List Nat->List Nat->Prop
 |nil:Fits [] []
 |cons {x m:Nat} {xs ms:List Nat}:x<m->Fits xs ms->Fits (x::xs) (m::ms)
theorem Fits.len:∀{xs ms:List Nat},Fits xs ms->xs.length=ms.length
 |_,_,.nil=>rfl
 |_,_,.cons _ h=>congrArg (· + 1) h.len
theorem Fits.cut:∀{c n s:Nat}{xs:List Nat},Fits xs (List.replicate c n++[s])->∃r x,xs=r++[x]/\r.length=c/\(∀z∈r,z<n)/\x<s
 |0,n,s,_,.cons h .nil=>⟨[],_,rfl,rfl,λ_ z=>(nomatch z),h⟩
 |c+1,n,s,xs,h=>by
  rw[List.replicate_succ,cons_append]at h;cases h with
  |cons h1 h2=>
   rename_i x xs;obtain⟨r,y,e,l,a,b⟩:=h2.cut;refine⟨x::r,y,by rw[e];rfl,by rw[length_cons,l],λz hz=>?_,b⟩
   rcases List.mem_cons.mp hz with q|q
   .rw[q];exact h1
   .exact a z q
theorem aS6{k:Nat}(h:k<ns.length):atI (ns.map D.int) (k:Int)=some (.int (ns.getD k 0)):=by
 rw[atI_nat (by rw[length_map];exact h)]
 simp[getD_eq_getElem?_getD,List.getElem?_eq_getElem h]
theorem bAt(S:List (List Nat))(r:List Nat):stD (S++[r])=stD S++[.lst (nats r)]:=by unfold stD;simp
theorem aXb(l:List D)(d:D):cut (l++[d]) none (some (-1))=l:=by
 have e:((-1:Int)+((l++[d]).length:Nat)).toNat=l.length:=by rw[length_append,length_singleton];omega
 show ((l++[d]).drop 0).take ((if (-1:Int)<0 then ((-1:Int)+((l++[d]).length:Nat)).toNat else min (-1:Int).toNat (l++[d]).length)-0)=l
 rw[if_pos (by decide),e]
 simp
theorem aHo{i j:Int}(h : -18446744073709551616<i/\i<18446744073709551616):rZ (.int i) (.int j)=.ok (.int (i*j)):=aF (.inl h)
theorem aQ6{i j:Int}(h : -18446744073709551616<j/\j<18446744073709551616):rZ (.int i) (.int j)=.ok (.int (i*j)):=aF (.inr h)
theorem aNt{i j:Int}(h:0<j):∃v,pD (.int i) (.int j)=.ok (.int v)/\0<=v/\v<j:=⟨i%j,sJ h,Int.emod_nonneg _ (by omega),Int.emod_lt_of_pos _ h⟩
theorem aHp(ns:List Int)(k:Nat)(hk:k<=100000):∃v:Int,0<=v/\gY [.lst (ns.map D.int),.int k]=.ok (.int v):=by
 have ln:∀x,e1 lY (aB 0) [some (.v (.lst (ns.map D.int))),some (.v (.int k)),x]=.ok (.int (ns.length:Nat)):=λx=>by
  show R.ok (D.int (((ns.map D.int).length:Nat):Int))=_;rw[length_map]
 by_cases h:k<ns.length
 .obtain⟨v,e,v0,_⟩:=aNt (i:=ns.getD k 0) (j:=1000000000000000000000000000000) (by decide)
  refine⟨v,v0,bT rfl (aLc (aFu (aH rfl (ln none) (by show R.ok (D.bl (decide ((k:Int)<(ns.length:Nat))))=_;rw[bI4 h])) (cU (aH (aH rfl rfl (eX (aS6 h))) (aH rfl rfl (y:=.int 30) (aF (by decide))) e))))⟩
 .have fin:∀r:Int,∃v:Int,0<=v/\e2 pD (e2 rZ (e2 gD (e2 gD (e2 rZ (aB 2) (eC (.int 48271))) (e2 rZ (eC (.int 7919)) (aB 1))) (eC (.int 11))) (e2 gD (aB 1) (eC (.int 2)))) (eC (.int 2147483647)) [some (.v (.lst (ns.map D.int))),some (.v (.int k)),some (.v (.int r))]=.ok (.int v):=λr=>by
   obtain⟨v,e,v0,_⟩:=aNt (i:=(r*48271+7919*(k:Int)+11)*((k:Int)+2)) (j:=2147483647) (by decide)
   exact⟨v,v0,aH (aH (aH (aH (aH rfl rfl (aQ6 (by decide))) (aH rfl rfl (aHo (by decide))) rfl) rfl rfl) (aH rfl rfl rfl) (aQ6 (by omega))) rfl e⟩
  have t1:e2 aPt (aB 1) (e1 lY (aB 0)) [some (.v (.lst (ns.map D.int))),some (.v (.int k)),none]=.ok (.bl false):=aH rfl (ln none) (by show R.ok (D.bl (decide ((k:Int)<(ns.length:Nat))))=_;rw[bI5 h])
  by_cases h0:ns.length=0
  .obtain⟨v,v0,e⟩:=fin 0;refine⟨v,v0,bT rfl (aQ (qM t1 rfl) (aQ (bK rfl) (aQ (qM (aH (ln _) rfl ?_) rfl) (cU e))))⟩;show R.ok (D.bl (decide ((0:Int)<(ns.length:Nat))))=_;rw[h0];rfl
  .have hm:k%ns.length<ns.length:=mod_lt _ (Nat.pos_of_ne_zero h0);have ec:((k%ns.length:Nat):Int)=(k:Int)%(ns.length:Nat):=by push_cast;rfl
   have e:=aS6 hm;rw[ec]at e;obtain⟨r,er,_,_⟩:=aNt (i:=ns.getD (k%ns.length) 0) (j:=999983) (by decide)
   obtain⟨v,v0,ev⟩:=fin r;refine⟨v,v0,bT rfl (aQ (qM t1 rfl) (aQ (bK rfl) (aQ (aFu (aH (ln _) rfl ?_) (bK (aH (aH rfl (aH rfl (ln _) (sJ (by omega))) (eX e)) rfl er))) (cU ev))))⟩
   show R.ok (D.bl (decide ((0:Int)<(ns.length:Nat))))=_;rw[decide_eq_true (by omega)]
theorem vL(c k:Int){m:Int}(h:0<m):∃v,eU [.int c,.int k,.int m]=.ok (.int v)/\0<=v/\v<m:=by
 obtain⟨a,e1',a0,a1⟩:=aNt (i:=c+15485863*k) (j:=2147483629) (by decide)
 obtain⟨a',e2',b0,b1⟩:=aNt (i:=a*a) (j:=2147483647) (by decide)
 obtain⟨b,e3',c0,c1⟩:=aNt (i:=a' * 69621) (j:=2147483629) (by decide)
 obtain⟨d,e4',d0,d1⟩:=aNt (i:=b*b) (j:=2147483587) (by decide)
 obtain⟨v,e5',v0,v1⟩:=aNt (i:=d/32) h;refine⟨v,bT rfl (aQ (bK (aH (aH rfl (aH rfl rfl (aHo (by decide))) rfl) rfl e1')) (aQ (bK (aH (aH (aH (aH rfl rfl (aHo (by omega))) rfl e2') rfl (aQ6 (by decide))) rfl e3')) (cU (aH (aH (aH (aH rfl rfl (aHo (by omega))) rfl e4') rfl (aLd (by decide))) rfl e5')))),v0,v1⟩
theorem aK3{x1:Option Sl}:∀(ms:List Nat)(c:Int)(row:List Nat)(x3:Option Sl),(∀m∈ms,1<=m/\m<=1000)->row.length+ms.length<=1000->∃c' row' y3,forR (tgN 3) xQ (nats ms) [some (.v (.int c)),x1,some (.o .l (nats row)),x3]=.ok (.nx [some (.v (.int c')),x1,some (.o .l (nats (row++row'))),y3])/\Fits row' ms
 |[],c,row,x3,_,_=>⟨c,[],x3,by rw[append_nil];rfl,.nil⟩
 |m::ms,c,row,x3,h,hl=>by
  obtain⟨m1,m2⟩:=h m mem_cons_self;rw[length_cons]at hl;have e0:c%(m:Int)=((c%(m:Int)).toNat:Int):=by have:=Int.emod_nonneg c (show (m:Int)≠0 by omega);omega
  have e1':(c%(m:Int)).toNat<m:=by have:=Int.emod_lt_of_pos c (show (0:Int)<m by omega);omega
  obtain⟨c',row',y3,e,hf⟩:=aK3 (x1:=x1) ms (c/(m:Int)) (row++[(c%(m:Int)).toNat]) (some (.v (.int m))) (λm hm=>h m (mem_cons_of_mem _ hm)) (by rw[length_append,length_singleton];omega)
  rw[List.append_assoc,List.singleton_append]at e;refine⟨c',_,y3,jM rfl (aQ (aEe (aH rfl rfl (sJ (by omega))) rfl (by rw[bM];omega)) (bK (aH rfl rfl (aLd (by omega))))) ?_,.cons e1' hf⟩
  rw[oH,<-e0]at e;exact e
theorem aS7(c:Int)(ms:List Nat)(h:∀m∈ms,1<=m/\m<=1000)(hl:ms.length<=1000):∃row,iJ [.int c,.lst (nats ms)]=.ok (.lst (nats row))/\Fits row ms:=by
 obtain⟨c',row,y3,e,hf⟩:=aK3 (x1:=some (.v (.lst (nats ms)))) ms c [] none h (by rw[length_nil];omega)
 exact⟨row,bT rfl (aQ (wK (lZ rfl)) (aQ (iK rfl e) (cU rfl))),hf⟩
theorem aHq{tg:Tg}{E:Ex}{st:PSt}:∀(ms:List Nat)(j:Nat),(∀i m:Nat,ms[i]?=some m->∃s1 v,tg (.int ((j+i:Nat):Int)) st=.ok s1/\E s1=.ok (.int v)/\0<=v/\v<(m:Int))->∃row,jY tg dG E st (nats (List.range' j ms.length))=.ok (nats row)/\Fits row ms
 |[],_,_=>⟨[],rfl,.nil⟩
 |m::ms,j,h=>by
  obtain⟨s1,v,e1',e2',v0,v1⟩:=h 0 m rfl;obtain⟨row,e,hf⟩:=aHq ms (j+1) λi m hm=>by
   obtain⟨s1,v,a,b,c⟩:=h (i+1) m (by simpa using hm)
   exact⟨s1,v,by rw[show j+1+i=j+(i+1) by omega];exact a,b,c⟩
  refine⟨v.toNat::row,?_,.cons (by omega) hf⟩
  rw[length_cons,List.range'_succ];show jY tg dG E st (.int (j:Nat)::nats (List.range' (j+1) ms.length))=_;rw[nD,show tg (.int (j:Nat)) st=.ok s1 from e1']
  have ev:nats (v.toNat::row)=.int v::nats row:=by
   show D.int ((v.toNat:Nat):Int)::nats row=_;rw[Int.toNat_of_nonneg v0]
  rw[ev];simp only[aM,show dG s1=.ok (.bl true) from rfl,nC,if_true,e2',e]
theorem aS8{i x:Nat}(h:l[i]?=some x):atI (nats l) (i:Int)=some (.int (x:Nat)):=by
 have hi:=(List.getElem?_eq_some_iff.mp h).1;rw[atI_nat (by rw[bM];exact hi),<-List.getElem?_eq_getElem]
 unfold nats;rw[List.getElem?_map,h];rfl
theorem aK4(l:List Nat)(x:Nat):atI (nats (l++[x])) (-1)=some (.int (x:Nat)):=by
 rw[oH];unfold atI ixN;rw[if_neg (by decide),if_pos (by rw[length_append,length_singleton];omega)]
 have e:((-1:Int)+((nats l++[D.int (x:Nat)]).length:Nat)).toNat=(nats l).length:=by rw[length_append,length_singleton];omega
 show (nats l++[D.int (x:Nat)])[((-1:Int)+((nats l++[D.int (x:Nat)]).length:Nat)).toNat]?=_;rw[e];simp
theorem bAu(k:Nat)(d:D):rep k [d]=List.replicate k d:=by
 unfold rep
 induction k with
 |zero=>rfl
 |succ k ih=>rw[List.replicate_succ,flatten_cons,ih];rfl
section
variable{S:List (List Nat)}{rk:List Nat}{c n:Nat}
abbrev aNu(m n:Nat):Prop:=∀g∈aX m,g∈aX n
def evN(rk:List Nat)(m:Nat):Bool:=decide (tH rk m%2=0)
def woN(rk:List Nat)(m:Nat):Nat:=cX ((aX m).filter λr=>!decide ((rk.getD r 0:Int)=tH rk m))
inductive Inl (S:List (List Nat)) (c:Nat) (rk:List Nat) (w:Bool):Nat->Nat->Prop
 |out {P Y:Nat}:Y∈lC S c (woN rk P)->evN rk Y≠w->Inl S c rk w P Y
 |go {P Q Y:Nat}:Q∈lC S c (woN rk P)->evN rk Q=w->Inl S c rk w Q Y->Inl S c rk w P Y
def bFc(base:Nat)(good:Bool):Nat:=if (decide (base%2=0))==good then base else base+1
section
variable{L:Nat->List Nat}{base:Nat}
inductive Row (S:List (List Nat)) (c:Nat) (rk:List Nat) (base:Nat):Nat->Nat->Prop
 |one {Z:Nat}:LpN S c Z->Row S c rk base Z (bFc base (evN rk Z))
 |up {Y Z v:Nat}:Row S c rk base Y v->LpN S c Z->aNu Y Z->evN rk Y≠evN rk Z->Row S c rk base Z (v+1)
end
end
theorem aK5{α:Type}{tg:Tg}{C E:Ex}{st:PSt}{F:α->D}{q:α->Bool}:∀(ks:List α),(∀k∈ks,∃s1,tg (F k) st=.ok s1/\C s1=.ok (.bl (q k))/\E s1=.ok (F k))->jY tg C E st (ks.map F)=.ok ((ks.filter q).map F)
 |[],_=>rfl
 |k::ks,h=>by
  obtain⟨s1,a1,a2,a3⟩:=h k mem_cons_self;have ih:=aK5 ks λk hk=>h k (mem_cons_of_mem _ hk)
  rw[map_cons,nD,a1,aM,a2,aM,nC];cases hq:q k with
  |true=>rw[filter_cons_of_pos hq,map_cons,if_pos rfl,a3,aM,ih];rfl
  |false=>rw[filter_cons_of_neg (by rw[hq];decide),if_neg Bool.false_ne_true,ih]
theorem aDf(d:D)(xs:List D):atI (d::xs) 0=some d:=by
 unfold atI ixN;rw[if_pos (by decide),if_pos (by rw[length_cons];omega)]
 rfl
theorem aLq{r:Exs}{st:PSt} (h:r st=.ok ds) (hl:ds.length<=1000):aN3 r st=.ok (.tup ds):=by
 show (r st).bind _=_;rw[h];exact aF (dD (Nat.le_trans hl (by decide)))
section
variable{S:List (List Nat)}{rk:List Nat}{c n:Nat}
theorem aS9{al:Nat->Bool}:∀{u:List Nat}{s g:Nat},Pat S c al u s g->Rch S c al s g
 |[],s,g,h=>by
  have e:s=g:=h;rw[e];exact .here
 |ch::u,s,g,h=>by
  obtain⟨l,hl,_,ha,h2⟩:=h;exact Rch.trans (.on .here hl ha) (aS9 h2)
theorem bAv(M:Mch S rk c):bW [mD S rk c,.int 0]=.ok .non:=aPu rfl (qM (qU (p:=true) (aV (aP rfl (aP (show e1 (fD "Machine" "many") (aB 0) _=.ok (.int (S.length:Nat)) from vI) rfl)) (aEf (x:=0) (by have:=M.one;omega)))) rfl)
theorem bAw(M:Mch S rk c){x:List Nat}(hx:Ltr c x)(hl:x.length<=1000):dW [mD S rk c,.str x]=.ok .non:=aPu rfl (qM (qU (p:=true) (aV (aP rfl (aP (show e1 (fD "Machine" "letters") (aB 0) _=.ok (.int (c:Nat)) from aFa) rfl)) ((aWi M (.str x) rfl (λy e=>by cases e;omega)).trans (by
 show R.ok (D.bl (good c x))=_;rw[aD2.mpr hx])))) rfl)
theorem aXc(M:Mch S rk c){x:List Nat}(hx:Ltr c x)(hl:x.length<=1000):jQ [mD S rk c,.int 0,.str x]=.ok (.int (fQ S 0 x:Nat)):=by
 refine bT rfl (dX ?_ (dX ?_ (cU (aH (x:=.lst (nats (0::runs S 0 x))) ?_ rfl (eX (atI_last (aJr (aJq x 0))))))))
 .show (dU "Machine" "check_room" bW [] (aB 0) (aC (aB 1) aU) _).bind _=_;rw[kZ (S:=S) (rk:=rk) (c:=c) rfl rfl (by decide)]
  show (bW [mD S rk c,.int 0]).bind _=_;rw[bAv M];rfl
 .show (dU "Machine" "check_word" dW [] (aB 0) (aC (aB 2) aU) _).bind _=_;rw[kZ (S:=S) (rk:=rk) (c:=c) rfl rfl (by decide)]
  show (dW [mD S rk c,.str x]).bind _=_;rw[bAw M hx hl];rfl
 .exact(aHl rfl rfl).trans (aHb M (q:=0) (by have:=M.one;omega) x hx (by omega))
noncomputable def see(S:List (List Nat))(c:Nat):Nat:=fW S c (cX (List.range S.length)) 0
theorem aHr:see S c<2^S.length:=zN
theorem bAx{g:Nat}:(cX (List.range S.length)).testBit g=decide (g∈List.range S.length):=by rw[iD]
theorem bAy(M:Mch S rk c)(g:Nat):(see S c).testBit g=true↔Rch S c (λg=>decide (g∈List.range S.length)) 0 g:=by
 rw[see,gU M (by have:=M.one;omega)]
 exact aTz λg=>bAx
theorem bAz(M:Mch S rk c){X:Nat}{row:List Nat}(hr:∀L∈X::row,LpN S c L/\L<2^S.length/\aNu X L)(hs:aNu X (see S c))(hl:row.length<=100):∃f us,vG [mD S rk c,.lst (nats (X::row))]=.ok (.tup [.str f,.lst us])/\Ltr c f/\f.length<=8/\fQ S 0 f∈aX X/\us.length=row.length+1/\∀y∈us,∃u,y=.str u:=by
 obtain⟨acc,e,b⟩:=aPy M;have n8:=M.most;have hX:=hr X mem_cons_self;have bl:=b.len;have ce:jY (tgN 5) aF8 aF7 [some (.v (mD S rk c)),some (.v (.lst (nats (X::row)))),none,none,none,none,none] (prD acc)=.ok (prD (acc.filter λx=>X.testBit x.1)):=aK5 acc λx hx=>⟨_,rfl,aV (aP (aH rfl rfl (eX (aDf (.int X) (nats row)))) (aP (aH (z:=.ok (.int (x.1:Nat))) rfl rfl rfl) rfl)) (zM _ _),rfl⟩
 obtain⟨g,hg⟩:=List.exists_mem_of_ne_nil _ (aDd hX.1.1);have hin:g∈acc.map (·.1):=b.whole.mpr ((bAy M g).mp (aZ.mp (hs g hg)));obtain⟨x0,hx0,e0⟩:=List.mem_map.mp hin;cases hf:acc.filter λx=>X.testBit x.1 with
 |nil=>
  have:=List.filter_eq_nil_iff.mp hf x0 hx0;rw[e0]at this;exact(this (aZ.mp hg)).elim
 |cons y T=>
  have hy:y∈acc.filter λx=>X.testBit x.1:=by rw[hf];exact mem_cons_self
  obtain⟨y1,y2⟩:=List.mem_filter.mp hy;obtain⟨k,hk⟩:=List.mem_iff_getElem?.mp y1;have hp:=b.path k y hk;have hyX:y.1∈aX X:=aZ.mpr y2;obtain⟨us,eu,lu,hu⟩:=aNe (tg:=tgN 6) (c:=dG) (f:=aF9) (st:=[some (.v (mD S rk c)),some (.v (.lst (nats (X::row)))),some (.v (.lst (prD (y::T)))),some (.v (.int (y.1:Nat))),some (.v (.str y.2)),none,none]) (P:=λ_ z=>∃u,z=.str u) (nats (X::row)) λd hd=>by
   obtain⟨L,hL,rfl⟩:=zK hd;obtain⟨l1,l2,l3⟩:=hr L hL;obtain⟨u,eu,_⟩:=aHm M l2 l1 (l3 y.1 hyX);exact⟨_,.str u,rfl,rfl,aV rfl eu,u,rfl⟩
  rw[hf]at ce;refine⟨y.2,us,bT rfl (aQ (bK (iC (tZ (aV rfl e)) (by rw[bAj];omega) ce)) (aQ (bK (d:=.int (y.1:Nat)) (aH (aH rfl rfl (eX (aDf (.tup [.int (y.1:Nat),.str y.2]) (prD T)))) rfl rfl)) (aQ (bK (d:=.str y.2) (aH (aH rfl rfl (eX (aDf (.tup [.int (y.1:Nat),.str y.2]) (prD T)))) rfl rfl)) (cU ?_)))),aLm hp,b.wl M y1,by rw[aDc hp];exact hyX,by rw[lu,bM,length_cons],λz hz=>(hu z hz).elim λ_ h=>h.2⟩
  exact aLq (aP rfl (aP (iC rfl (by rw[bM,length_cons];omega) eu) rfl)) (show 2<=1000 by decide)
theorem aSa{n':Nat}(h:aNu m n'){a b:Nat}(hr:Rch S c (inN m) a b):Rch S c (inN n') a b:=Rch.mono (λg hg=>aZ.mp (h g (aZ.mpr hg))) hr
def aNv(S:List (List Nat))(c L G:Nat):Prop:=∃a∈aX L,∃b∈aX G,Rch S c (inN (see S c)) a b
theorem bB0(M:Mch S rk c){L G a b:Nat}(hL:LpN S c L)(sL:aNu L (see S c))(hG:LpN S c G)(sG:aNu G (see S c))(ha:a∈aX L)(hb:b∈aX G):aNv S c L G↔Rch S c (inN (see S c)) a b:=by
 constructor
 .rintro⟨x,hx,y,hy,h⟩;exact Rch.trans (aSa sL (hL.2.1 a ha x hx)) (Rch.trans h (aSa sG (hG.2.1 y hy b hb)))
 .exact λh=>⟨a,ha,b,hb,h⟩
def Cnt(S:List (List Nat))(c m:Nat):Prop:=LpN S c m/\m<2^S.length/\aNu m (see S c)
theorem aAk(M:Mch S rk c){w:Bool} (h:m∈sS S c rk (see S c) w):Cnt S c m/\evN rk m=w:=by
 obtain⟨p,hp,hm⟩:=List.mem_flatMap.mp h;obtain⟨h1,h2,h3,h4⟩:=aK0 M aHr hm;refine⟨⟨h2,h1,h3⟩,?_⟩;have:=(aG8.mp hp).2;unfold evN;rw[h4];exact eq_of_beq this
theorem aK6(M:Mch S rk c){m:Nat}(h:Cnt S c m):∃F∈sS S c rk (see S c) (evN rk m),aNu m F:=by
 obtain⟨h1,h2,h3⟩:=h;obtain⟨r,hr⟩:=List.exists_mem_of_ne_nil _ (aDd h1.1);obtain⟨a,b,d⟩:=aJz (rk:=rk) M aHr h1 h3 rfl hr;refine⟨fB S c (vK rk (see S c) (tH rk m)) r,List.mem_flatMap.mpr ⟨tH rk m,aG8.mpr ⟨?_,?_⟩,?_⟩,d⟩
 .obtain⟨⟨g,hg,e⟩,_⟩:=sO (rk:=rk) h1.1;exact⟨g,h3 g hg,e⟩
 .unfold evN;exact beq_self_eq_true _
 .unfold aFd at b;rw[and_eq_true,decide_eq_true_eq]at b;exact List.mem_filter.mpr ⟨vJ.mpr ⟨r,a,rfl,b.1⟩,decide_eq_true b.2⟩
noncomputable abbrev tK(S:List (List Nat))(rk:List Nat)(c:Nat)(g:Bool)(Gs:List Nat)(x4 x5 x6 x7 x8 x9:Option Sl):PSt:=[some (.v (mD S rk c)),some (.v (.bl g)),some (.v (.int (see S c))),some (.v (.lst (nats Gs))),x4,x5,x6,x7,x8,x9]
theorem bB1{G g:Nat}{T:List Nat}(M:Mch S rk c)(hG:G<2^S.length)(hm:aX G=g::T){a:Nat}{st:PSt}(h:st[a]?=some (some (.v (.int (G:Int))))):e2 dIx (aW cA (aC (aB a) aU)) (eC (.int 0)) st=.ok (.int (g:Nat)):=aH (aV (aP (show aB a st=.ok (.int (G:Int)) by unfold aB;rw[h]) rfl) (mL hG (by have:=M.most;omega))) rfl (eX (by rw[hm];exact aDf _ _))
theorem aK7(M:Mch S rk c){g:Bool}{Gs:List Nat}{L a:Nat}{f:List Nat}{us:List D}{u:D}{T:List D}(hus:us=u::T)(hL:Cnt S c L)(ha:a∈aX L){x4:Option Sl}:∀(l:List Nat)(x7 x8 x9:Option Sl),(∀G∈l,Cnt S c G)->
  ((∃y7 y8 y9,forR (tgN 7) gG (nats l) (tK S rk c g Gs x4 (some (.v (.tup [.str f,.lst us]))) (some (.v (.int a))) x7 x8 x9)=.ok (.nx (tK S rk c g Gs x4 (some (.v (.tup [.str f,.lst us]))) (some (.v (.int a))) y7 y8 y9)))/\∀G∈l,¬ aNv S c L G)\/((∃ds,forR (tgN 7) gG (nats l) (tK S rk c g Gs x4 (some (.v (.tup [.str f,.lst us]))) (some (.v (.int a))) x7 x8 x9)=.ok (.rt (.tup ds)))/\∃G∈l,aNv S c L G)
 |[],x7,x8,x9,_=>.inl ⟨⟨x7,x8,x9,rfl⟩,λ_ h=>(nomatch h)⟩
 |G::l,x7,x8,x9,h=>by
  obtain⟨g1,g2,g3⟩:=h G mem_cons_self;have sa:a<S.length:=cD hL.2.1 ha;cases hm:aX G with
  |nil=>exact(aDd g1.1 hm).elim
  |cons e T'=>
   have he:e∈aX G:=by rw[hm];exact mem_cons_self
   have lead:=bB0 M hL.1 hL.2.2 g1 g3 ha he;have s8:cL 8 (e2 dIx (aW cA (aC (aB 7) aU)) (eC (.int 0))) (tK S rk c g Gs x4 (some (.v (.tup [.str f,.lst us]))) (some (.v (.int a))) (some (.v (.int G))) x8 x9)=.ok (.nx (tK S rk c g Gs x4 (some (.v (.tup [.str f,.lst us]))) (some (.v (.int a))) (some (.v (.int G))) (some (.v (.int e))) x9)):=bK (bB1 M g2 hm rfl);rcases aX7 M (aHr (S:=S) (c:=c)) sa e with ⟨ew,hn⟩|⟨w,ew,_,hw,_,_⟩
   .have hnl:¬ aNv S c L G:=λz=>hn ⟨aZ.mp (hL.2.2 a ha),aS2 (lead.mp z)⟩
    have t:gG (tK S rk c g Gs x4 (some (.v (.tup [.str f,.lst us]))) (some (.v (.int a))) (some (.v (.int G))) x8 x9)=.ok (.nx (tK S rk c g Gs x4 (some (.v (.tup [.str f,.lst us]))) (some (.v (.int a))) (some (.v (.int G))) (some (.v (.int e))) (some (.v .non)))):=aQ s8 (aQ (bK (aV rfl ew)) (qM (aH rfl rfl rfl) rfl));rcases aK7 M (g:=g) (Gs:=Gs) (f:=f) hus hL ha (x4:=x4) l (some (.v (.int G))) (some (.v (.int e))) (some (.v .non)) λG hG=>h G (mem_cons_of_mem _ hG) with ⟨⟨y7,y8,y9,e'⟩,hall⟩|⟨⟨ds,e'⟩,G',hG',hl⟩
    .refine .inl ⟨⟨y7,y8,y9,jM (d:=.int (G:Nat)) rfl t e'⟩,λG' hG'=>?_⟩
     rcases List.mem_cons.mp hG' with q|q
     .rw[q];exact hnl
     .exact hall G' q
    .exact .inr ⟨⟨ds,jM (d:=.int (G:Nat)) rfl t e'⟩,G',mem_cons_of_mem _ hG',hl⟩
   .obtain⟨v,ev,_⟩:=aHm M g2 g1 he;refine .inr ⟨⟨[.str f,u,.str w,.str v],?_⟩,G,mem_cons_self,lead.mpr (aS9 hw.1)⟩;have t:gG (tK S rk c g Gs x4 (some (.v (.tup [.str f,.lst us]))) (some (.v (.int a))) (some (.v (.int G))) x8 x9)=.ok (.rt (.tup [.str f,u,.str w,.str v])):=by
     subst hus;exact aQ s8 (aQ (bK (aV rfl ew)) (aFu (aH rfl rfl rfl) (cU (aLq (aP (aH (z:=.ok (.str f)) rfl rfl rfl) (aP (aH (x:=.lst (u::T)) (aH rfl rfl rfl) rfl (eX (aDf u T))) (aP rfl (aP (aV rfl ev) rfl)))) (show 4<=1000 by decide)))))
    show forR (tgN 7) gG (.int (G:Nat)::nats l) _=_;rw[pG];show (gG (tK S rk c g Gs x4 (some (.v (.tup [.str f,.lst us]))) (some (.v (.int a))) (some (.v (.int G))) x8 x9)).bind _=_;rw[t];rfl
theorem aHs(M:Mch S rk c){g:Bool}{Gs:List Nat}(hGs:∀G∈Gs,Cnt S c G):∀(l:List Nat)(x4 x5 x6 x7 x8 x9:Option Sl),(∀L∈l,Cnt S c L)->
  ((∃y4 y5 y6 y7 y8 y9,forR (tgN 4) gH (nats l) (tK S rk c g Gs x4 x5 x6 x7 x8 x9)=.ok (.nx (tK S rk c g Gs y4 y5 y6 y7 y8 y9)))/\∀L∈l,∀G∈Gs,¬ aNv S c L G)\/((∃ds,forR (tgN 4) gH (nats l) (tK S rk c g Gs x4 x5 x6 x7 x8 x9)=.ok (.rt (.tup ds)))/\∃L∈l,∃G∈Gs,aNv S c L G)
 |[],x4,x5,x6,x7,x8,x9,_=>.inl ⟨⟨x4,x5,x6,x7,x8,x9,rfl⟩,λ_ h=>(nomatch h)⟩
 |L::l,x4,x5,x6,x7,x8,x9,h=>by
  have hL:=h L mem_cons_self;obtain⟨f,us,en,f1,f2,f3,f4,_⟩:=bAz M (X:=L) (row:=[]) (λL' hL'=>by rw[List.mem_singleton.mp hL'];exact⟨hL.1,hL.2.1,λ_ z=>z⟩) hL.2.2 (by simp)
  obtain⟨u,T,hus⟩:∃u T,us=u::T:=by
   cases us with
   |nil=>simp at f4
   |cons u T=>exact⟨u,T,rfl⟩
  have s5:cL 5 (aW vG (aC (aB 0) (aC (nZ (aC (aB 4) aU)) aU))) (tK S rk c g Gs (some (.v (.int L))) x5 x6 x7 x8 x9)=.ok (.nx (tK S rk c g Gs (some (.v (.int L))) (some (.v (.tup [.str f,.lst us]))) x6 x7 x8 x9)):=bK (aV (aP rfl (aP (lZ (ds:=nats [L]) rfl) rfl)) en);have s6:cL 6 (dU "Machine" "after" jQ [] (aB 0) (aC (eC (.int 0)) (aC (e2 dIx (aB 5) (eC (.int 0))) aU))) (tK S rk c g Gs (some (.v (.int L))) (some (.v (.tup [.str f,.lst us]))) x6 x7 x8 x9)=.ok (.nx (tK S rk c g Gs (some (.v (.int L))) (some (.v (.tup [.str f,.lst us]))) (some (.v (.int (fQ S 0 f)))) x7 x8 x9)):=bK (by
   rw[kZ (S:=S) (rk:=rk) (c:=c) (xs:=[.int 0,.str f]) rfl (aP rfl (aP (aH (z:=.ok (.str f)) rfl rfl rfl) rfl)) (by decide)]
   exact aXc M f1 (by omega))
  rcases aK7 M (g:=g) (Gs:=Gs) (f:=f) hus hL f3 (x4:=some (.v (.int L))) Gs x7 x8 x9 hGs with ⟨⟨y7,y8,y9,e'⟩,hall⟩|⟨⟨ds,e'⟩,hex⟩
  .have t:gH (tK S rk c g Gs (some (.v (.int L))) x5 x6 x7 x8 x9)=.ok (.nx (tK S rk c g Gs (some (.v (.int L))) (some (.v (.tup [.str f,.lst us]))) (some (.v (.int (fQ S 0 f)))) y7 y8 y9)):=aQ s5 (aQ s6 (iK rfl e'));rcases aHs M (g:=g) hGs l (some (.v (.int L))) (some (.v (.tup [.str f,.lst us]))) (some (.v (.int (fQ S 0 f)))) y7 y8 y9 λL hL=>h L (mem_cons_of_mem _ hL) with ⟨⟨z4,z5,z6,z7,z8,z9,e2'⟩,hall2⟩|⟨⟨ds,e2'⟩,L',hL',hl⟩
   .refine .inl ⟨⟨z4,z5,z6,z7,z8,z9,jM (d:=.int (L:Nat)) rfl t e2'⟩,λL' hL'=>?_⟩
    rcases List.mem_cons.mp hL' with q|q
    .rw[q];exact hall
    .exact hall2 L' q
   .exact .inr ⟨⟨ds,jM (d:=.int (L:Nat)) rfl t e2'⟩,L',mem_cons_of_mem _ hL',hl⟩
  .refine .inr ⟨⟨ds,?_⟩,L,mem_cons_self,hex⟩;have t:gH (tK S rk c g Gs (some (.v (.int L))) x5 x6 x7 x8 x9)=.ok (.rt (.tup ds)):=aQ s5 (aQ s6 (iK rfl e'));show forR (tgN 4) gH (.int (L:Nat)::nats l) _=_;rw[pG];show (gH (tK S rk c g Gs (some (.v (.int L))) x5 x6 x7 x8 x9)).bind _=_;rw[t];rfl
def Beh(S:List (List Nat))(c:Nat)(rk:List Nat)(g:Bool):Prop:=∃L G,Cnt S c L/\Cnt S c G/\evN rk L=!g/\evN rk G=g/\aNv S c L G
theorem bK3(M:Mch S rk c):nU [mD S rk c,.int 0]=.ok (.int (see S c)):=aX5 M (r:=0) (by have:=M.one;omega)
theorem aUa(M:Mch S rk c)(g:Bool):(jL [mD S rk c,.bl g]=.ok .non/\¬ Beh S c rk g)\/((∃ds,jL [mD S rk c,.bl g]=.ok (.tup ds))/\Beh S c rk g):=by
 have up:(∃L∈sS S c rk (see S c) (!g),∃G∈sS S c rk (see S c) g,aNv S c L G)↔Beh S c rk g:=by
  constructor
  .rintro⟨L,hL,G,hG,h⟩;obtain⟨l1,l2⟩:=aAk M hL;obtain⟨g1,g2⟩:=aAk M hG;exact⟨L,G,l1,g1,l2,g2,h⟩
  .rintro⟨L,G,l1,g1,l2,g2,a,ha,b,hb,h⟩;obtain⟨L',hL',sL⟩:=aK6 (rk:=rk) M l1;obtain⟨G',hG',sG⟩:=aK6 (rk:=rk) M g1;rw[l2]at hL';rw[g2]at hG';exact⟨L',hL',G',hG',a,sL a ha,b,sG b hb,h⟩
 have s2:cL 2 (aW nU (aC (aB 0) (aC (eC (.int 0)) aU))) [some (.v (mD S rk c)),some (.v (.bl g)),none,none,none,none,none,none,none,none]=.ok (.nx [some (.v (mD S rk c)),some (.v (.bl g)),some (.v (.int (see S c))),none,none,none,none,none,none,none]):=bK (aV rfl (bK3 M));have s3:cL 3 (aW eV (aC (aB 0) (aC (aB 2) (aC (aB 1) aU)))) [some (.v (mD S rk c)),some (.v (.bl g)),some (.v (.int (see S c))),none,none,none,none,none,none,none]=.ok (.nx (tK S rk c g (sS S c rk (see S c) g) none none none none none none)):=bK (aV rfl (aLp M aHr));have it:itE (aW eV (aC (aB 0) (aC (aB 2) (aC (rF (aB 1)) aU)))) (tK S rk c g (sS S c rk (see S c) g) none none none none none none)=.ok (nats (sS S c rk (see S c) (!g))):=tZ (aV (aP rfl (aP rfl (aP (qU rfl) rfl))) (aLp M aHr));rcases aHs M (g:=g) (Gs:=sS S c rk (see S c) g) (λG hG=>(aAk M hG).1) (sS S c rk (see S c) (!g)) none none none none none none (λL hL=>(aAk M hL).1) with ⟨⟨y4,y5,y6,y7,y8,y9,e⟩,hall⟩|⟨⟨ds,e⟩,hex⟩
 .exact .inl ⟨bT rfl (aQ s2 (aQ s3 (aQ (iK it e) (cU rfl)))),λz=>by
   obtain⟨L,hL,G,hG,h⟩:=up.mpr z;exact hall L hL G hG h⟩
 .exact .inr ⟨⟨ds,bT rfl (aQ s2 (aQ s3 (aLc (iK it e))))⟩,up.mp hex⟩
end
theorem aNw{p:Prop}{r:R α}(h:¬ p):aY p r=.bad:=if_neg h
theorem aSb{st:PSt} (h:f st=.ok d):aAy f g st=.ok d:=by unfold aAy;rw[h]
theorem aNx{st:PSt}{r:R D}(h:f st=.bad)(hg:g st=r):aAy f g st=r:=by unfold aAy;rw[h];exact hg
theorem aXd{m:String} {r:Exs} {st:PSt} (h:f st=.ok (.ins c [] [])) (hr:r st=.ok xs) (hp:p (.ins c [] [] :: xs)=.ok d):dU c m p [] f r st=.ok d:=by
 rw[aCj,h,hr];show aY _ (p (.ins c [] [] :: (xs++[])))=_;rw[append_nil,hp];exact aF ⟨rfl,not_mem_nil⟩
theorem bB2{c' m:String} {r:Exs} {st:PSt} (h:f st=.ok (.ins c' [] [])) (hr:r st=.ok xs) (hn:c'≠c):dU c m p [] f r st=.bad:=by
 rw[aCj,h,hr];exact aNw λz=>hn z.1
section
variable{S:List (List Nat)}{rk:List Nat}{c q s e p cu:Nat}{f:Nat->Nat}{C:Nat->Bool}
theorem aSc(hC:∀n,C (fw S f q n)=true->C (fw S f q (n+1))=true):∀k n,C (fw S f q n)=true->C (fw S f q (n+k))=true
 |0,n,h=>h
 |k+1,n,h=>hC (n+k) (aSc hC k n h)
theorem bK4(L:Lp S f q s e)(hC:∀n,C (fw S f q n)=true->C (fw S f q (n+1))=true):(∀n,s<=n->C (fw S f q n)=true)\/∀n,C (fw S f q n)=false:=by
 by_cases h:∃n,C (fw S f q n)=true
 .obtain⟨n0,h0⟩:=h;refine .inl λn hn=>?_
  have hlt:=L.lt;have h1:n0*1<=n0*(e-s):=Nat.mul_le_mul_left _ (by omega)
  rw[<-L.mul n0 n hn,show n+n0*(e-s)=n0+(n+n0*(e-s)-n0) by omega]
  exact aSc hC _ n0 h0
 .exact .inr λn=>Bool.eq_false_iff.mpr λz=>h ⟨n,z⟩
def Par(S:List (List Nat))(rk:List Nat)(p:Nat)(C:Nat->Bool):Prop:=∀r,r<S.length->rk.getD r 0%2=if C r=true then 1-p else p
theorem aXe{l:List Nat}(h:l≠[]){k:Nat}(hp:∀r∈l,rk.getD r 0%2=k):mx rk l%2=(k:Int):=by
 obtain⟨a,_⟩:=aRj (l:=l.map λr=>((rk.getD r 0:Nat):Int)) (by simpa using h)
 obtain⟨r,hr,er⟩:=List.mem_map.mp a;have:=hp r hr;show aE9 _%2=_;rw[<-er];omega
theorem verdict(hlt:∀n,fw S f q n<S.length)(L:Lp S f q s e)(P:Par S rk p C)(hp:p=0\/p=1){v:Bool}(h:Ev S rk f q v):((∀n,s<=n->C (fw S f q n)=true)->v=decide (p=1))/\((∀n,C (fw S f q n)=false)->v=decide (p=0)):=by
 have ev:v=decide (mx rk (seg S f q s e)%2=0):=Ev.alone h ⟨s,e,L,rfl⟩;constructor
 .intro hc;have:=aXe (rk:=rk) (k:=1-p) (aHd L.lt) λr hr=>by
   obtain⟨n,h1,_,rfl⟩:=oG.mp hr;rw[P _ (hlt n),if_pos (hc n h1)]
  rw[ev,this];exact decide_eq_decide.mpr (by omega)
 .intro hc;have:=aXe (rk:=rk) (k:=p) (aHd L.lt) λr hr=>by
   obtain⟨n,_,_,rfl⟩:=oG.mp hr;rw[P _ (hlt n),if_neg (by rw[hc n];exact Bool.false_ne_true)]
  rw[ev,this];exact decide_eq_decide.mpr (by omega)
structure Cut(S:List (List Nat))(rk:List Nat)(c p cu:Nat):Prop where
 M:Mch S rk c
 up:∀r,r<S.length->cu<=r->∀l,l<c->cu<=stp S r l
 par:Par S rk p λr=>decide (cu<=r)
 two:p=0\/p=1
noncomputable def nvr(S:List (List Nat))(c:Nat)(rk:List Nat)(p r:Nat):Bool:=!aDb S c (aHn S c rk (decide (p=0))) r
abbrev bIb(S:List (List Nat)):Nat:=cX (List.range S.length)
theorem aLr(K:Cut S rk c p cu) {g:Nat} (hr:r<S.length) (hc:cu<=r) (h:Rch S c al r g):cu<=g:=by
 induction h with
 |here=>exact hc
 |on h hl _ ih=>exact K.up _ (aEi K.M hr h) ih _ hl
theorem aNy{g:Nat}(h:g<S.length):(bIb S).testBit g=true:=by
 rw[iD];exact decide_eq_true (List.mem_range.mpr h)
theorem bFd(K:Cut S rk c p cu) (hr:r<S.length) (hc:cu<=r):nvr S c rk p r=true:=by
 unfold nvr;rw[not_eq_true'];refine Bool.eq_false_iff.mpr λz=>?_
 obtain⟨m,hm,hL,hs,ht⟩:=(aG9 K.M hr).mp z;obtain⟨⟨g,hg,eg⟩,_⟩:=sO (rk:=rk) hL.1;have h1:=aLr K hr hc ((gU K.M hr g).mp (aZ.mp (hs g hg)));have h2:=K.par g (cD hm hg);rw[if_pos (decide_eq_true h1)]at h2;have h3:=eq_of_beq ht;have:=K.two;have h4:(tH rk m%2=0)↔p=0:=by
  constructor
  .exact λz=>of_decide_eq_true (by rw[<-h3];exact decide_eq_true z)
  .exact λz=>of_decide_eq_true (by rw[h3];exact decide_eq_true z)
 omega
theorem aNz(K:Cut S rk c p cu){l:Nat}(hr:r<S.length)(hl:l<c)(h:nvr S c rk p r=true):nvr S c rk p (stp S r l)=true:=by
 obtain⟨_,_,_,hst⟩:=aLh K.M hr hl;unfold nvr at h ⊢;rw[not_eq_true']at h ⊢;refine Bool.eq_false_iff.mpr λz=>?_
 obtain⟨m,hm,hL,hs,ht⟩:=(aG9 K.M hst).mp z;have:aDb S c (aHn S c rk (decide (p=0))) r=true:=(aG9 K.M hr).mpr ⟨m,hm,hL,λg hg=>aZ.mpr ((gU K.M hr g).mpr (Rch.trans (.on .here hl (aNy hst)) ((gU K.M hst g).mp (aZ.mp (hs g hg))))),ht⟩
 rw[h]at this;cases this
theorem aLs(n:Nat):fw S f q (n+1)=stp S (fw S f q n) (f n-97):=rfl
theorem aXf(K:Cut S rk c p cu)(hf:∀n,97<=f n/\(f n:Int)<97+c)(hq:q<S.length)(L:Lp S f q s e)(h:∀n,decide (cu<=fw S f q n)=false) (hn:s<=n):nvr S c rk p (fw S f q n)=false:=by
 have hlt:=zL K.M hf hq;unfold nvr;rw[Bool.not_eq_false'];have hl:=aU8 K.M hf hq L;have hin:∀g∈aX (cX (seg S f q s e)),∃m,s<=m/\fw S f q m=g:=λg hg=>by
  obtain⟨m,a,_,b⟩:=oG.mp (pP.mp hg);exact⟨m,a,b⟩
 refine(aG9 K.M (hlt n)).mpr ⟨_,aAi λg hg=>?_,hl,λg hg=>?_,?_⟩
 .obtain⟨m,_,_,rfl⟩:=oG.mp hg;exact hlt m
 .obtain⟨m,a,rfl⟩:=hin g hg;have h1:n*1<=n*(e-s):=Nat.mul_le_mul_left _ (by have:=L.lt;omega)
  refine aZ.mpr ((gU K.M (hlt n) _).mpr ?_);have:=aQ3 (S:=S) (q:=q) hf (al:=λg=>(bIb S).testBit g) (m:=n) (m+n*(e-s)-n) λj _ _=>aNy (hlt j)
  rw[show n+(m+n*(e-s)-n)=m+n*(e-s) by omega,L.mul n m a]at this
  exact this
 .obtain⟨⟨g,hg,eg⟩,_⟩:=sO (rk:=rk) hl.1;obtain⟨m,_,rfl⟩:=hin g hg;have h2:=K.par _ (hlt m);rw[if_neg (show ¬ decide (cu<=fw S f q m)=true by rw[h m];exact Bool.false_ne_true)]at h2
  have:=K.two;rw[show decide (tH rk (cX (seg S f q s e))%2=0)=decide (p=0) from decide_eq_decide.mpr (by omega)]
  exact beq_self_eq_true _
theorem sides(K:Cut S rk c p cu)(hf:∀n,97<=f n/\(f n:Int)<97+c)(hq:q<S.length)(L:Lp S f q s e):((∀n,s<=n->decide (cu<=fw S f q n)=true)/\∀n,s<=n->nvr S c rk p (fw S f q n)=true)\/((∀n,decide (cu<=fw S f q n)=false)/\∀n,nvr S c rk p (fw S f q n)=false):=by
 have hlt:=zL K.M hf hq;have hl:∀n,f n-97<c:=λn=>by have:=hf n;omega
 rcases bK4 (C:=λr=>decide (cu<=r)) L λn h=>by
  rw[aLs];exact decide_eq_true (K.up _ (hlt n) (of_decide_eq_true h) _ (hl n)) with h|h
 .exact .inl ⟨h,λn hn=>bFd K (hlt n) (of_decide_eq_true (h n hn))⟩
 .refine .inr ⟨h,λn=>Bool.eq_false_iff.mpr λz=>?_⟩
  have:=aSc (C:=nvr S c rk p) (λn h=>by rw[aLs];exact aNz K (hlt n) (hl n) h) s n z
  rw[aXf K hf hq L h (Nat.le_add_left _ _)]at this;cases this
noncomputable def mkR(S:List (List Nat))(c:Nat)(rk:List Nat)(p:Nat):List Nat:=(List.range S.length).map λr=>if nvr S c rk p r=true then 1-p else p
theorem aXg(hr:r<S.length):(mkR S c rk p).getD r 0=if nvr S c rk p r=true then 1-p else p:=by
 unfold mkR;rw[getD_eq_getElem?_getD,List.getElem?_map,List.getElem?_range hr];rfl
theorem aGa(K:Cut S rk c p cu):Mch S (mkR S c rk p) c:=⟨K.M.one,K.M.most,K.M.c1,K.M.c3,K.M.row,by unfold mkR;rw[length_map,length_range]⟩
theorem bB3(K:Cut S rk c p cu):Par S (mkR S c rk p) p (nvr S c rk p):=λr hr=>by
 have:=K.two;rw[aXg hr];split<;>omega
theorem early(K:Cut S rk c p cu)(hf:∀n,97<=f n/\(f n:Int)<97+c)(hq:q<S.length)(L:Lp S f q s e){v v':Bool}(h:Ev S rk f q v)(h':Ev S (mkR S c rk p) f q v') :
  ((∀n,s<=n->decide (cu<=fw S f q n)=true)/\(∀n,s<=n->nvr S c rk p (fw S f q n)=true)/\v=decide (p=1)/\v'=decide (p=1))\/((∀n,decide (cu<=fw S f q n)=false)/\(∀n,nvr S c rk p (fw S f q n)=false)/\v=decide (p=0)/\v'=decide (p=0)):=by
 have hlt:=zL K.M hf hq;have v1:=verdict hlt L K.par K.two h;have v2:=verdict hlt L (bB3 K) K.two h';rcases sides K hf hq L with ⟨a,b⟩|⟨a,b⟩
 .exact .inl ⟨a,b,v1.1 a,v2.1 b⟩
 .exact .inr ⟨a,b,v1.2 a,v2.2 b⟩
end
theorem aSd(k g:Nat):aN2 (.int k) (.int g)=.ok (.int ((max k g:Nat):Int)):=by
 show R.ok (D.int (if (g:Int)>(k:Int) then (g:Int) else (k:Int)))=_
 congr 2;split<;>omega
abbrev m44(ns:List Int)(f:Int)(ds:List Nat)(n low cu:Nat)(S rk:List D)(x9 x10 x11:Option Sl):PSt:=[some (.v (.lst (ns.map D.int))),some (.v (.int f)),some (.v (.lst (nats [6,3,3,2,7]))),some (.v (.lst (nats ds))),some (.v (.int n)),some (.v (.int low)),some (.v (.int cu)),some (.o .l S),some (.o .l rk),x9,x10,x11,none,none]
section
variable{ns:List Int}{f:Int}{n c low cu d0 d1 d2 d3 d4:Nat}
theorem bIc{st:PSt}(h4:st[4]?=some (some (.v (.int (n:Nat)))))(h3:st[3]?=some (some (.v (.lst (nats [d0,d1,d2,d3,d4])))))(hn:n<=6)(h1:d1<3):e2 gD (aRe (aC (aB 4) (aU)) (e2 gD (eC (.int 1)) (e2 dIx (aB 3) (eC (.int 1))))) (nZ (aC (eC (.int 3)) (aU))) st=.ok (.lst (nats (List.replicate (1+d1) n++[3]))):=by
 have e4:aB 4 st=.ok (.int (n:Nat)):=by unfold aB;rw[h4]
 have e3:aB 3 st=.ok (.lst (nats [d0,d1,d2,d3,d4])):=by unfold aB;rw[h3]
 refine aH (x:=.lst (List.replicate (1+d1) (.int (n:Nat)))) (y:=.lst [.int (3:Nat)]) ?_ (lZ rfl) ?_
 .show ((aC (aB 4) aU) st).bind _=_;rw[aP e4 rfl,aM,show (e2 gD (eC (.int 1)) (e2 dIx (aB 3) (eC (.int 1)))) st=.ok (.int ((1+d1:Nat):Int)) from aH rfl (aH e3 rfl (eX (d:=.int d1) rfl)) (by show R.ok (D.int (1+(d1:Int)))=_;push_cast;rfl),aM]
  show aY _ (R.ok (D.lst (rep ((1+d1:Nat):Int).toNat [.int (n:Nat)])))=_;rw[aF ⟨dD (by simp),dD (by simp;omega),by omega,by omega⟩,toNat_natCast,bAu]
 .have:nats (List.replicate (1+d1) n++[3])=List.replicate (1+d1) (.int (n:Nat))++[.int (3:Nat)]:=by
   unfold nats;rw[List.map_append,List.map_replicate];rfl
  rw[this];exact aF (dD (by simp;omega))
theorem bFe(hn:1<=n/\n<=6)(h1:d1<3)(S:List (List Nat))(rk:List Nat)(hS:S.length<=100)(hrk:rk.length<=100)(k:Nat)(hk:k<n)(x10 x11:Option Sl) :
  ∃r x y10 y11,lJ (m44 ns f [d0,d1,d2,d3,d4] n low cu (stD S) (nats rk) (some (.v (.int k))) x10 x11)=.ok (.nx (m44 ns f [d0,d1,d2,d3,d4] n low cu (stD (S++[r])) (nats (rk++[low+2*x+if cu<=k then 1 else 0])) (some (.v (.int k))) y10 y11))/\r.length=1+d1/\∀z∈r,z<n/\(cu<=k->cu<=z):=by
 obtain⟨cl,c0,ec⟩:=aHp ns (1+k) (by omega)
 rw[show ((1+k:Nat):Int)=1+(k:Int) by omega]at ec
 have hms:∀m∈List.replicate (1+d1) n++[3],1<=m/\m<=1000:=λm hm=>by
  rcases List.mem_append.mp hm with h|h
  .rw[(List.mem_replicate.mp h).2];omega
  .rw[List.mem_singleton.mp h];omega
 obtain⟨row,ed,hd⟩:=aS7 cl (List.replicate (1+d1) n++[3]) hms (by simp;omega)
 have s10:cL 10 (aW gY (aC (aB 0) (aC (e2 gD (eC (.int 1)) (aB 9)) aU))) (m44 ns f [d0,d1,d2,d3,d4] n low cu (stD S) (nats rk) (some (.v (.int k))) x10 x11)=.ok (.nx (m44 ns f [d0,d1,d2,d3,d4] n low cu (stD S) (nats rk) (some (.v (.int k))) (some (.v (.int cl))) x11)):=bK (aV (aP rfl (aP (aH rfl rfl rfl) rfl)) ec);have s11:cL 11 (aW iJ (aC (aB 10) (aC (e2 gD (aRe (aC (aB 4) aU) (e2 gD (eC (.int 1)) (e2 dIx (aB 3) (eC (.int 1))))) (nZ (aC (eC (.int 3)) aU))) aU))) (m44 ns f [d0,d1,d2,d3,d4] n low cu (stD S) (nats rk) (some (.v (.int k))) (some (.v (.int cl))) x11)=.ok (.nx (m44 ns f [d0,d1,d2,d3,d4] n low cu (stD S) (nats rk) (some (.v (.int k))) (some (.v (.int cl))) (some (.v (.lst (nats row)))))):=bK (aV (aP rfl (aP (bIc rfl rfl hn.2 h1) rfl)) ed);have ex:∃(r:List Nat)(x:Nat),(sIf (e2 dEq (e2 pD (aB 1) (eC (.int 2))) (eC (.int 0))) (cL 11 (e2 gD (dF [12] (tgN 12) (yG (e2 gD (eC (.int 1)) (e2 dIx (aB 3) (eC (.int 1))))) dG pH) (nZ (aC (aW eU (aC (aB 10) (aC (eC (.int 21)) (aC (eC (.int 3)) aU)))) aU)))) dM) (m44 ns f [d0,d1,d2,d3,d4] n low cu (stD S) (nats rk) (some (.v (.int k))) (some (.v (.int cl))) (some (.v (.lst (nats row)))))=.ok (.nx (m44 ns f [d0,d1,d2,d3,d4] n low cu (stD S) (nats rk) (some (.v (.int k))) (some (.v (.int cl))) (some (.v (.lst (nats (r++[x])))))))/\r.length=1+d1/\∀z∈r,z<n:=by
  have t:(e2 dEq (e2 pD (aB 1) (eC (.int 2))) (eC (.int 0))) (m44 ns f [d0,d1,d2,d3,d4] n low cu (stD S) (nats rk) (some (.v (.int k))) (some (.v (.int cl))) (some (.v (.lst (nats row)))))=.ok (.bl (decide (f%2=0))):=aH (aH rfl rfl (sJ (by decide))) rfl (zJ _ _)
  cases hf:decide (f%2=0)
  .obtain⟨r,x,rfl,lr,hr,_⟩:=hd.cut;exact⟨r,x,qM (t.trans (by rw[hf])) rfl,lr,hr⟩
  .obtain⟨r,e,hF⟩:=aHq (tg:=tgN 12) (E:=pH) (st:=m44 ns f [d0,d1,d2,d3,d4] n low cu (stD S) (nats rk) (some (.v (.int k))) (some (.v (.int cl))) (some (.v (.lst (nats row))))) (List.replicate (1+d1) n) 0 λi m hm=>by
    obtain⟨v,e,v0,v1⟩:=vL cl (11+((0+i:Nat):Int)) (m:=(n:Int)) (by omega)
    rw[show m=n from (List.mem_replicate.mp (List.mem_of_getElem? hm)).2]
    exact⟨_,v,rfl,aV (aP rfl (aP (aH rfl rfl rfl) (aP rfl rfl))) e,v0,v1⟩
   obtain⟨v,ev,v0,v1⟩:=vL cl 21 (m:=3) (by decide)
   rw[List.length_replicate,<-List.range_eq_range']at e;have lr:r.length=1+d1:=by rw[hF.len,List.length_replicate]
   have hr:∀z∈r,z<n:=by
    have:∀{xs ms:List Nat},Fits xs ms->(∀m∈ms,m=n)->∀z∈xs,z<n:=λ{xs ms} h=>by
     induction h with
     |nil=>exact λ_ z hz=>nomatch hz
     |cons a h ih=>
      intro hm z hz;rcases List.mem_cons.mp hz with rfl|hz
      .have:=hm _ mem_cons_self;omega
      .exact ih (λm hx=>hm m (mem_cons_of_mem _ hx)) z hz
    exact this hF λm hm=>(List.mem_replicate.mp hm).2
   refine⟨r,v.toNat,aFu (t.trans (by rw[hf])) (bK (aH (x:=.lst (nats r)) (y:=.lst [.int v]) (iC (aD1 (n:=1+d1) ?_ (by omega)) (by simp;omega) e) (lZ (aP (aV rfl ev) rfl)) ?_)),lr,hr⟩
   .exact aH rfl (aH rfl rfl (eX (d:=.int d1) rfl)) (by show R.ok (D.int (1+(d1:Int)))=_;push_cast;rfl)
   .rw[oH,Int.toNat_of_nonneg v0];exact aF (dD (by rw[bM,lr];show _+1<=_;omega))
 obtain⟨r,x,e11,lr,hr⟩:=ex;have sl:∀(r:List Nat){st:PSt},st[11]?=some (some (.v (.lst (nats (r++[x])))))->eSl (aB 11) vB (qH (e1 rE (eC (.int 1)))) st=.ok (.lst (nats r)):=λr {st} h=>by
  have e:aB 11 st=.ok (.lst (nats (r++[x]))):=by unfold aB;rw[h]
  rw[aPq,e,aM];show R.ok (D.lst (cut (nats (r++[x])) none (some (-1))))=_;rw[oH,aXb]
 have la:∀(r:List Nat){st:PSt},st[11]?=some (some (.v (.lst (nats (r++[x])))))->e2 dIx (aB 11) (e1 rE (eC (.int 1))) st=.ok (.int (x:Nat)):=λr {st} h=>by
  have e:aB 11 st=.ok (.lst (nats (r++[x]))):=by unfold aB;rw[h]
  exact aH e rfl (eX (aK4 r x))
 have ge:∀y11,e2 dGe (aB 9) (aB 6) (m44 ns f [d0,d1,d2,d3,d4] n low cu (stD S) (nats rk) (some (.v (.int k))) (some (.v (.int cl))) y11)=.ok (.bl (decide (cu<=k))):=λ_=>aH rfl rfl (by
  show R.ok (D.bl (decide ((cu:Int)<=(k:Int))))=_;rw[show decide ((cu:Int)<=(k:Int))=decide (cu<=k) from decide_eq_decide.mpr (by omega)])
 have fin:∀r':List Nat,r'.length=1+d1->(∀z∈r',z<n/\(cu<=k->cu<=z))->(sIf (e2 dGe (aB 9) (aB 6)) (cL 11 (e2 gD (dF [13] (tgN 13) (itE (eSl (aB 11) vB (qH (e1 rE (eC (.int 1)))))) dG pI) (nZ (aC (e2 dIx (aB 11) (e1 rE (eC (.int 1)))) aU)))) dM) (m44 ns f [d0,d1,d2,d3,d4] n low cu (stD S) (nats rk) (some (.v (.int k))) (some (.v (.int cl))) (some (.v (.lst (nats (r++[x]))))))=.ok (.nx (m44 ns f [d0,d1,d2,d3,d4] n low cu (stD S) (nats rk) (some (.v (.int k))) (some (.v (.int cl))) (some (.v (.lst (nats (r'++[x])))))))->
   ∃r x y10 y11,lJ (m44 ns f [d0,d1,d2,d3,d4] n low cu (stD S) (nats rk) (some (.v (.int k))) x10 x11)=.ok (.nx (m44 ns f [d0,d1,d2,d3,d4] n low cu (stD (S++[r])) (nats (rk++[low+2*x+if cu<=k then 1 else 0])) (some (.v (.int k))) y10 y11))/\r.length=1+d1/\∀z∈r,z<n/\(cu<=k->cu<=z):=λr' l' h' e4=>by
  refine⟨r',x,some (.v (.int cl)),some (.v (.lst (nats (r'++[x])))),aQ s10 (aQ s11 (aQ e11 (aQ e4 (aQ (st':=m44 ns f [d0,d1,d2,d3,d4] n low cu (stD (S++[r'])) (nats rk) (some (.v (.int k))) (some (.v (.int cl))) (some (.v (.lst (nats (r'++[x])))))) ?_ ?_)))),l',h'⟩
  .rw[bAt];exact aEe (sl r' rfl) rfl (by rw[mX];omega)
  .have:nats (rk++[low+2*x+if cu<=k then 1 else 0])=nats rk++[.int ((low:Int)+2*(x:Int)+if cu<=k then 1 else 0)]:=by
    rw[oH];congr 1;show [D.int (((low+2*x+if cu<=k then 1 else 0:Nat)):Int)]=_
    split<;>(push_cast;rfl)
   rw[this];refine aEe (aH (aH rfl (aH rfl (la r' rfl) (aHo (by decide))) rfl) (show e1 bA9 (e2 dGe (aB 9) (aB 6)) _=.ok (.int (if cu<=k then 1 else 0)) from ?_) rfl) rfl (by rw[bM];omega)
   rw[aN5,aH (op:=dGe) (x:=.int k) (y:=.int cu) (z:=.ok (.bl (decide ((cu:Int)<=(k:Int))))) rfl rfl rfl,aM]
   by_cases h:cu<=k
   .rw[if_pos h,decide_eq_true (show (cu:Int)<=(k:Int) by omega)];rfl
   .rw[if_neg h,decide_eq_false (show ¬ (cu:Int)<=(k:Int) by omega)];rfl
 by_cases hcu:cu<=k
 .refine fin (r.map (max cu)) (by rw[length_map,lr]) (λz hz=>?_) (aFu ((ge _).trans (by rw[decide_eq_true hcu])) (bK (aH (x:=.lst (nats (r.map (max cu)))) (y:=.lst [.int (x:Nat)]) (iC (tZ (sl r rfl)) (by rw[bM,lr];omega) ?_) (lZ (aP (la r rfl) rfl)) ?_)))
  .obtain⟨g,hg,rfl⟩:=List.mem_map.mp hz;have:=hr g hg;exact⟨by omega,λ_=>by omega⟩
  .have:=lB (tg:=tgN 13) (C:=dG) (E:=pI) (st:=m44 ns f [d0,d1,d2,d3,d4] n low cu (stD S) (nats rk) (some (.v (.int k))) (some (.v (.int cl))) (some (.v (.lst (nats (r++[x])))))) (q:=λ_=>true) (G:=λg=>.int ((max cu g:Nat):Int)) r λg _=>⟨_,rfl,rfl,aH rfl rfl (aSd cu g)⟩
   rw[List.filter_eq_self.mpr (λ_ _=>rfl),show r.map (λg=>D.int ((max cu g:Nat):Int))=nats (r.map (max cu)) by unfold nats;rw[List.map_map];rfl]at this
   exact this
  .rw[oH];exact aF (dD (by rw[bM,length_map,lr];show _+1<=_;omega))
 .exact fin r lr (λz hz=>⟨hr z hz,λh=>(hcu h).elim⟩) (qM ((ge _).trans (by rw[decide_eq_false hcu])) rfl)
structure Rws(n c low cu:Nat)(S:List (List Nat))(rk:List Nat):Prop where
 len:rk.length=S.length
 row:∀i,i<S.length->(S.getD i []).length=c/\∀z∈S.getD i [],z<n/\(cu<=i->cu<=z)
 rnk:∀i,i<S.length->∃x,rk.getD i 0=low+2*x+if cu<=i then 1 else 0
theorem getD_snoc(l:List α)(x d:α)(i:Nat):(l++[x]).getD i d=if i<l.length then l.getD i d else if i=l.length then x else d:=by
 rw[getD_eq_getElem?_getD,getD_eq_getElem?_getD]
 by_cases h:i<l.length
 .rw[if_pos h,List.getElem?_append_left h]
 .rw[if_neg h,List.getElem?_append_right (by omega)]
  by_cases h2:i=l.length
  .rw[if_pos h2,h2,Nat.sub_self];rfl
  .rw[if_neg h2,List.getElem?_eq_none (by simp;omega)];rfl
theorem Rws.snoc{r:List Nat}{x:Nat}(h:Rws n c low cu S rk)(hl:r.length=c)(hr:∀z∈r,z<n/\(cu<=S.length->cu<=z)):Rws n c low cu (S++[r]) (rk++[low+2*x+if cu<=S.length then 1 else 0]):=by
 refine⟨by rw[length_append,length_append,h.len];rfl,λi hi=>?_,λi hi=>?_⟩
 .rw[length_append,length_singleton]at hi;rw[getD_snoc]
  by_cases h2:i<S.length
  .rw[if_pos h2];exact h.row i h2
  .rw[if_neg h2,if_pos (by omega),show i=S.length by omega]
   exact⟨hl,hr⟩
 .rw[length_append,length_singleton]at hi;rw[getD_snoc,h.len]
  by_cases h2:i<S.length
  .rw[if_pos h2];exact h.rnk i h2
  .rw[if_neg h2,if_pos (by omega),show i=S.length by omega]
   exact⟨x,rfl⟩
theorem aXh(hn:1<=n/\n<=6)(h1:d1<3):∀(m k:Nat) (S:List (List Nat)) (rk:List Nat) (x9 x10 x11:Option Sl),k+m=n->S.length=k->Rws n (1+d1) low cu S rk->
  ∃S' rk' y9 y10 y11,forR (tgN 9) lJ (nats (List.range' k m)) (m44 ns f [d0,d1,d2,d3,d4] n low cu (stD S) (nats rk) x9 x10 x11)=.ok (.nx (m44 ns f [d0,d1,d2,d3,d4] n low cu (stD S') (nats rk') y9 y10 y11))/\S'.length=n/\Rws n (1+d1) low cu S' rk'
 |0,k,S,rk,x9,x10,x11,hk,hS,h=>⟨S,rk,x9,x10,x11,rfl,by omega,h⟩
 |m+1,k,S,rk,x9,x10,x11,hk,hS,h=>by
  obtain⟨r,x,y10,y11,t,tl,tr⟩:=bFe (ns:=ns) (f:=f) (d0:=d0) (d2:=d2) (d3:=d3) (d4:=d4) (low:=low) (cu:=cu) hn h1 S rk (by omega) (by rw[h.len];omega) k (by omega) x10 x11
  have h':=h.snoc (x:=x) tl (by rw[hS];exact tr)
  rw[hS]at h';obtain⟨S',rk',z9,z10,z11,e,a,b⟩:=aXh hn h1 m (k+1) (S++[r]) (rk++[low+2*x+if cu<=k then 1 else 0]) (some (.v (.int k))) y10 y11 (by omega) (by rw[length_append,hS];rfl) h'
  exact⟨S',rk',z9,z10,z11,jM (d:=.int (k:Nat)) rfl t e,a,b⟩
theorem Rws.cut(hn:S.length=n)(h1:1<=n/\n<=6)(hc:1<=c/\c<=3)(h:Rws n c low cu S rk):Cut S rk c (low%2) cu:=by
 have rowM:∀r∈S,r.length=c/\∀x∈r,x<S.length:=λr hr=>by
  obtain⟨i,hi,e⟩:=List.mem_iff_getElem.mp hr;obtain⟨a,b⟩:=h.row i hi;rw[getD_eq_getElem?_getD,List.getElem?_eq_getElem hi,getD_some,e]at a b;exact⟨a,λx hx=>by have:=(b x hx).1;omega⟩
 have M:Mch S rk c:=⟨by omega,by omega,by omega,by omega,rowM,h.len⟩
 refine⟨M,λr hr hcu l hl=>?_,λr hr=>?_,by omega⟩
 .obtain⟨a,b⟩:=h.row r hr;refine(b _ ?_).2 hcu;unfold stp;rw[getD_eq_getElem?_getD (i:=l),List.getElem?_eq_getElem (by rw[a];exact hl),getD_some]
  exact List.getElem_mem _
 .obtain⟨x,e⟩:=h.rnk r hr;rw[e]
  by_cases h2:cu<=r
  .rw[if_pos h2,if_pos (decide_eq_true h2)];omega
  .rw[if_neg h2,if_neg (show ¬ decide (cu<=r)=true by rw[decide_eq_false h2];exact Bool.false_ne_true)]
   omega
theorem aUb(ns:List Int):∃S rk c p cu,jZ [.lst (ns.map D.int)]=.ok (.tup [.lst (stD S),.lst (nats rk),.int (p:Nat)])/\Cut S rk c p cu/\S.length<=6:=by
 obtain⟨f,f0,ef⟩:=aHp ns 0 (by omega)
 obtain⟨ds,ed,hd⟩:∃ds,(bG (cL 3 (dF [9] (tgN 9) (yG (eC (.int 5))) dG iV)) (sIf (e2 dEq (e2 pD (aB 1) (eC (.int 2))) (eC (.int 1))) (cL 3 (aW iJ (aC (e2 aGr (aB 1) (eC (.int 2))) (aC (aB 2) aU)))) dM)) [some (.v (.lst (ns.map D.int))),some (.v (.int f)),some (.v (.lst (nats [6,3,3,2,7]))),none,none,none,none,none,none,none,none,none,none,none]=.ok (.nx [some (.v (.lst (ns.map D.int))),some (.v (.int f)),some (.v (.lst (nats [6,3,3,2,7]))),some (.v (.lst (nats ds))),none,none,none,none,none,none,none,none,none,none])/\Fits ds [6,3,3,2,7]:=by
  obtain⟨row,e,hF⟩:=aHq (tg:=tgN 9) (E:=iV) (st:=[some (.v (.lst (ns.map D.int))),some (.v (.int f)),some (.v (.lst (nats [6,3,3,2,7]))),none,none,none,none,none,none,none,none,none,none,none]) [6,3,3,2,7] 0 λi m hm=>by
   have hpos:0<m:=by
    have:=List.mem_of_getElem? hm;simp at this;omega
   obtain⟨v,e,v0,v1⟩:=vL f (1+((0+i:Nat):Int)) (m:=(m:Int)) (by omega)
   exact⟨_,v,rfl,aV (aP rfl (aP (aH rfl rfl rfl) (aP (aH rfl rfl (eX (aS8 (by rw[Nat.zero_add];exact hm)))) rfl))) e,v0,v1⟩
  obtain⟨row',e',hF'⟩:=aS7 (f/2) [6,3,3,2,7] (λm hm=>by simp at hm;omega) (by decide)
  have t:(e2 dEq (e2 pD (aB 1) (eC (.int 2))) (eC (.int 1))) [some (.v (.lst (ns.map D.int))),some (.v (.int f)),some (.v (.lst (nats [6,3,3,2,7]))),some (.v (.lst (nats row))),none,none,none,none,none,none,none,none,none,none]=.ok (.bl (decide (f%2=1))):=aH (aH rfl rfl (sJ (by decide))) rfl (zJ _ _)
  have s5:(cL 3 (dF [9] (tgN 9) (yG (eC (.int 5))) dG iV)) [some (.v (.lst (ns.map D.int))),some (.v (.int f)),some (.v (.lst (nats [6,3,3,2,7]))),none,none,none,none,none,none,none,none,none,none,none]=.ok (.nx [some (.v (.lst (ns.map D.int))),some (.v (.int f)),some (.v (.lst (nats [6,3,3,2,7]))),some (.v (.lst (nats row))),none,none,none,none,none,none,none,none,none,none]):=bK (iC (aD1 (n:=5) rfl (by omega)) (by simp) e)
  cases hf:decide (f%2=1)
  .exact⟨row,aQ s5 (qM (t.trans (by rw[hf])) rfl),hF⟩
  .exact⟨row',aQ s5 (aFu (t.trans (by rw[hf])) (bK (aV (aP (aH rfl rfl (aLd (by decide))) rfl) e'))),hF'⟩
 cases hd with|cons h0 hd=>cases hd with|cons h1 hd=>cases hd with|cons h2 hd=>cases hd with|cons h3 hd=>cases hd with|cons h4 hd=>
 cases hd;rename_i d0 d1 d2 d3 d4;obtain⟨b,hb⟩:∃b,[0,0,10^29][d2]?=some b:=⟨_,List.getElem?_eq_getElem (by simpa using h2)⟩
 obtain⟨S,rk,y9,y10,y11,e,l1,hR⟩:=aXh (ns:=ns) (f:=f) (n:=1+d0) (low:=b+d3) (cu:=d4%(1+d0+1)) (d0:=d0) (d1:=d1) (d2:=d2) (d3:=d3) (d4:=d4) (by omega) h1 (1+d0) 0 [] [] none none none (by omega) rfl ⟨rfl,λi hi=>(by cases hi),λi hi=>(by cases hi)⟩
 rw[<-List.range_eq_range']at e;refine⟨S,rk,1+d1,(b+d3)%2,d4%(1+d0+1),bT rfl (aQ (bK (aV rfl ef)) (aQ (bK (d:=.lst (nats [6,3,3,2,7])) (lZ rfl)) ?_)),hR.cut l1 (by omega) (by omega),by omega⟩
 refine(aU9 (a:=cL 3 (dF [9] (tgN 9) (yG (eC (.int 5))) dG iV))).symm.trans (aQ ed (aQ (bK (d:=.int ((1+d0:Nat):Int)) (aH rfl (aH rfl rfl (eX (d:=.int d0) rfl)) ?_)) (aQ (bK (d:=.int ((b+d3:Nat):Int)) (aH (x:=.int (b:Nat)) (aH (x:=.lst (nats [0,0,10^29])) (lZ (aP rfl (aP rfl (aP (aH rfl rfl (aF (by decide))) rfl)))) (aH rfl rfl (eX (d:=.int d2) rfl)) (eX (aS8 hb))) (aH rfl rfl (eX (d:=.int d3) rfl)) ?_)) (aQ (bK (d:=.int ((d4%(1+d0+1):Nat):Int)) (aH (aH rfl rfl (eX (d:=.int d4) rfl)) (aH rfl rfl rfl) ?_)) (aQ (wK (lZ rfl)) (aQ (wK (lZ rfl)) (aQ (iK (aD1 rfl (by omega)) e) ?_)))))))
 .show R.ok (D.int (1+(d0:Int)))=_
  push_cast;rfl
 .show R.ok (D.int ((b:Int)+(d3:Int)))=_
  push_cast;rfl
 .refine(sJ (by omega)).trans ?_
  push_cast
  rfl
 .refine cU ?_
  show (aC _ (aC _ (aC _ aU)) _).bind _=_;rw[aP (d:=.lst (stD S)) rfl (aP (d:=.lst (nats rk)) rfl (aP (d:=.int (((b+d3)%2:Nat):Int)) (aH rfl rfl ((sJ (by decide)).trans (by push_cast;rfl))) rfl)),aM]
  exact aF (dD (by show 3<=_;omega))
end
section
variable{S:List (List Nat)}{rk:List Nat}{c q p cu:Nat}
theorem aFe(M:Mch S rk c)(x2:Option Sl):∀(x:List Nat)(q:Nat)(l:Option Sl),q<S.length->Ltr c x->∃l',forR (tgN 3) yV (x.map λch=>D.str [ch]) [some (.v (.lst (stD S))),some (.v (.int q)),x2,l]=.ok (.nx [some (.v (.lst (stD S))),some (.v (.int (fQ S q x))),x2,l'])
 |[],q,l,_,_=>⟨l,rfl⟩
 |ch::x,q,l,hq,hx=>by
  obtain⟨h1,h2⟩:=hx ch (.head _);obtain⟨r,f1,f2,f3⟩:=aD4 M hq h1 h2;obtain⟨l',e⟩:=aFe M x2 x (stp S q (ch-97)) (some (.v (.str [ch]))) f3 λy hy=>hx y (.tail _ hy)
  have mt:eMt aBs (eC (.str [97,98,99])) (aC (aB 3) aU) [some (.v (.lst (stD S))),some (.v (.int q)),x2,some (.v (.str [ch]))]=.ok (.int ((ch-97:Nat):Int)):=by
   show (ofO (lV [97,98,99] [ch] 0)).bind _=_;rw[aH8 M.c3 h1 h2];rfl
  exact⟨l',jM rfl (bK (aH (aH rfl rfl (eX f1)) mt (eX f2))) e⟩
theorem aEk(M:Mch S rk c)(hq:q<S.length)(x:List Nat)(hx:Ltr c x)(hl:x.length<=10000):jH [.lst (stD S),.int q,.str x]=.ok (.int (fQ S q x)):=by
 obtain⟨l',e⟩:=aFe M (some (.v (.str x))) x q none hq hx;refine bT rfl (aQ (iK ?_ e) (cU rfl));exact aF (dD (by omega))
theorem aDg{f:Nat->Nat}:∀(x:List Nat)(n:Nat),(∀i,i<x.length->x.getD i 0=f (n+i))->fQ S (fw S f q n) x=fw S f q (n+x.length)
 |[],_,_=>rfl
 |ch::x,n,h=>by
  have h0:ch=f n:=by have:=h 0 (by simp);simpa using this
  have:=aDg (f:=f) x (n+1) λi hi=>by
   have:=h (i+1) (by simp;omega)
   rw[show n+1+i=n+(i+1) by omega,<-this]
   simp
  rw[length_cons,show n+(x.length+1)=n+1+x.length by omega,<-this]
  show fQ S (stp S (fw S f q n) (ch-97)) x=fQ S (fw S f q (n+1)) x;rw[h0];rfl
theorem aLt{b t:List Nat}(t1:1<=t.length)(n:Nat) (h:i<(b++rep n t).length):(b++rep n t).getD i 0=lt b t (0+i):=by
 rw[Nat.zero_add];rw[length_append,lA]at h
 by_cases hb:i<b.length
 .rw[aC0 hb,bD0 hb]
 .rw[aHc (by omega),bCz (by omega),aPv t1 n _ (by omega)]
theorem bB4{b t:List Nat}(t1:1<=t.length)(n m:Nat) (h:i<(rep n t).length):(rep n t).getD i 0=lt b t (b.length+m*t.length+i):=by
 rw[lA]at h;rw[aPv t1 n _ h,show b.length+m*t.length+i=(b.length+i)+m*t.length by omega,aG6 (by omega),bCz (by omega)]
 congr 1;omega
theorem aGb{x y:List Nat}(hx:Ltr c x)(hy:Ltr c y):Ltr c (x++y):=λz hz=>(List.mem_append.mp hz).elim (hx z) (hy z)
theorem aGc{t:List Nat} (h:Ltr c t):Ltr c (rep n t):=λz hz=>h z (aRi hz)
def bB5(rk:List Nat)(B:Nat)(l:List Nat):Nat:=l.foldl (λb r=>max b (rk.getD r 0)) B
theorem aSe{k:Nat}:∀(l:List Nat)(B:Nat),B%2=k->(∀r∈l,rk.getD r 0%2=k)->bB5 rk B l%2=k
 |[],B,h,_=>h
 |r::l,B,h,hl=>aSe l (max B (rk.getD r 0)) (by
  have:=hl r mem_cons_self;rcases Nat.le_total B (rk.getD r 0) with z|z
  .rw[Nat.max_eq_right z];exact this
  .rw[Nat.max_eq_left z];exact h) λr hr=>hl r (mem_cons_of_mem _ hr)
theorem aO0{k:Nat}{l:List Nat}(h0:l≠[])(hl:∀r∈l,rk.getD r 0%2=k):bB5 rk 0 l%2=k:=by
 cases l with
 |nil=>exact(h0 rfl).elim
 |cons r l=>exact aSe l (max 0 (rk.getD r 0)) (by rw[Nat.max_eq_right (zero_le _)];exact hl r mem_cons_self) λr hr=>hl r (mem_cons_of_mem _ hr)
theorem aHt(M:Mch S rk c)(x2:Option Sl):∀(x:List Nat)(q B:Nat)(l:Option Sl),q<S.length->Ltr c x->∃l',forR (tgN 5) aB6 (x.map λch=>D.str [ch]) [some (.v (.lst (stD S))),some (.v (.lst (nats rk))),x2,some (.v (.int q)),some (.v (.int B)),l]=.ok (.nx [some (.v (.lst (stD S))),some (.v (.lst (nats rk))),x2,some (.v (.int (fQ S q x))),some (.v (.int (bB5 rk B (runs S q x)))),l'])
 |[],q,B,l,_,_=>⟨l,rfl⟩
 |ch::x,q,B,l,hq,hx=>by
  obtain⟨h1,h2⟩:=hx ch (.head _);obtain⟨r,f1,f2,f3⟩:=aD4 M hq h1 h2;obtain⟨l',e⟩:=aHt M x2 x (stp S q (ch-97)) (max B (rk.getD (stp S q (ch-97)) 0)) (some (.v (.str [ch]))) f3 λy hy=>hx y (.tail _ hy)
  have mt:eMt aBs (eC (.str [97,98,99])) (aC (aB 5) aU) [some (.v (.lst (stD S))),some (.v (.lst (nats rk))),x2,some (.v (.int q)),some (.v (.int B)),some (.v (.str [ch]))]=.ok (.int ((ch-97:Nat):Int)):=by
   show (ofO (lV [97,98,99] [ch] 0)).bind _=_;rw[aH8 M.c3 h1 h2];rfl
  exact⟨l',jM rfl (aQ (st':=[some (.v (.lst (stD S))),some (.v (.lst (nats rk))),x2,some (.v (.int (stp S q (ch-97)))),some (.v (.int B)),some (.v (.str [ch]))]) (bK (aH (aH rfl rfl (eX f1)) mt (eX f2))) (bK (aH rfl (aH rfl rfl (eX (aWo (by rw[M.rks];exact f3)))) (aSd _ _)))) e⟩
theorem mul_str(t:List Nat)(n:Nat)(h:n*t.length<=1000)(ht:t.length<=1000)(hn:n<=1000):aPn (.str t) (.int n)=.ok (.str (rep n t)):=by
 show aY (t.length*(n:Int).toNat<=big/\_/\_) (R.ok (D.str (rep (n:Int).toNat t)))=_;rw[aF ⟨by rw[toNat_natCast,Nat.mul_comm];exact dD (by omega),by omega,by omega⟩,toNat_natCast]
theorem add_str(x y:List Nat)(h:x.length+y.length<=1000):gD (.str x) (.str y)=.ok (.str (x++y)):=aF (dD (by omega))
theorem bB6{st:PSt}{x:List Nat}(h:f st=.ok (.str x))(hl:x.length<=1000):itE f st=.ok (x.map λch=>D.str [ch]):=by
 rw[aW4,h,aM];exact aF (dD (by omega))
structure Wd(c:Nat)(b t:List Nat):Prop where
 lb:Ltr c b
 lt:Ltr c t
 t1:1<=t.length
 tl:t.length<=5
 bl:b.length<=8
theorem aXi(K:Cut S rk c p cu)(h6:S.length<=6){b t:List Nat}(W:Wd c b t){s e:Nat}(L:Lp S (lt b t) 0 s e)(hs:s<=b.length+S.length*t.length){v:Bool}(hv:Ev S rk (lt b t) 0 v):tR [.lst (stD S),.lst (nats rk),.tup [.str b,.str t]]=.ok (.bl v):=by
 have M:=K.M;have n1:=M.one;have hlt:=zL M (aC1 W.lb W.lt W.t1) (q:=0) (by omega)
 have tl:=W.tl;have bl:=W.bl;have t1:=W.t1;have hnt:S.length*t.length<=6*5:=Nat.mul_le_mul h6 tl;have hn1:1*1<=S.length*t.length:=Nat.mul_le_mul n1 t1;have hr:fQ S 0 (b++rep S.length t)=fw S (lt b t) 0 (b.length+S.length*t.length):=by
  have:=aDg (S:=S) (q:=0) (f:=lt b t) (b++rep S.length t) 0 λi hi=>aLt t1 _ hi
  rw[length_append,lA,Nat.zero_add]at this;exact this
 have hru:runs S (fw S (lt b t) 0 (b.length+S.length*t.length)) (rep S.length t)=seg S (lt b t) 0 (b.length+S.length*t.length+1) (b.length+S.length*t.length+1+(rep S.length t).length):=aHe (rep S.length t) _ λi hi=>bB4 t1 _ _ hi
 have hq:=hlt (b.length+S.length*t.length);obtain⟨l',e⟩:=aHt M (some (.v (.tup [.str b,.str t]))) (rep S.length t) (fw S (lt b t) 0 (b.length+S.length*t.length)) 0 none hq (aGc W.lt);rw[hru]at e;have ev:decide ((bB5 rk 0 (seg S (lt b t) 0 (b.length+S.length*t.length+1) (b.length+S.length*t.length+1+(rep S.length t).length)):Int)%2=0)=v:=by
  have hne:seg S (lt b t) 0 (b.length+S.length*t.length+1) (b.length+S.length*t.length+1+(rep S.length t).length)≠[]:=aHd (by rw[lA];omega)
  have V:=verdict hlt L K.par K.two hv;have:=K.two;rcases sides K (aC1 W.lb W.lt W.t1) (by omega) L with ⟨a,_⟩|⟨a,_⟩
  .have hb:=aO0 (rk:=rk) (k:=1-p) hne λr hr=>by
    obtain⟨m,m1,_,rfl⟩:=oG.mp hr;rw[K.par _ (hlt m),if_pos (a m (by omega))]
   rw[V.1 a];exact decide_eq_decide.mpr (by omega)
  .have hb:=aO0 (rk:=rk) (k:=p) hne λr hr=>by
    obtain⟨m,m1,_,rfl⟩:=oG.mp hr;rw[K.par _ (hlt m),if_neg (show ¬ decide (cu<=fw S (lt b t) 0 m)=true by rw[a m];exact Bool.false_ne_true)]
   rw[V.2 a];exact decide_eq_decide.mpr (by omega)
 have em:∀x3 x4 x5,e2 aPn (e2 dIx (aB 2) (eC (.int 1))) (e1 lY (aB 0)) [some (.v (.lst (stD S))),some (.v (.lst (nats rk))),some (.v (.tup [.str b,.str t])),x3,x4,x5]=.ok (.str (rep S.length t)):=λ_ _ _=>aH (y:=.int (S.length:Nat)) (aH rfl rfl rfl) (by show R.ok (D.int ((stD S).length:Nat))=_;rw[mX]) (mul_str t S.length (by omega) (by omega) (by omega))
 refine bT rfl (aQ (bK (aV (aP rfl (aP rfl (aP (aH (aH (z:=.ok (.str b)) rfl rfl rfl) (em _ _ _) (add_str b (rep S.length t) (by rw[lA];omega))) rfl))) (aEk M (q:=0) (by omega) (b++rep S.length t) (aGb W.lb (aGc W.lt)) (by rw[length_append,lA];omega)))) (aQ rfl (aQ (iK (bB6 (em _ _ _) (by rw[lA];omega)) (by rw[hr];exact e)) (cU (aH (aH rfl rfl (sJ (by decide))) rfl ((zJ _ _).trans (by rw[ev])))))))
theorem aHu{tg:Tg}{E:Ex}{st:PSt}:∀(ks:List Nat),(∀k∈ks,∃s1 l,tg (.int (k:Nat)) st=.ok s1/\E s1=.ok (.str [97+l])/\l<c)->∃x,jY tg dG E st (nats ks)=.ok (x.map λch=>D.str [ch])/\x.length=ks.length/\Ltr c x
 |[],_=>⟨[],rfl,rfl,λ_ h=>nomatch h⟩
 |k::ks,h=>by
  obtain⟨s1,l,e1',e2',hl⟩:=h k mem_cons_self;obtain⟨x,e,hx,lx⟩:=aHu ks λk hk=>h k (mem_cons_of_mem _ hk)
  refine⟨(97+l)::x,?_,by rw[length_cons,length_cons,hx],λz hz=>?_⟩
  .show jY tg dG E st (.int (k:Nat)::nats ks)=.ok (.str [97+l] :: x.map λch=>D.str [ch])
   rw[nD,e1'];simp only[aM,show dG s1=.ok (.bl true) from rfl,nC,if_true,e2',e]
  .rcases List.mem_cons.mp hz with rfl|hz
   .omega
   .exact lx z hz
theorem aUc(cl:Int)(hc:1<=c/\c<=3):∃b t,nQ [.int cl,.int c]=.ok (.tup [.str b,.str t])/\Wd c b t:=by
 have sign:∀{st:PSt}{k0:Int}{k:Nat},st[0]?=some (some (.v (.int cl)))->st[1]?=some (some (.v (.int c)))->st[4]?=some (some (.v (.int (k:Nat))))->∃l,e2 dIx (eC (.str [97,98,99])) (aW eU (aC (aB 0) (aC (e2 gD (eC (.int k0)) (aB 4)) (aC (aB 1) aU)))) st=.ok (.str [97+l])/\l<c:=λ{st k0 k} h0 h1 h4=>by
  obtain⟨v,e,v0,v1⟩:=vL cl (k0+(k:Int)) (m:=(c:Int)) (by omega)
  have g0:aB 0 st=.ok (.int cl):=by unfold aB;rw[h0]
  have g1:aB 1 st=.ok (.int c):=by unfold aB;rw[h1]
  have g4:aB 4 st=.ok (.int (k:Nat)):=by unfold aB;rw[h4]
  refine⟨v.toNat,aH rfl (aV (aP g0 (aP (aH rfl g4 rfl) (aP g1 rfl))) e) ?_,by omega⟩
  rw[show v=((v.toNat:Nat):Int) by omega]
  exact(aS1 (by omega)).trans (by rw[toNat_natCast])
 obtain⟨v1,e1',a1,b1⟩:=vL cl 29 (m:=9) (by decide)
 obtain⟨v2,e2',a2,b2⟩:=vL cl 30 (m:=5) (by decide)
 obtain⟨n1,rfl⟩:∃n:Nat,v1=(n:Int):=⟨v1.toNat,by omega⟩
 obtain⟨n2,rfl⟩:∃n:Nat,v2=(n:Int):=⟨v2.toNat,by omega⟩
 obtain⟨b,eb,lb,hb⟩:=aHu (c:=c) (tg:=tgN 4) (E:=aB4) (st:=[some (.v (.int cl)),some (.v (.int c)),none,none,none]) (List.range n1) λk _=>by
  obtain⟨l,e,hl⟩:=sign (st:=[some (.v (.int cl)),some (.v (.int c)),none,none,some (.v (.int (k:Nat)))]) (k0:=31) (k:=k) rfl rfl rfl;exact⟨_,l,rfl,e,hl⟩
 obtain⟨t,et,lt',ht⟩:=aHu (c:=c) (tg:=tgN 4) (E:=aB5) (st:=[some (.v (.int cl)),some (.v (.int c)),some (.v (.str b)),none,none]) (List.range (1+n2)) λk _=>by
  obtain⟨l,e,hl⟩:=sign (st:=[some (.v (.int cl)),some (.v (.int c)),some (.v (.str b)),none,some (.v (.int (k:Nat)))]) (k0:=51) (k:=k) rfl rfl rfl;exact⟨_,l,rfl,e,hl⟩
 rw[length_range]at lb lt';have join:∀{F:Ex}{st:PSt}{l:List Nat},F st=.ok (.lst (l.map λc=>D.str [c]))->l.length<=1000->eMt aGx (eC (.str [])) (aC F aU) st=.ok (.str l):=λ{F st l} h hl=>by
  show ((aC F aU) st).bind _=_;rw[aP h rfl,aM];exact bAb l (by omega)
 refine⟨b,t,bT rfl (aQ (bK (join (iC (aD1 (aV rfl e1') (by omega)) (by simp;omega) eb) (by omega))) (aQ (bK (join (iC (aD1 (n:=1+n2) (aH rfl (aV rfl e2') (by show R.ok (D.int (1+(n2:Int)))=_;push_cast;rfl)) (by omega)) (by simp;omega) et) (by omega))) (cU (aLq (aP rfl (aP rfl rfl)) (show 2<=1000 by decide))))),⟨hb,ht,by omega,by omega,by omega⟩⟩
def kD2(p:Nat):D:=.ins (if p=0 then "EarlyNo" else "EarlyYes") [] []
theorem me2{m:String}{p0 p1:List D->R D} {r:Exs} {st:PSt} (hp:p=0\/p=1) (h:f st=.ok (kD2 p)) (hr:r st=.ok xs) (h0:p=0->p0 (kD2 p::xs)=.ok d) (h1:p=1->p1 (kD2 p::xs)=.ok d):aAy (dU "EarlyNo" m p0 [] f r) (dU "EarlyYes" m p1 [] f r) st=.ok d:=by
 rcases hp with rfl|rfl
 .exact aSb (aXd h hr (h0 rfl))
 .exact aNx (bB2 h hr (by decide)) (aXd h hr (h1 rfl))
theorem bFf(K:Cut S rk c p cu):¬ Beh S c rk (decide (p=0)):=by
 rintro⟨L,G,hL,hG,l1,g1,a,ha,b,hb,hr⟩;obtain⟨⟨x,hx,ex⟩,_⟩:=sO (rk:=rk) hL.1.1;obtain⟨⟨y,hy,ey⟩,_⟩:=sO (rk:=rk) hG.1.1;have xl:=cD hL.2.1 hx;have px:=K.par x xl;have py:=K.par y (cD hG.2.1 hy);have h2:=K.two;unfold evN at l1 g1;have l2:¬ (tH rk L%2=0↔p=0):=λz=>by
  rw[decide_eq_decide.mpr z]at l1;cases h:decide (p=0) <;> rw[h]at l1<;>cases l1
 have g2:tH rk G%2=0↔p=0:=decide_eq_decide.mp g1;have cx:cu<=x:=by
  by_cases z:cu<=x
  .exact z
  .rw[if_neg (show ¬ decide (cu<=x)=true by rw[decide_eq_false z];exact Bool.false_ne_true)]at px
   exact(l2 (by omega)).elim
 have ca:=aLr K xl cx (hL.1.2.1 x hx a ha);have cb:=aLr K (cD hL.2.1 ha) ca hr;have cy:=aLr K (cD hG.2.1 hb) cb (hG.1.2.1 b hb y hy);rw[if_pos (decide_eq_true cy)]at py;omega
theorem bD3(K:Cut S rk c p cu){st:PSt} (hf:f st=.ok (kD2 p)) (hg:g st=.ok (mD S rk c)):e2 aGt (aAy (dU "EarlyNo" "bar" (mJ) [] f (aC g (aU))) (dU "EarlyYes" "bar" (kW) [] f (aC g (aU)))) (eC .non) st=.ok (.bl false):=by
 have hb:jL [mD S rk c,.bl (decide (p=0))]=.ok .non:=by
  rcases aUa K.M (decide (p=0)) with ⟨e,_⟩|⟨_,h⟩
  .exact e
  .exact(bFf K h).elim
 refine aH (x:=.non) (y:=.non) (me2 K.two hf (aP hg rfl) (λz=>?_) (λz=>?_)) rfl rfl
 .subst z;exact bT rfl (cU (aV rfl hb))
 .subst z;exact bT rfl (cU (aV rfl hb))
noncomputable def nvS(S:List (List Nat))(c:Nat)(rk:List Nat)(p:Nat):Nat:=cX ((List.range S.length).filter λr=>!aDb S c (aHn S c rk (decide (p=0))) r)
theorem bId(K:Cut S rk c p cu):sI [mD S rk c,.int (nvS S c rk p:Nat),.int ((1-p:Nat):Int),.int (p:Nat)]=.ok (.lst (nats (mkR S c rk p))):=by
 have n8:=K.M.most;have ce:=lB (tg:=tgN 4) (C:=dG) (E:=aCw) (st:=[some (.v (mD S rk c)),some (.v (.int (nvS S c rk p:Nat))),some (.v (.int ((1-p:Nat):Int))),some (.v (.int (p:Nat))),none]) (q:=λ_=>true) (G:=λr=>.int ((if nvr S c rk p r=true then 1-p else p:Nat):Int)) (List.range S.length) λr hr=>⟨_,rfl,rfl,by
  show (aW fU (aC (aB 1) (aC (aB 4) aU)) [some (.v (mD S rk c)),some (.v (.int (nvS S c rk p:Nat))),some (.v (.int ((1-p:Nat):Int))),some (.v (.int (p:Nat))),some (.v (.int (r:Nat)))]).bind _=_;rw[aV (aP rfl (aP rfl rfl)) (zM _ _),aM,nC,nvS,iD];have:decide (r∈(List.range S.length).filter λr=>!aDb S c (aHn S c rk (decide (p=0))) r)=nvr S c rk p r:=by
   cases hz:nvr S c rk p r with
   |true=>exact decide_eq_true (List.mem_filter.mpr ⟨hr,hz⟩)
   |false=>
    refine decide_eq_false λz=>?_
    have:=(List.mem_filter.mp z).2;rw[show (!aDb S c (aHn S c rk (decide (p=0))) r)=nvr S c rk p r from rfl,hz]at this
    cases this
  rw[this];cases nvr S c rk p r<;>rfl⟩
 rw[List.filter_eq_self.mpr (λ_ _=>rfl),show (List.range S.length).map (λr=>D.int ((if nvr S c rk p r=true then 1-p else p:Nat):Int))=nats (mkR S c rk p) by unfold nats mkR;rw[List.map_map];rfl]at ce
 exact bT rfl (cU (iC (aD1 (show e1 (fD "Machine" "many") (aB 0) _=.ok (.int (S.length:Nat)) from vI) (by omega)) (by simp;omega) ce))
theorem aK8(K:Cut S rk c p cu):fJ [kD2 p,mD S rk c]=.ok (mD S (mkR S c rk p) c):=by
 have hn:fP [mD S rk c,.bl (decide (p=0))]=.ok (.int (nvS S c rk p:Nat)):=aXa K.M;have hb:=bId K;have ini:=aRh (aGa K);generalize nvS S c rk p=N at hn hb;generalize mkR S c rk p=R at hb ini;have r0:p=0->iT [kD2 p,mD S rk c]=.ok (.lst (nats R)):=λz=>by
  have hd:rJ [mD S rk c]=.ok (.int (N:Nat)):=bT rfl (cU (aV (ds:=[mD S rk c,.bl (decide (p=0))]) (by rw[z];rfl) hn))
  exact bT rfl (cU (aV (aP rfl (aP (aV rfl hd) (aP (d:=.int ((1-p:Nat):Int)) (by rw[z];rfl) (aP (d:=.int (p:Nat)) (by rw[z];rfl) rfl)))) hb))
 have r1:p=1->iB [kD2 p,mD S rk c]=.ok (.lst (nats R)):=λz=>by
  have hd:rK [mD S rk c]=.ok (.int (N:Nat)):=bT rfl (cU (aV (ds:=[mD S rk c,.bl (decide (p=0))]) (by rw[z];rfl) hn))
  exact bT rfl (cU (aV (aP rfl (aP (aV rfl hd) (aP (d:=.int ((1-p:Nat):Int)) (by rw[z];rfl) (aP (d:=.int (p:Nat)) (by rw[z];rfl) rfl)))) hb))
 exact bT rfl (dX (qM (bD3 K rfl rfl) rfl) (cU (aV (aP (show e1 (fD "Machine" "steps") (aB 1) _=.ok (.lst (stD S)) from pN) (aP (me2 K.two rfl (aP rfl rfl) r0 r1) rfl)) ini)))
end
theorem aK9(b:Bool):dNe (.bl b) (.bl b)=.ok (.bl false):=(show dNe (.bl b) (.bl b)=.ok (.bl (!(b==b))) from aF ⟨zero_le 64,rfl,rfl⟩).trans (by cases b<;>rfl)
theorem bIe(a b:Bool):dEq (.bl a) (.bl b)=.ok (.bl (a==b)):=aF ⟨zero_le 64,rfl,rfl⟩
theorem bFg{o1 o2:Op2}{h:Ex}{st:PSt}{x z:D}{r:R D}(hf:f st=.ok x)(hg:g st=.ok y)(h1:o1 x y=.ok (.bl true))(hh:h st=.ok z)(h2:o2 y z=r):aWb o1 o2 f g h st=r:=by
 unfold aWb;rw[hf,aM,hg,aM,h1,aM,nC,if_pos rfl,hh,aM,h2]
theorem bFh(x:List Nat){k:Nat}(h:k<=x.length):cut x none (some (k:Int))=x.take k:=by
 show (x.drop 0).take ((if (k:Int)<0 then ((k:Int)+(x.length:Nat)).toNat else min (k:Int).toNat x.length)-0)=_
 rw[if_neg (by omega),toNat_natCast,Nat.min_eq_left h]
 simp
theorem bFi(h:l.Pairwise (· <= ·))(hl:l.length<64):aNa (.lst (nats l))=.ok (.lst (nats l)):=by
 have e:nats l=(l.map λ(x:Nat)=>(x:Int)).map D.int:=by unfold nats;rw[List.map_map];rfl
 have s:yH (l.map λ(x:Nat)=>(x:Int))=l.map λ(x:Nat)=>(x:Int):=List.Perm.eq_of_pairwise (le:=(· <= ·)) (λa b _ _ h1 h2=>Int.le_antisymm h1 h2) (aN8 _) (List.Pairwise.map _ (λa b h=>by omega) h) (sE _)
 rw[e];show (xP _).bind _=_;rw[rT,aM,aF (by rw[length_map];exact hl),s]
section
variable{S:List (List Nat)}{rk:List Nat}{c q p cu:Nat}
theorem aO1(K:Cut S rk c p cu)(hq:q<S.length){b t:List Nat}(lb:Ltr c b)(l2:Ltr c t)(t1:1<=t.length)(tl:t.length<=1000)(bl:b.length<=1000):∃s e v,Lp S (lt b t) q s e/\s<=b.length+S.length*t.length/\Ev S rk (lt b t) q v/\bV [mD S rk c,.tup [.str b,.str t],.int q]=.ok (.bl v)/\bV [mD S (mkR S c rk p) c,.tup [.str b,.str t],.int q]=.ok (.bl v)/\
  (((∀n,s<=n->nvr S c rk p (fw S (lt b t) q n)=true)/\v=decide (p=1))\/((∀n,nvr S c rk p (fw S (lt b t) q n)=false)/\v=decide (p=0))):=by
 obtain⟨i,J,hi,hJ,ef,_,_⟩:=aRm K.M hq lb l2 t1 (by omega) (by omega)
 have L:=aRl t1 hi ef;obtain⟨v,hv,e⟩:=aRn K.M hq lb l2 t1 (by omega) (by omega)
 obtain⟨v',hv',e'⟩:=aRn (aGa K) hq lb l2 t1 (by omega) (by omega)
 have hs:i*t.length<=S.length*t.length:=Nat.mul_le_mul_right _ (by omega)
 rcases early K (aC1 lb l2 t1) hq L hv hv' with ⟨_,h2,h3,h4⟩|⟨_,h2,h3,h4⟩
 .exact⟨_,_,v,L,by omega,hv,e,by rw[e',h4,h3],.inl ⟨h2,h3⟩⟩
 .exact⟨_,_,v,L,by omega,hv,e,by rw[e',h4,h3],.inr ⟨h2,h3⟩⟩
theorem aKa(K:Cut S rk c p cu)(hq:q<S.length){b t:List Nat}(lb:Ltr c b)(l2:Ltr c t)(t1:1<=t.length)(tl:t.length<=1000)(bl:b.length<=1000) (hN:nvr S c rk p (fw S (lt b t) q n)=true):bV [mD S rk c,.tup [.str b,.str t],.int q]=.ok (.bl (decide (p=1)))/\bV [mD S (mkR S c rk p) c,.tup [.str b,.str t],.int q]=.ok (.bl (decide (p=1))):=by
 obtain⟨s,e,v,_,_,_,e1',e2',h⟩:=aO1 K hq lb l2 t1 tl bl;rcases h with ⟨_,h⟩|⟨h,_⟩
 .rw[<-h];exact⟨e1',e2'⟩
 .rw[h n]at hN;cases hN
def wsD(W:List (List Nat×List Nat)):List D:=W.map λw=>D.tup [.str w.1,.str w.2]
abbrev bFj(S:List (List Nat))(ms:List D)(x:List Nat)(W:List (List Nat×List Nat))(v:Bool)(r:Nat)(x6 x7:Option Sl):PSt:=[some (.v (.lst ms)),some (.v (.lst (stD S))),some (.v (.str x)),some (.v (.lst (wsD W))),some (.v (.bl v)),some (.v (.int r)),x6,x7]
theorem bD4{ms:List D}{x:List Nat}{V:List (List Nat×List Nat)}{v:Bool} (xl:x.length<=100) (hV:∀w∈V,w.1.length<=8/\bV [mD S rk c,.tup [.str w.1,.str w.2],.int r]=.ok (.bl v)/\bV [mD S rk c,.tup [.str (x++w.1),.str w.2],.int 0]=.ok (.bl v)) (x7:Option Sl) :
  ∃y7,forR (tgN 7) qR (wsD V) (bFj S ms x W v r (some (.v (mD S rk c))) x7)=.ok (.nx (bFj S ms x W v r (some (.v (mD S rk c))) y7)):=by
 obtain⟨st',⟨y7,rfl⟩,e⟩:=aLf (tg:=tgN 7) (L:=qR) (λst=>∃y7,st=bFj S ms x W v r (some (.v (mD S rk c))) y7) (wsD V) (λd hd st hst=>by
  obtain⟨w,hw,rfl⟩:=List.mem_map.mp hd;obtain⟨y7,rfl⟩:=hst;obtain⟨wl,h1,h2⟩:=hV w hw;refine⟨_,_,rfl,qM (aH6 (p:=false) (q:=false) (aH (x:=.bl v) ((kZ rfl rfl (by decide)).trans h1) rfl (aK9 v)) λ_=>aH (x:=.bl v) ((kZ (xs:=[.tup [.str (x++w.1),.str w.2]]) rfl (aP (aLq (aP (aH rfl (aH (z:=.ok (.str w.1)) rfl rfl rfl) (add_str x w.1 (by omega))) (aP (aH (z:=.ok (.str w.2)) rfl rfl rfl) rfl)) (show 2<=1000 by decide)) rfl) (by decide)).trans h2) rfl (aK9 v)) rfl,_,rfl⟩) _ ⟨x7,rfl⟩
 exact⟨y7,e⟩
theorem bIf(K:Cut S rk c p cu){W:List (List Nat×List Nat)}(hW:∀w∈W,Wd c w.1 w.2){x:List Nat}(hx:Ltr c x)(xl:x.length<=100)(hN:nvr S c rk p (fQ S 0 x)=true):pR [.lst [mD S rk c,mD S (mkR S c rk p) c],.lst (stD S),.str x,.lst (wsD W),.bl (decide (p=1))]=.ok (.bl true):=by
 have n1:=K.M.one;have hr:=aNf K.M x 0 (by omega) hx
 have h1:∀w∈W,_:=λw hw=>aKa K hr (hW w hw).lb (hW w hw).lt (hW w hw).t1 (by have:=(hW w hw).tl;omega) (by have:=(hW w hw).bl;omega) (n:=0) hN
 have h2:∀w∈W,_:=λw hw=>aKa K (q:=0) (by omega) (b:=x++w.1) (t:=w.2) (aGb hx (hW w hw).lb) (hW w hw).lt (hW w hw).t1 (by have:=(hW w hw).tl;omega) (by have:=(hW w hw).bl;rw[length_append];omega) (n:=x.length) (by
  have:=aDg (S:=S) (q:=0) (f:=lt (x++w.1) w.2) x 0 λi hi=>by
   rw[Nat.zero_add,bD0 (by rw[length_append];omega),aC0 hi]
  rw[Nat.zero_add]at this;rw[<-this];exact hN)
 obtain⟨y7,e1'⟩:=bD4 (S:=S) (rk:=rk) (c:=c) (ms:=[mD S rk c,mD S (mkR S c rk p) c]) (x:=x) (W:=W) (V:=W) (v:=decide (p=1)) (r:=fQ S 0 x) xl (λw hw=>⟨(hW w hw).bl,(h1 w hw).1,(h2 w hw).1⟩) none
 obtain⟨z7,e2'⟩:=bD4 (S:=S) (rk:=mkR S c rk p) (c:=c) (ms:=[mD S rk c,mD S (mkR S c rk p) c]) (x:=x) (W:=W) (V:=W) (v:=decide (p=1)) (r:=fQ S 0 x) xl (λw hw=>⟨(hW w hw).bl,(h1 w hw).2,(h2 w hw).2⟩) y7
 exact bT rfl (aQ (bK (aV rfl (aEk K.M (q:=0) (by omega) x hx (by omega)))) (aQ (iK rfl (jM rfl (iK rfl e1') (jM rfl (iK rfl e2') rfl))) (cU rfl)))
noncomputable def mks(S:List (List Nat))(c:Nat)(rk:List Nat)(p:Nat)(f:Nat->Nat)(n:Nat):List Nat:=(List.range n).map λk=>if nvr S c rk p (fw S f 0 k)=true then 1 else 0
theorem aXj(K:Cut S rk c p cu){f:Nat->Nat}(hf:∀n,97<=f n/\(f n:Int)<97+c)(n:Nat):(mks S c rk p f n).Pairwise (· <= ·):=by
 have hlt:=zL K.M hf (q:=0) (by have:=K.M.one;omega)
 refine List.Pairwise.map _ (λa b h=>?_) (List.pairwise_lt_range (n:=n))
 by_cases ha:nvr S c rk p (fw S f 0 a)=true
 .have:=aSc (S:=S) (q:=0) (f:=f) (C:=nvr S c rk p) (λn h=>by rw[aLs];exact aNz K (hlt n) (by have:=hf n;omega) h) (b-a) a ha
  rw[show a+(b-a)=b by omega]at this
  rw[if_pos ha,if_pos this];exact Nat.le_refl _
 .rw[if_neg ha];exact zero_le _
theorem aXk{f:Nat->Nat}(n:Nat):atI (nats (mks S c rk p f (n+1))) (-1)=some (.int ((if nvr S c rk p (fw S f 0 n)=true then 1 else 0:Nat):Int)):=by
 unfold mks;rw[List.range_succ,List.map_append];exact aK4 _ _
noncomputable abbrev aHv(S:List (List Nat))(rk:List Nat)(c p:Nat)(b t:List Nat)(W:List (List Nat×List Nat))(v:Bool)(x7 x8 x9 x10:Option Sl):PSt:=[some (.v (.lst [mD S rk c,mD S (mkR S c rk p) c])),some (.v (.lst (stD S))),some (.v (.lst (nats rk))),some (.v (.tup [.str b,.str t])),some (.v (.lst (wsD W))),some (.v (.int p)),some (.v (.bl v)),x7,x8,x9,x10]
theorem aHw(K:Cut S rk c p cu){b t:List Nat}(Wb:Wd c b t){W:List (List Nat×List Nat)}{v:Bool}{N:Nat}(hN:N=(b++rep S.length t).length)(h100:N<=100):∀(m j:Nat)(x9 x10:Option Sl),j+m=N+1->∃y9 y10,forR (tgN 9) aB8 (nats (List.range' j m)) (aHv S rk c p b t W v (some (.v (.str (b++rep S.length t)))) (some (.o .l (nats (mks S c rk p (lt b t) j)))) x9 x10)=.ok (.nx (aHv S rk c p b t W v (some (.v (.str (b++rep S.length t)))) (some (.o .l (nats (mks S c rk p (lt b t) (N+1))))) y9 y10))
 |0,j,x9,x10,h=>⟨x9,x10,by rw[show j=N+1 by omega];rfl⟩
 |m+1,j,x9,x10,h=>by
  have n1:=K.M.one;have hlt:=zL K.M (aC1 Wb.lb Wb.lt Wb.t1) (q:=0) (by omega)
  have hp:=K.two;have hj:j<=(b++rep S.length t).length:=by omega
  have hl:fQ S 0 ((b++rep S.length t).take j)=fw S (lt b t) 0 j:=by
   have:=aDg (S:=S) (q:=0) (f:=lt b t) ((b++rep S.length t).take j) 0 λi hi=>by
    rw[List.length_take]at hi;rw[aTw (by omega)]
    exact aLt Wb.t1 _ (by omega)
   rw[List.length_take,Nat.min_eq_left hj,Nat.zero_add]at this;exact this
  obtain⟨y9,y10,e⟩:=aHw K Wb (W:=W) (v:=v) hN h100 m (j+1) (some (.v (.int j))) (some (.v (.int ((mkR S c rk p).getD (fw S (lt b t) 0 j) 0)))) (by omega)
  have sl:eSl (aB 7) vB (qH (aB 9)) (aHv S rk c p b t W v (some (.v (.str (b++rep S.length t)))) (some (.o .l (nats (mks S c rk p (lt b t) j)))) (some (.v (.int j))) x10)=.ok (.str ((b++rep S.length t).take j)):=by
   rw[aPq];show aY _ (R.ok (D.str (cut (b++rep S.length t) none (some (j:Int)))))=_;rw[aF (dD (by omega)),bFh _ hj]
  have s10:cL 10 (e2 dIx (e1 (fD "Machine" "ranks") (e2 dIx (aB 0) (eC (.int 1)))) (aW jH (aC (aB 1) (aC (eC (.int 0)) (aC (eSl (aB 7) vB (qH (aB 9))) aU))))) (aHv S rk c p b t W v (some (.v (.str (b++rep S.length t)))) (some (.o .l (nats (mks S c rk p (lt b t) j)))) (some (.v (.int j))) x10)=.ok (.nx (aHv S rk c p b t W v (some (.v (.str (b++rep S.length t)))) (some (.o .l (nats (mks S c rk p (lt b t) j)))) (some (.v (.int j))) (some (.v (.int ((mkR S c rk p).getD (fw S (lt b t) 0 j) 0)))))):=bK (aH (x:=.lst (nats (mkR S c rk p))) (show (e2 dIx (aB 0) (eC (.int 1)) (aHv S rk c p b t W v (some (.v (.str (b++rep S.length t)))) (some (.o .l (nats (mks S c rk p (lt b t) j)))) (some (.v (.int j))) x10)).bind (fD "Machine" "ranks")=_ from (congrArg (λz=>R.bind z (fD "Machine" "ranks")) (aH (op:=dIx) (x:=.lst [mD S rk c,mD S (mkR S c rk p) c]) (y:=.int 1) (z:=.ok (mD S (mkR S c rk p) c)) rfl rfl rfl)).trans aEh) (aV (aP rfl (aP rfl (aP sl rfl))) (aEk K.M (q:=0) (by omega) _ (λz hz=>aGb Wb.lb (aGc Wb.lt) z (List.mem_of_mem_take hz)) (by rw[List.length_take];omega))) (eX (by rw[hl];exact aWo (by rw[(aGa K).rks];exact hlt j))))
  refine⟨y9,y10,jM (d:=.int (j:Nat)) rfl (aQ s10 ((aEe (d:=.int ((if nvr S c rk p (fw S (lt b t) 0 j)=true then 1 else 0:Nat):Int)) (xs:=nats (mks S c rk p (lt b t) j)) (aH (aH rfl rfl rfl) rfl ((sJ (by decide)).trans ?_)) rfl (by rw[bM];unfold mks;rw[length_map,length_range];omega)).trans ?_)) e⟩
  .rw[aXg (hlt j)];congr 2;split<;>omega
  .rw[show mks S c rk p (lt b t) (j+1)=mks S c rk p (lt b t) j++[if nvr S c rk p (fw S (lt b t) 0 j)=true then 1 else 0] by unfold mks;rw[List.range_succ,List.map_append];rfl,oH]
   rfl
theorem bB7(K:Cut S rk c p cu)(h6:S.length<=6){W:List (List Nat×List Nat)}(hW:∀w∈W,Wd c w.1 w.2){b t:List Nat}(Wb:Wd c b t):tU [.lst [mD S rk c,mD S (mkR S c rk p) c],.lst (stD S),.lst (nats rk),.tup [.str b,.str t],.lst (wsD W),.int p]=.ok (.bl true):=by
 have n1:=K.M.one;have tl:=Wb.tl;have bl:=Wb.bl;have hp:=K.two;have hf:=aC1 Wb.lb Wb.lt Wb.t1;obtain⟨s,e,v,L,hs,hv,l1,l2,side⟩:=aO1 K (q:=0) (by omega) Wb.lb Wb.lt Wb.t1 (by omega) (by omega)
 have lv:=aXi K h6 Wb L hs hv;have hnt:S.length*t.length<=6*5:=Nat.mul_le_mul h6 tl;have hN:(b++rep S.length t).length=b.length+S.length*t.length:=by rw[length_append,lA]
 obtain⟨y9,y10,em⟩:=aHw K Wb (W:=W) (v:=v) (N:=b.length+S.length*t.length) hN.symm (by omega) (b.length+S.length*t.length+1) 0 none none (by omega)
 rw[<-List.range_eq_range']at em;have hl:fQ S 0 (b++rep S.length t)=fw S (lt b t) 0 (b.length+S.length*t.length):=by
  have:=aDg (S:=S) (q:=0) (f:=lt b t) (b++rep S.length t) 0 λi hi=>aLt Wb.t1 _ hi
  rw[hN,Nat.zero_add]at this;exact this
 have ri:=aXj K hf (b.length+S.length*t.length+1);have la:=aXk (S:=S) (c:=c) (rk:=rk) (p:=p) (f:=lt b t) (b.length+S.length*t.length);have ml:(mks S c rk p (lt b t) (b.length+S.length*t.length+1)).length<64:=by unfold mks;rw[length_map,length_range];omega
 generalize mks S c rk p (lt b t) (b.length+S.length*t.length+1)=mk at em ri la ml;have s7:∀x8 x9 x10,e2 gD (e2 dIx (aB 3) (eC (.int 0))) (e2 aPn (e2 dIx (aB 3) (eC (.int 1))) (e1 lY (aB 1))) (aHv S rk c p b t W v none x8 x9 x10)=.ok (.str (b++rep S.length t)):=λ_ _ _=>aH (aH (z:=.ok (.str b)) rfl rfl rfl) (aH (y:=.int (S.length:Nat)) (aH (z:=.ok (.str t)) rfl rfl rfl) (by show R.ok (D.int ((stD S).length:Nat))=_;rw[mX]) (mul_str t S.length (by omega) (by omega) (by omega))) (add_str b (rep S.length t) (by rw[<-length_append,hN];omega))
 have last:∀(j:Int)(y9 y10),e2 dEq (e2 dIx (dZ 8) (e1 rE (eC (.int 1)))) (eC (.int j)) (aHv S rk c p b t W v (some (.v (.str (b++rep S.length t)))) (some (.v (.lst (nats mk)))) y9 y10)=.ok (.bl (decide (((if nvr S c rk p (fw S (lt b t) 0 (b.length+S.length*t.length))=true then 1 else 0:Nat):Int)=j))):=λj _ _=>aH (aH rfl rfl (eX la)) rfl (zJ _ _)
 have tu:∀x8 y9 y10,e2 dEq (aB 5) (eC (.int 1)) (aHv S rk c p b t W v (some (.v (.str (b++rep S.length t)))) x8 y9 y10)=.ok (.bl (decide (p=1))):=λ_ _ _=>aH rfl rfl ((zJ _ _).trans (by rw[show decide ((p:Int)=1)=decide (p=1) from decide_eq_decide.mpr (by omega)]))
 have mid:∀y9 y10,eOr (e2 dNe (e1 aNa (dZ 8)) (dZ 8)) (e2 dNe (e2 dEq (e2 dIx (dZ 8) (e1 rE (eC (.int 1)))) (eC (.int 1))) (e2 dEq (aB 6) (e2 dEq (aB 5) (eC (.int 1))))) (aHv S rk c p b t W v (some (.v (.str (b++rep S.length t)))) (some (.v (.lst (nats mk)))) y9 y10)=.ok (.bl false):=λy9 y10=>by
  refine aH6 (p:=false) (q:=false) (aH (x:=.lst (nats mk)) (y:=.lst (nats mk)) (show R.bind (R.ok (D.lst (nats mk))) aNa=_ from bFi ri ml) rfl (bAa mk).1) λ_=>aH (last 1 y9 y10) (aH rfl (tu _ y9 y10) (bIe _ _)) ?_
  rcases side with ⟨h1,h2⟩|⟨h1,h2⟩
  .rw[if_pos (h1 _ hs),h2,show (decide (p=1)==decide (p=1))=true by cases decide (p=1) <;> rfl]
   exact aK9 true
  .rw[if_neg (by rw[h1 _];exact Bool.false_ne_true),h2,show (decide (p=0)==decide (p=1))=false by rcases hp with rfl|rfl<;>rfl]
   exact aK9 false
 refine bT rfl (aQ (bK (aV rfl lv)) (dX (qM (aH6 (p:=false) (q:=false) (aH (x:=.bl v) ((kZ (S:=S) (rk:=rk) (c:=c) (aH rfl rfl rfl) rfl (by decide)).trans l1) rfl (aK9 v)) λ_=>aH (x:=.bl v) ((kZ (S:=S) (rk:=mkR S c rk p) (c:=c) (aH rfl rfl rfl) rfl (by decide)).trans l2) rfl (aK9 v)) rfl) (aQ (bK (s7 none none none)) (aQ (wK (lZ rfl)) (aQ (iK (aD1 (n:=b.length+S.length*t.length+1) ?_ (by omega)) em) (aQ (st':=aHv S rk c p b t W v (some (.v (.str (b++rep S.length t)))) (some (.v (.lst (nats mk)))) y9 y10) (qM (mid y9 y10) rfl) (cU ?_)))))))
 .refine aH (x:=.int ((b.length+S.length*t.length:Nat):Int)) (show aY ((b++rep S.length t).length<=big) (R.ok (D.int ((b++rep S.length t).length:Nat)))=_ from ?_) rfl ?_
  .rw[aF (dD (by rw[hN];omega)),hN]
  .show R.ok (D.int (((b.length+S.length*t.length:Nat):Int)+1))=_
   push_cast
   rfl
 .rcases side with ⟨h1,h2⟩|⟨h1,h2⟩
  .refine(aH6 (p:=false) (q:=true) ((last 0 y9 y10).trans (by rw[if_pos (h1 _ hs)];rfl)) λ_=>aV (aP rfl (aP rfl (aP rfl (aP rfl (aP (tu _ y9 y10) rfl))))) (bIf K hW (aGb Wb.lb (aGc Wb.lt)) (by rw[hN];omega) ?_)).trans rfl
   rw[hl];exact h1 _ hs
  .exact(aH6 (p:=true) (q:=true) ((last 0 y9 y10).trans (by rw[if_neg (by rw[h1 _];exact Bool.false_ne_true)];rfl)) λz=>nomatch z).trans rfl
theorem bFk(hp:p=0\/p=1) {st:PSt} (h:f st=.ok (kD2 p)):aAy (e1 (aJl "EarlyNo" true) f) (e1 (aJl "EarlyYes" true) f) st=.ok (.bl true):=by
 have hit:∀{c:String},f st=.ok (.ins c [] [])->e1 (aJl c true) f st=.ok (.bl true):=λ{c} h=>by
  show (f st).bind _=_;rw[h];exact aF rfl
 rcases hp with rfl|rfl
 .exact aSb (hit h)
 .refine aNx ?_ (hit h);show (f st).bind _=_;rw[h];exact aNw (by decide)
end
theorem law_true(ns:List Int)(hn:ns.length<=63):aJn [.lst (ns.map D.int)]=.ok (.bl true):=by
 obtain⟨S,rk,c,p,cu,em,K,h6⟩:=aUb ns;have M:=K.M;have n1:=M.one;have hp:=K.two;have c1:=M.c1;have c3:=M.c3;have hrow:=(M.row S[0] (List.getElem_mem (show 0<S.length by omega))).1
 have word:∀k:Nat,∃w:List Nat×List Nat,k<6->(∃cl:Int,gY [.lst (ns.map D.int),.int (7+(k:Int))]=.ok (.int cl)/\nQ [.int cl,.int c]=.ok (.tup [.str w.1,.str w.2]))/\Wd c w.1 w.2:=λk=>by
  by_cases hk:k<6
  .obtain⟨cl,_,ec⟩:=aHp ns (7+k) (by omega)
   rw[show ((7+k:Nat):Int)=7+(k:Int) by omega]at ec
   obtain⟨b,t,e,W⟩:=aUc (c:=c) cl (by omega)
   exact⟨(b,t),λ_=>⟨⟨cl,ec,e⟩,W⟩⟩
  .exact⟨([],[]),λz=>(hk z).elim⟩
 let wd:Nat->List Nat×List Nat:=λk=>Classical.choose (word k)
 have hwd:∀k:Nat,k<6->(∃cl:Int,gY [.lst (ns.map D.int),.int (7+(k:Int))]=.ok (.int cl)/\nQ [.int cl,.int c]=.ok (.tup [.str (wd k).1,.str (wd k).2]))/\Wd c (wd k).1 (wd k).2:=λk hk=>Classical.choose_spec (word k) hk
 generalize wd=wd at hwd;have hW:∀w∈(List.range 6).map wd,Wd c w.1 w.2:=λw hw=>by
  obtain⟨k,hk,rfl⟩:=List.mem_map.mp hw;exact(hwd k (List.mem_range.mp hk)).2
 have s3:∀x3 x4 x5 x9 x10,(aAy (dU "EarlyNo" "marked" (fJ) [] (aB 2) (aC (aB 1) aU)) (dU "EarlyYes" "marked" (fJ) [] (aB 2) (aC (aB 1) aU))) [some (.v (.lst (ns.map D.int))),some (.v (mD S rk c)),some (.v (kD2 p)),x3,x4,x5,some (.v (.lst (stD S))),some (.v (.lst (nats rk))),some (.v (.int p)),x9,x10]=.ok (mD S (mkR S c rk p) c):=λ_ _ _ _ _=>me2 hp rfl (aP rfl rfl) (λ_=>aK8 K) (λ_=>aK8 K)
 have mlen:(mkR S c rk p).length=S.length:=(aGa K).rks;have m01:∀r∈mkR S c rk p,r<=1:=λr hr=>by
  unfold mkR at hr;obtain⟨k,_,rfl⟩:=List.mem_map.mp hr;show (if nvr S c rk p k=true then 1-p else p)<=1
  split<;>omega
 have cmp:∀st:PSt,jY (tgN 10) aLa aL9 [some (.v (.lst (ns.map D.int))),some (.v (mD S rk c)),some (.v (kD2 p)),some (.v (.lst [mD S rk c,mD S (mkR S c rk p) c])),none,none,some (.v (.lst (stD S))),some (.v (.lst (nats rk))),some (.v (.int p)),none,none] (nats (mkR S c rk p))=.ok []:=λ_=>by
  have:=lB (tg:=tgN 10) (C:=aLa) (E:=aL9) (st:=[some (.v (.lst (ns.map D.int))),some (.v (mD S rk c)),some (.v (kD2 p)),some (.v (.lst [mD S rk c,mD S (mkR S c rk p) c])),none,none,some (.v (.lst (stD S))),some (.v (.lst (nats rk))),some (.v (.int p)),none,none]) (q:=λ_=>false) (G:=λr=>.int (r:Nat)) (mkR S c rk p) λr hr=>⟨_,rfl,by
   refine qU (p:=true) ?_
   have:=m01 r hr;exact bFg (x:=.int 0) (y:=.int (r:Nat)) (z:=.int 1) rfl rfl (by show R.ok (D.bl (decide ((0:Int)<=(r:Int))))=_;rw[decide_eq_true (by omega)]) rfl (by show R.ok (D.bl (decide ((r:Int)<=1)))=_;rw[decide_eq_true (by omega)]),rfl⟩
  rw[List.filter_eq_nil_iff.mpr (λ_ _=>Bool.false_ne_true)]at this
  exact this
 have clen:∀x9,e1 lY (e2 dIx (aB 6) (eC (.int 0))) [some (.v (.lst (ns.map D.int))),some (.v (mD S rk c)),some (.v (kD2 p)),some (.v (.lst [mD S rk c,mD S (mkR S c rk p) c])),none,none,some (.v (.lst (stD S))),some (.v (.lst (nats rk))),some (.v (.int p)),x9,none]=.ok (.int (c:Nat)):=λx9=>by
  rw[aN5,aH (op:=dIx) (x:=.lst (stD S)) (y:=.int 0) rfl rfl (eX (aH9 (q:=0) (by omega))),aM]
  show R.ok (D.int ((nats S[0]).length:Nat))=_;rw[bM,hrow]
 have cw:jY (tgN 9) dG aLb [some (.v (.lst (ns.map D.int))),some (.v (mD S rk c)),some (.v (kD2 p)),some (.v (.lst [mD S rk c,mD S (mkR S c rk p) c])),none,none,some (.v (.lst (stD S))),some (.v (.lst (nats rk))),some (.v (.int p)),none,none] (nats (List.range 6))=.ok (wsD ((List.range 6).map wd)):=by
  have:=lB (tg:=tgN 9) (C:=dG) (E:=aLb) (st:=[some (.v (.lst (ns.map D.int))),some (.v (mD S rk c)),some (.v (kD2 p)),some (.v (.lst [mD S rk c,mD S (mkR S c rk p) c])),none,none,some (.v (.lst (stD S))),some (.v (.lst (nats rk))),some (.v (.int p)),none,none]) (q:=λ_=>true) (G:=λk=>D.tup [.str (wd k).1,.str (wd k).2]) (List.range 6) λk hk=>by
   obtain⟨⟨cl,ec,ew⟩,_⟩:=hwd k (List.mem_range.mp hk);exact⟨_,rfl,rfl,aV (aP (aV (aP rfl (aP (aH rfl rfl rfl) rfl)) ec) (aP (clen _) rfl)) ew⟩
  rw[List.filter_eq_self.mpr (λ_ _=>rfl)]at this
  rw[this];unfold wsD;rw[List.map_map];rfl
 obtain⟨st',⟨x5,rfl⟩,ef⟩:=aLf (tg:=tgN 5) (L:=aRf) (λst=>∃x5,st=[some (.v (.lst (ns.map D.int))),some (.v (mD S rk c)),some (.v (kD2 p)),some (.v (.lst [mD S rk c,mD S (mkR S c rk p) c])),some (.v (.lst (wsD ((List.range 6).map wd)))),x5,some (.v (.lst (stD S))),some (.v (.lst (nats rk))),some (.v (.int p)),none,none]) (wsD ((List.range 6).map wd)) (λd hd st hst=>by
  obtain⟨w,hw,rfl⟩:=List.mem_map.mp hd;obtain⟨x5,rfl⟩:=hst;exact⟨_,_,rfl,qM (qU (p:=true) (aV rfl (bB7 K h6 hW (hW w hw)))) rfl,_,rfl⟩) _ ⟨none,rfl⟩
 have k2:e2 dIx (nZ (aC (aN9 "EarlyNo") (aC (aN9 "EarlyYes") aU))) (aB 8) [some (.v (.lst (ns.map D.int))),some (.v (mD S rk c)),none,none,none,none,some (.v (.lst (stD S))),some (.v (.lst (nats rk))),some (.v (.int p)),none,none]=.ok (kD2 p):=by
  rcases hp with rfl|rfl
  .exact aH (lZ (ds:=[.ins "EarlyNo" [] [],.ins "EarlyYes" [] []]) rfl) rfl rfl
  .exact aH (lZ (ds:=[.ins "EarlyNo" [] [],.ins "EarlyYes" [] []]) rfl) rfl rfl
 refine bT rfl (aQ (st':=[some (.v (.lst (ns.map D.int))),none,none,none,none,none,some (.v (.lst (stD S))),some (.v (.lst (nats rk))),some (.v (.int p)),none,none]) ?_ ?_)
 .show R.bind (jZ [.lst (ns.map D.int)]) _=_;rw[em];rfl
 refine aQ (bK (aV rfl (aRh M))) (aQ (bK k2) (dX (qM (aH6 (p:=false) (q:=false) (qU (p:=true) (bFk hp rfl)) λ_=>bD3 K rfl rfl) rfl) (aQ (bK (lZ (ds:=[mD S rk c,mD S (mkR S c rk p) c]) (aP rfl (aP (s3 _ _ _ _ _) rfl)))) ?_)))
 refine dX (qM (aH (x:=.int (0:Nat)) ?_ rfl rfl) rfl) (aQ (bK (iC (aD1 (n:=6) rfl (by omega)) (by simp) cw)) (aQ (iK rfl ef) (cU rfl)))
 rw[aN5,iC (tZ (show (e2 dIx (aB 3) (eC (.int 1)) _).bind (fD "Machine" "ranks")=.ok (.lst (nats (mkR S c rk p))) from (congrArg (λz=>R.bind z (fD "Machine" "ranks")) (aH (op:=dIx) (x:=.lst [mD S rk c,mD S (mkR S c rk p) c]) (y:=.int 1) (z:=.ok (mD S (mkR S c rk p) c)) rfl rfl rfl)).trans aEh)) (by rw[bM,mlen];omega) (cmp []),aM]
 rfl
end Pu
namespace Pu
open PySem PySem.Spec PyProof.Rows L2
abbrev LSt:=L2.St
def oK:Key->D
 |.inl i=>.int i
 |.inr x=>.str x.cps.toList
structure ExcCl(K:Frag)(C:Addr):Prop where
 ga:findIn K (.ref C) "__getattribute__"=some (some (.builtin "BaseException.__getattribute__"))
 gn:findIn K (.ref C) "__getattr__"=some none
 mb:mroIn K C (.type "BaseException")=some true
 cl:(PySem.W.clsIn K C).isSome=true
 fd:findIn K (.ref C) "__class__"=some (some (.builtin "object.__class__"))
 sp:specialIn K (.builtin "object.__class__") "__get__"=some (some (.builtin "getset_descriptor.__get__"))
 tk:takesIn K (.builtin "object.__class__")=some true
 mr:mroIn K C (.type "object")=some true
structure ExcAt(K:Frag)(c:String)(C:Addr)(bm:List Value):Prop where
 ns:nsIn K mainGlobals (Str.ofString c)=some (some (.ref C))
 ob:∃(B newId initId:String)(bmB:List Value),ExcBaseFacts B newId initId bmB/\∀h,K.In h->∃N nm q bs hdct sn sub ab col dd k0 k1 k2 k3 k5 mN,
  h.get? C=some (excClassObj nm q C N bs bm hdct sn sub ab col dd k0 k1 k2 k3 k5 newId)/\h.Ns N mN/\mN "__init__"=none/\OwnTail h bmB bm
 ic:ExcCl K C
def bD5(a C:Addr)(h:Heap):Prop:=∃o,h.get? a=some o/\o.cls=.ref C/\notCls o=true
structure ExcIs(K:Frag)(c:String)(C:Addr):Prop where
 ns:nsIn K mainGlobals (Str.ofString c)=some (some (.ref C))
 ic:ExcCl K C
theorem ExcAt.is{K:Frag} {bm:List Value} (h:ExcAt K c C bm):ExcIs K c C:=⟨h.ns,h.ic⟩
def xOb(x C:Addr)(d:Option Addr)(h:Heap):Prop:=∃o,h.get? x=some o/\o.cls=.ref C/\notCls o=true/\o.dict=d
def xFs(dx:Addr)(fs:List (Str×V))(h:Heap):Prop:=∃mA,h.Ns1 dx mA/\(∀f,vZ (fs.lookup f) (mA f))/\PySem.Within mA (fs.map (·.1))
mutual
def Rep(K:Frag)(H:Hp):D->V->Prop
 |.non,v=>v=V.non
 |.bl b,v=>v=V.bl b
 |.int i,v=>v=V.int i
 |.str s,v=>v=V.str ⟨s.toArray⟩
 |.tup ds,v=>∃a vs,v=V.ref a/\H a=some (.tup vs)/\bH K H ds vs
 |.lst ds,v=>∃a vs,v=V.ref a/\SqL K H a vs/\bH K H ds vs
 |.dct t ks ds,v=>∃a vs,v=V.ref a/\((t=false/\∃kvs:List (Key×V),H a=some (.dK kvs)/\kvs.map (λp=>oK p.1)=ks/\vs=kvs.map (·.2))\/(t=true/\∃kvs:List (List Key×V),H a=some (.dT kvs)/\kvs.map (λp=>D.tup (p.1.map oK))=ks/\vs=kvs.map (·.2)))/\bH K H ds vs
 |.ins c ns ds,v=>∃a C dx fs vs,v=V.ref a/\H a=some (.ins C dx fs)/\nsIn K mainGlobals (Str.ofString c)=some (some (.ref C))/\fs.map (·.1)=ns.map Str.ofString/\vs=fs.map (·.2)/\bH K H ds vs
 |.exn c ns ds,v=>∃a φ C,v=V.ref a/\H a=some (.ext φ)/\(∀h,φ h->bD5 a C h)/\ExcIs K c C/\∃dx fs vs,((ns=[]/\vs=[])\/(φ=xOb a C (some dx)/\dx≠a/\H dx=some (.ext (xFs dx fs))/\fs.map (·.1)=ns.map Str.ofString/\vs=fs.map (·.2)))/\bH K H ds vs
 |.fn f,v=>∃a,v=V.ref a/\nsIn K mainGlobals (Str.ofString f)=some (some (.ref a))
def bH(K:Frag)(H:Hp):List D->List V->Prop
 |[],vs=>vs=[]
 |d::ds,vs=>∃v r,vs=v::r/\Rep K H d v/\bH K H ds r
end
theorem zP{K:Frag} {xs:List V} (e:bF H H') (h:SqT K H a xs):SqT K H' a xs:=by
 rcases h with (h|⟨o,h⟩)|h
 .exact .inl (.inl (e _ _ h))
 .exact .inl (.inr ⟨o,e _ _ h⟩)
 .exact .inr h
mutual
theorem Rep.mono{K:Frag}{H H':Hp}(s:bF H H'):∀{d:D}{v:V},Rep K H d v->Rep K H' d v
 |.non,_,h=>by unfold Rep at h ⊢; exact h
 |.bl _,_,h=>by unfold Rep at h ⊢; exact h
 |.int _,_,h=>by unfold Rep at h ⊢; exact h
 |.str _,_,h=>by unfold Rep at h ⊢; exact h
 |.tup _,_,h=>by
  unfold Rep at h ⊢;obtain⟨a,vs,e,q,r⟩:=h;exact⟨a,vs,e,s _ _ q,bH.mono s r⟩
 |.lst _,_,h=>by
  unfold Rep at h ⊢;obtain⟨a,vs,e,q,r⟩:=h;exact⟨a,vs,e,s.seq q,bH.mono s r⟩
 |.dct _ _ _,_,h=>by
  unfold Rep at h ⊢;obtain⟨a,vs,e,q,r⟩:=h;refine⟨a,vs,e,?_,bH.mono s r⟩;rcases q with ⟨q0,kvs,q1,q2⟩|⟨q0,kvs,q1,q2⟩
  .exact .inl ⟨q0,kvs,s _ _ q1,q2⟩
  .exact .inr ⟨q0,kvs,s _ _ q1,q2⟩
 |.ins _ _ _,_,h=>by
  unfold Rep at h ⊢;obtain⟨a,C,dx,fs,vs,e,q1,q2,q3,q4,r⟩:=h;exact⟨a,C,dx,fs,vs,e,s _ _ q1,q2,q3,q4,bH.mono s r⟩
 |.fn _,_,h=>by unfold Rep at h ⊢; exact h
 |.exn _ _ _,_,h=>by
  unfold Rep at h ⊢;obtain⟨a,φ,C,e,q,hφ,hi,dx,fs,vs,h1,r⟩:=h;refine⟨a,φ,C,e,s _ _ q,hφ,hi,dx,fs,vs,?_,bH.mono s r⟩;rcases h1 with h1|⟨h1,h2,h3,h4⟩
  .exact .inl h1
  .exact .inr ⟨h1,h2,s _ _ h3,h4⟩
theorem bH.mono{K:Frag}{H H':Hp}(s:bF H H'):∀{ds:List D}{vs:List V},bH K H ds vs->bH K H' ds vs
 |[],_,h=>by unfold bH at h ⊢; exact h
 |d::ds,_,h=>by
  unfold bH at h ⊢;obtain⟨v,r,e,q,t⟩:=h;exact⟨v,r,e,Rep.mono s q,bH.mono s t⟩
end
section
variable{K:Frag}
theorem rM:Rep K H .non v↔v=V.non:=by unfold Rep;exact Iff.rfl
theorem cV:Rep K H (.bl b) v↔v=V.bl b:=by unfold Rep;exact Iff.rfl
theorem bO{i:Int}:Rep K H (.int i) v↔v=V.int i:=by unfold Rep;exact Iff.rfl
theorem dH{s:List Nat}:Rep K H (.str s) v↔v=V.str ⟨s.toArray⟩:=by unfold Rep;exact Iff.rfl
theorem zQ:Rep K H (.tup ds) v↔∃a vs,v=V.ref a/\H a=some (.tup vs)/\bH K H ds vs:=by conv=>lhs;unfold Rep
theorem iM(h:Rep K H (.tup ds) v):∃a vs,v=V.ref a/\SqT K H a vs/\bH K H ds vs:=
 let ⟨a,vs,e,q,r⟩:=zQ.mp h;⟨a,vs,e,SqT.of q,r⟩
theorem iG:Rep K H (.lst ds) v↔∃a vs,v=V.ref a/\SqL K H a vs/\bH K H ds vs:=by conv=>lhs;unfold Rep
theorem wL{t:Bool}{ks:List D}:Rep K H (.dct t ks ds) v↔∃a vs,v=V.ref a/\((t=false/\∃kvs:List (Key×V),H a=some (.dK kvs)/\kvs.map (λp=>oK p.1)=ks/\vs=kvs.map (·.2))\/(t=true/\∃kvs:List (List Key×V),H a=some (.dT kvs)/\kvs.map (λp=>D.tup (p.1.map oK))=ks/\vs=kvs.map (·.2)))/\bH K H ds vs:=by conv=>lhs;unfold Rep
theorem aGd{ns:List String}:Rep K H (.ins c ns ds) v↔∃a C dx fs vs,v=V.ref a/\H a=some (.ins C dx fs)/\nsIn K mainGlobals (Str.ofString c)=some (some (.ref C))/\fs.map (·.1)=ns.map Str.ofString/\vs=fs.map (·.2)/\bH K H ds vs:=by conv=>lhs;unfold Rep
theorem bB8{ns:List String}:Rep K H (.exn c ns ds) v↔∃a φ C,v=V.ref a/\H a=some (.ext φ)/\(∀h,φ h->bD5 a C h)/\ExcIs K c C/\∃dx fs vs,((ns=[]/\vs=[])\/(φ=xOb a C (some dx)/\dx≠a/\H dx=some (.ext (xFs dx fs))/\fs.map (·.1)=ns.map Str.ofString/\vs=fs.map (·.2)))/\bH K H ds vs:=by conv=>lhs;unfold Rep
theorem bFl{f:String}:Rep K H (.fn f) v↔∃a,v=V.ref a/\nsIn K mainGlobals (Str.ofString f)=some (some (.ref a)):=by conv=>lhs;unfold Rep
theorem dC:bH K H [] vs↔vs=[]:=by unfold bH;exact Iff.rfl
theorem bU{d:D}:bH K H (d::ds) vs↔∃v r,vs=v::r/\Rep K H d v/\bH K H ds r:=by conv=>lhs;unfold bH
theorem bH.nil:bH K H [] []:=dC.mpr rfl
theorem bH.cons{d:D} {v:V} (h:Rep K H d v) (t:bH K H ds vs):bH K H (d::ds) (v::vs):=bU.mpr ⟨v,vs,rfl,h,t⟩
theorem bH.length:∀{ds:List D}{vs:List V},bH K H ds vs->vs.length=ds.length
 |[],_,h=>by rw[dC.mp h];rfl
 |_::ds,_,h=>by
  obtain⟨v,r,rfl,_,t⟩:=bU.mp h;rw[length_cons,length_cons,bH.length t]
theorem bH.get:∀{ds:List D}{vs:List V}{i:Nat}{d:D},bH K H ds vs->ds[i]?=some d->∃v,vs[i]?=some v/\Rep K H d v
 |[],_,_,_,_,e=>by simp at e
 |_::ds,_,0,d,h,e=>by
  obtain⟨v,r,rfl,q,t⟩:=bU.mp h;simp at e;subst e;exact⟨v,rfl,q⟩
 |_::ds,_,i+1,d,h,e=>by
  obtain⟨v,r,rfl,q,t⟩:=bU.mp h;obtain⟨u,e1,e2⟩:=bH.get (i:=i) t (by simpa using e)
  exact⟨u,by simpa using e1,e2⟩
theorem bH.append:∀{ds es:List D}{vs us:List V},bH K H ds vs->bH K H es us->bH K H (ds++es) (vs++us)
 |[],_,_,_,h,t=>by rw[dC.mp h];exact t
 |_::_,_,_,_,h,t=>by
  obtain⟨v,r,rfl,q,w⟩:=bU.mp h;exact .cons q (bH.append w t)
theorem bH.set{d:D}{v:V}(hd:Rep K H d v):∀{ds:List D}{vs:List V}(i:Nat),bH K H ds vs->bH K H (ds.set i d) (vs.set i v)
 |[],_,_,h=>by rw[dC.mp h];exact .nil
 |_::_,_,0,h=>by
  obtain⟨v,r,rfl,q,w⟩:=bU.mp h;exact .cons hd w
 |_::_,_,i+1,h=>by
  obtain⟨v,r,rfl,q,w⟩:=bU.mp h;exact .cons q (bH.set hd i w)
theorem bH.take:∀{ds:List D}{vs:List V}(n:Nat),bH K H ds vs->bH K H (ds.take n) (vs.take n)
 |_,_,0,_=>.nil
 |[],_,_+1,h=>by rw[dC.mp h];exact .nil
 |_::_,_,n+1,h=>by
  obtain⟨v,r,rfl,q,w⟩:=bU.mp h;exact .cons q (bH.take n w)
theorem bH.drop:∀{ds:List D}{vs:List V}(n:Nat),bH K H ds vs->bH K H (ds.drop n) (vs.drop n)
 |_,_,0,h=>h
 |[],_,_+1,h=>by rw[dC.mp h];exact .nil
 |_::_,_,n+1,h=>by
  obtain⟨v,r,rfl,q,w⟩:=bU.mp h;exact bH.drop n w
theorem bH.rep{ds:List D}{vs:List V}(h:bH K H ds vs):∀n:Nat,bH K H (Pu.rep n ds) (List.replicate n vs).flatten
 |0=>.nil
 |n+1=>by
  unfold Pu.rep;rw[List.replicate_succ,flatten_cons,List.replicate_succ,flatten_cons];exact h.append (bH.rep h n)
end
def hide(A:List Addr)(H:Hp):Hp:=λb=>if b∈A then none else H b
theorem iH{b:Addr}(h:b∈A):hide A H b=none:=if_pos h
theorem cB{b:Addr}(h:b∉A):hide A H b=H b:=if_neg h
theorem bN(A:List Addr)(H:Hp):bF (hide A H) H:=λb o h=>by
 unfold hide at h;split at h
 .cases h
 .exact h
theorem bF.hide{A:List Addr}{H H':Hp}(s:bF H H'):bF (hide A H) (hide A H'):=λb o h=>by
 unfold Pu.hide at h ⊢;split at h
 .cases h
 .rename_i q;rw[if_neg q];exact s b o h
theorem lO{A':List Addr} (h:∀a∈A',a∈A):bF (hide A H) (hide A' H):=λb o q=>by
 by_cases hb:b∈A
 .rw[iH hb]at q;cases q
 .rw[cB hb]at q;rw[cB λz=>hb (h b z)]
  exact q
theorem vM(H:Hp):hide [] H=H:=by
 funext b;exact cB (by simp)
theorem aDh{o:HO}(h:a∈A):hide A (upd H a o)=hide A H:=by
 funext b
 by_cases hb:b∈A
 .rw[iH hb,iH hb]
 .rw[cB hb,cB hb];exact bQ λz=>hb (z ▸ h)
theorem cH{p:Addr}{o:HO}(h:H p=none):bF H (upd H p o):=λb u q=>by
 rw[bQ (bC q h)];exact q
def Own(A:List Addr)(H:Hp):Prop:=∀a∈A,(H a).isSome=true
theorem Own.mono(h:Own A H)(s:bF H H'):Own A H':=λa ha=>by
 obtain⟨o,e⟩:=Option.isSome_iff_exists.mp (h a ha);rw[s a o e];rfl
theorem Own.free(h:Own A H){p:Addr}(e:H p=none):p∉A:=λz=>by
 have q:=h p z;rw[e]at q;cases q
theorem iI{K:Frag} {p:Addr} (w:Own A H) (e:H p=none) (h:bH K (hide A H) ds vs):Rep K (hide A (upd H p (.lst vs))) (.lst ds) (.ref p):=
 iG.mpr ⟨p,vs,rfl,SqL.of (by rw[cB (w.free e)];exact bZ),h.mono (bF.hide (cH e))⟩
theorem aFf{K:Frag} {p:Addr} (w:Own A H) (e:H p=none) (h:bH K (hide A H) ds vs):Rep K (hide A (upd H p (.tup vs))) (.tup ds) (.ref p):=
 zQ.mpr ⟨p,vs,rfl,(by rw[cB (w.free e)];exact bZ),h.mono (bF.hide (cH e))⟩
def KOk(K:Frag):OK->Addr->HO->List V->Prop
 |.l,_,o,vs=>o=.lst vs
 |.d t ks,_,o,vs=>(t=false/\∃kvs:List (Key×V),o=.dK kvs/\kvs.map (λp=>oK p.1)=ks/\vs=kvs.map (·.2))\/(t=true/\∃kvs:List (List Key×V),o=.dT kvs/\kvs.map (λp=>D.tup (p.1.map oK))=ks/\vs=kvs.map (·.2))
 |.i n c ns,a,o,vs=>a=n/\∃C dx fs,o=.ins C dx fs/\nsIn K mainGlobals (Str.ofString c)=some (some (.ref C))/\fs.map (·.1)=ns.map Str.ofString/\vs=fs.map (·.2)
theorem KOk.rep{K:Frag} {k:OK} {o:HO} (ko:KOk K k a o vs) (h:H a=some o) (r:bH K H ds vs):Rep K H (ofK k ds) (.ref a):=by
 cases k with
 |l=>have e:o=.lst vs:=ko;subst e;exact iG.mpr ⟨a,vs,rfl,SqL.of h,r⟩
 |d t ks=>
  refine wL.mpr ⟨a,vs,rfl,?_,r⟩;rcases ko with ⟨q0,kvs,rfl,q⟩|⟨q0,kvs,rfl,q⟩
  .exact .inl ⟨q0,kvs,h,q⟩
  .exact .inr ⟨q0,kvs,h,q⟩
 |i n c ns=>
  obtain⟨_,C,dx,fs,rfl,q1,q2,q3⟩:=ko;exact aGd.mpr ⟨a,C,dx,fs,vs,rfl,h,q1,q2,q3,r⟩
structure RS(K:Frag)(B A:List Addr)(H:Hp)(st:PSt)(σ:LSt):Prop where
 len:st.length=σ.length
 own:Own (A++B) H
 dis:∀a∈A,a∉B
 val:∀(i:Nat) d,st[i]?=some (some (.v d))->∃v,σ[i]?=some (some v)/\Rep K (hide (A++B) H) d v
 lst:∀(i:Nat) k xs,st[i]?=some (some (.o k xs))->∃a o vs,σ[i]?=some (some (.ref a))/\a∈A/\H a=some o/\KOk K k a o vs/\bH K (hide (A++B) H) xs vs/\
  ∀(j:Nat) k' ys,st[j]?=some (some (.o k' ys))->σ[j]?=some (some (.ref a))->j=i
theorem RS.mono{K:Frag}{B A:List Addr}{H H':Hp}{st:PSt}{σ:LSt}(r:RS K B A H st σ)(s:bF H H'):RS K B A H' st σ where
 len:=r.len
 own:=r.own.mono s
 dis:=r.dis
 val:=λi d e=>let ⟨v,e1,q⟩:=r.val i d e;⟨v,e1,q.mono (bF.hide s)⟩
 lst:=λi k xs e=>let ⟨a,o,vs,e1,m,h,ko,q,u⟩:=r.lst i k xs e;⟨a,o,vs,e1,m,s _ _ h,ko,q.mono (bF.hide s),u⟩
def Le(A:List Addr)(H:Hp)(A':List Addr)(H':Hp):Prop:=bF (hide A H) (hide A' H')
theorem Le.refl{A:List Addr}{H:Hp}:Le A H A H:=bF.refl _
theorem Le.of(s:bF H H'):Le A H A H':=bF.hide s
theorem Le.trans{A A1 A2:List Addr}{H H1 H2:Hp}(a:Le A H A1 H1)(b:Le A1 H1 A2 H2):Le A H A2 H2:=bF.trans a b
def tI(K:Frag)(B:List Addr)(f:Ex):TE:=λσ H Q=>∃A st d,RS K B A H st σ/\f st=.ok d/\∀v H',bF H H'->Rep K (hide (A++B) H') d v->Q v H'
def lD(K:Frag)(A:List Addr)(H:Hp)(d:D)(v:V):Prop:=
 Rep K (hide A H) d v\/∃a k o ds vs,d=ofK k ds/\v=V.ref a/\H a=some o/\KOk K k a o vs/\bH K (hide A H) ds vs
theorem lD.mono{K:Frag}{A:List Addr}{H H':Hp}{d:D}{v:V}(s:bF H H')(h:lD K A H d v):lD K A H' d v:=by
 rcases h with h|⟨a,k,o,ds,vs,e1,e2,e3,ko,q⟩
 .exact .inl (h.mono (bF.hide s))
 .exact .inr ⟨a,k,o,ds,vs,e1,e2,s _ _ e3,ko,q.mono (bF.hide s)⟩
def tP(K:Frag)(B:List Addr)(f:Ex):TE:=λσ H Q=>∃A st d,RS K B A H st σ/\f st=.ok d/\∀v H',bF H H'->lD K (A++B) H' d v->Q v H'
def tA(K:Frag)(B:List Addr)(f:Exs):TA:=λσ H Q=>∃A st ds,RS K B A H st σ/\f st=.ok ds/\∀vs H',bF H H'->bH K (hide (A++B) H') ds vs->Q vs H'
def tT(K:Frag)(B:List Addr)(f:Ex):TT:=λσ H Q=>∃A st b,RS K B A H st σ/\f st=.ok (.bl b)/\∀H',bF H H'->Q b H'
def tO(K:Frag)(B:List Addr)(f:ExO):TO:=λσ H Q=>∃A st o,RS K B A H st σ/\f st=.ok o/\∀H',bF H H'->Q o H'
def bB9(K:Frag)(B A:List Addr)(H:Hp)(r:Fl)(Dn:Ends):Prop:=match r with
 |.nx st'=>∀A' σ' H',Le A H A' H'->RS K B A' H' st' σ'->Dn.nx σ' H'
 |.bk st'=>∀A' σ' H',Le A H A' H'->RS K B A' H' st' σ'->Dn.bk σ' H'
 |.ct st'=>∀A' σ' H',Le A H A' H'->RS K B A' H' st' σ'->Dn.ct σ' H'
 |.rt d=>∀A' v H',Le A H A' H'->Rep K (hide (A'++B) H') d v->Dn.rt v H'
theorem bB9.mono{K:Frag}{A1:List Addr} {r:Fl} {Dn:Ends} (l:Le A H A1 H1) (p:bB9 K B A H r Dn):bB9 K B A1 H1 r Dn:=by
 cases r with
 |nx st=>exact λA' σ' H' l'=>p A' σ' H' (l.trans l')
 |bk st=>exact λA' σ' H' l'=>p A' σ' H' (l.trans l')
 |ct st=>exact λA' σ' H' l'=>p A' σ' H' (l.trans l')
 |rt d=>exact λA' v H' l'=>p A' v H' (l.trans l')
def tS(K:Frag)(B:List Addr)(b:Bd):TS:=λDn σ H=>∃A st r,RS K B A H st σ/\b st=.ok r/\bB9 K B A H r Dn
def aUd(K:Frag)(B A:List Addr)(H:Hp)(J:It)(ds:List D):Prop:=∀A' H',Le A H A' H'->Own (A'++B) H'->∀(i:Nat),
 (∀d,ds[i]?=some d->J.go i H'/\∀x H3,J.yld i H' x H3->bF H' H3/\Rep K (hide (A'++B) H3) d x)/\(ds.length<=i->J.stop i H')
def tIt(K:Frag)(B:List Addr)(f:ItE):TI:=λσ H R=>∃A st ds,RS K B A H st σ/\f st=.ok ds/\∀J H',bF H H'->aUd K B A H' J ds->R J H'
def tG(K:Frag)(B:List Addr)(g:Tg):TG:=λv σ H Q=>∃A st d s1,RS K B A H st σ/\Rep K (hide (A++B) H) d v/\g d st=.ok s1/\∀σ',RS K B A H s1 σ'->Q σ' H
section
theorem cN{t t':TE}(h:PE X e t)(m:∀σ H Q,t' σ H Q->t σ H Q):PE X e t':=λpins s σ H Q I q=>h pins s σ H Q I (m σ H Q q)
theorem aLu{t t':TT}(h:PT X e t)(m:∀σ H Q,t' σ H Q->t σ H Q):PT X e t':=λpins s σ H Q I q=>h pins s σ H Q I (m σ H Q q)
theorem aXl{t t':TT}(h:PW X e t)(m:∀σ H Q,t' σ H Q->t σ H Q):PW X e t':=λw pins s σ H Q I q=>h w pins s σ H Q I (m σ H Q q)
theorem aXm{t t':TA}(h:PA X es t)(m:∀σ H Q,t' σ H Q->t σ H Q):PA X es t':=λpos pins s σ H Q I q=>h pos pins s σ H Q I (m σ H Q q)
theorem aXn{e:Option Expr}{t t':TO}(h:PO X e t)(m:∀σ H Q,t' σ H Q->t σ H Q):PO X e t':=λpins s σ H Q I q=>h pins s σ H Q I (m σ H Q q)
theorem nG{st:Stmt}{t t':TS}(h:PS X st t)(m:∀D σ H,t' D σ H->t D σ H):PS X st t':=λpins s σ H D I q=>h pins s σ H D I (m D σ H q)
theorem aAl{st:List Stmt}{t t':TS}(h:PSs X st t)(m:∀D σ H,t' D σ H->t D σ H):PSs X st t':=λpins s σ H D I q=>h pins s σ H D I (m D σ H q)
theorem aXo{t t':TG}(h:PG X e t)(m:∀v σ H Q,t' v σ H Q->t v σ H Q):PG X e t':=λpins s σ H v u Q I r q=>h pins s σ H v u Q I r (m v σ H Q q)
theorem aXp{t t':TI}(h:L2.PI X tg e t)(m:∀σ H R,t' σ H R->t σ H R):L2.PI X tg e t':=λpins s σ H R I q=>h pins s σ H R I (m σ H R q)
end
section
variable {a b:Expr} {h:Ex}
theorem aA(i:Nat) (hN:X.N[i]?=some x:=by rfl) (hv:Vis X.env.scope x:=by first|exact Or.inl rfl|exact Or.inr (Or.inl rfl)|exact Or.inr (Or.inr rfl)) (hd:(x==("__debug__":Str))=false:=by decide)
  (hcd:(x==("__classdict__":Str))=false:=by decide):PE X (.Name x pos) (tI X.K B (aB i)):=by
 refine cN (yL hN hv hd hcd) ?_
 rintro σ H Q ⟨A,st,d,rs,hd,q⟩;unfold aB at hd;split at hd
 .rename_i d' e;cases hd;obtain⟨v,e1,r⟩:=rs.val i _ e;exact⟨v,e1,q v H (bF.refl _) r⟩
 .cases hd
end
end Pu
variable{σ τ:Pu.LSt}
namespace Pu
open PySem PySem.Spec PyProof.Rows L2
section
variable{X:Cx}{B:List Addr}{a b e:Expr}{f g:Ex}{pos:Pos}
theorem i_c(h:PE X e (tC v))(r:∀H,Rep X.K H d v):PE X e (tI X.K B (eC d)):=cN h (by
 rintro σ H Q ⟨A,st,d',rs,hd,q⟩;cases hd;exact q v H (bF.refl _) (r _))
theorem aN{i:Int}:PE X (.Constant (.int i) j pos) (tI X.K B (eC (.int i))):=i_c bDg λ_=>bO.mpr rfl
theorem aAz{q:Bool}:PE X (.Constant (.bool q) j pos) (tI X.K B (eC (.bl q))):=i_c bGt λ_=>cV.mpr rfl
theorem aO2:PE X (.Constant .none j pos) (tI X.K B (eC .non)):=i_c bDh λ_=>rM.mpr rfl
theorem aBe(s:List Nat)(hx:x=⟨s.toArray⟩:=by first|rfl|decide|decide+kernel):PE X (.Constant (.str x) j pos) (tI X.K B (eC (.str s))):=i_c bDi λ_=>dH.mpr (by rw[hx])
theorem aLv{y:Str}{t:Tok}(s:List Nat)(hm:X.mg x=some (.str y t))(hg:Gl X x:=by rfl)(hy:y=⟨s.toArray⟩:=by first|rfl|decide|decide+kernel)(hd:(x==("__debug__":Str))=false:=by decide):PE X (.Name x pos) (tI X.K B (eC (.str s))):=
 i_c (aKp (v:=.str y) hg hm ⟨t,rfl⟩ hd) λ_=>dH.mpr (by rw[hy])
theorem aXq{i:Int}{t:Tok}(hm:X.mg x=some (.int i t))(hg:Gl X x:=by rfl)(hd:(x==("__debug__":Str))=false:=by decide):PE X (.Name x pos) (tI X.K B (eC (.int i))):=
 i_c (aKp (v:=.int i) hg hm ⟨t,rfl⟩ hd) λ_=>bO.mpr rfl
theorem toP(h:PE X e (tI X.K B f)):PE X e (tP X.K B f):=cN h (by
 rintro σ H Q ⟨A,st,d,rs,hd,q⟩;exact⟨A,st,d,rs,hd,λv H' s r=>q v H' s (.inl r)⟩)
theorem iQ(i:Nat) (hN:X.N[i]?=some x:=by rfl) (hv:Vis X.env.scope x:=by first|exact Or.inl rfl|exact Or.inr (Or.inl rfl)|exact Or.inr (Or.inr rfl)) (hd:(x==("__debug__":Str))=false:=by decide)
  (hcd:(x==("__classdict__":Str))=false:=by decide):PE X (.Name x pos) (tP X.K B (dZ i)):=by
 refine cN (yL hN hv hd hcd) ?_
 rintro σ H Q ⟨A,st,d,rs,hd,q⟩;unfold dZ at hd;split at hd
 .rename_i d' e;cases hd;obtain⟨v,e1,r⟩:=rs.val i _ e;exact⟨v,e1,q v H (bF.refl _) (.inl r)⟩
 .rename_i k xs e;cases hd;obtain⟨a,o,vs,e1,m,h,ko,r,_⟩:=rs.lst i _ _ e;exact⟨_,e1,q _ H (bF.refl _) (.inr ⟨a,_,o,xs,vs,rfl,rfl,h,ko,r⟩)⟩
 .cases hd
section
variable{K:Frag}
theorem lD.non(h:lD K A H .non v):v=V.non:=by
 rcases h with h|⟨_,k,_,_,_,e,_⟩
 .exact rM.mp h
 .cases k<;>cases e
theorem lD.bl{q:Bool}(h:lD K A H (.bl q) v):v=V.bl q:=by
 rcases h with h|⟨_,k,_,_,_,e,_⟩
 .exact cV.mp h
 .cases k<;>cases e
theorem lD.int{i:Int}(h:lD K A H (.int i) v):v=V.int i:=by
 rcases h with h|⟨_,k,_,_,_,e,_⟩
 .exact bO.mp h
 .cases k<;>cases e
theorem lD.str{s:List Nat}(h:lD K A H (.str s) v):v=V.str ⟨s.toArray⟩:=by
 rcases h with h|⟨_,k,_,_,_,e,_⟩
 .exact dH.mp h
 .cases k<;>cases e
theorem lD.tup{ds:List D}(h:lD K A H (.tup ds) v):∃a vs,v=V.ref a/\SqT K H a vs/\bH K (hide A H) ds vs:=by
 rcases h with h|⟨_,k,_,_,_,e,_⟩
 .obtain⟨a,vs,e,q,r⟩:=iM h;exact⟨a,vs,e,zP (bN _ _) q,r⟩
 .cases k<;>cases e
theorem lD.lst{ds:List D}(h:lD K A H (.lst ds) v):∃a vs,v=V.ref a/\SqL K H a vs/\bH K (hide A H) ds vs:=by
 rcases h with h|⟨a,k,o,ds',vs,e,e2,h,ko,r⟩
 .obtain⟨a,vs,e,q,r⟩:=iG.mp h;exact⟨a,vs,e,(bN _ _).seq q,r⟩
 .cases k<;>cases e;have e3:o=.lst vs:=ko;subst e3;exact⟨a,vs,e2,SqL.of h,r⟩
end
def vN(K:Frag)(r:R2)(o:Op2):Prop:=∀(A:List Addr)(H:Hp)(x y d:D)(v u:V)(Q:VK),Own A H->lD K A H x v->lD K A H y u->o x y=.ok d->
 (∀w H',bF H H'->Rep K (hide A H') d w->Q w H')->r v u H Q
theorem aLw{r:R2}{o:Op2}(sem:vN X.K r o) {Q:VK} (h:tI X.K B (e2 o f g) σ H Q):tOp r (tP X.K B f) (tP X.K B g) σ H Q:=by
 obtain⟨A,st,d,rs,hd,q⟩:=h;obtain⟨x,hx,h2⟩:=R.ok_of hd;obtain⟨y,hy,h3⟩:=R.ok_of h2;refine⟨A,st,x,rs,hx,λv H1 s1 r1=>⟨A,st,y,rs.mono s1,hy,λu H2 s2 r2=>?_⟩⟩
 exact sem (A++B) H2 x y d v u Q (rs.own.mono (s1.trans s2)) (r1.mono s2) r2 h3 λw H' s' r'=>q w H' (s1.trans (s2.trans s')) r'
theorem aFv{op:Operator}{r:R2}{o:Op2}(ho:OpR X (binaryOp op) r)(sem:vN X.K r o)(ha:PE X a (tP X.K B f))(hb:PE X b (tP X.K B g)):PE X (.BinOp a op b pos) (tI X.K B (e2 o f g)):=
 cN (bCo ho ha hb) λ_ _ _ h=>aLw sem h
theorem iR{r:R2}{o:Op2}(ho:OpR X (compareOp op) r)(sem:vN X.K r o)(ha:PE X a (tP X.K B f))(hb:PE X b (tP X.K B g))(hm:behindInMarks op b=false):PE X (.Compare a [op] [b] pos) (tI X.K B (e2 o f g)):=
 cN (aZk ho ha hb hm) λ_ _ _ h=>aLw sem h
theorem bFm{f:Ex} {Q:Bool->Hp->Prop} (h:tT X.K B f σ H Q):tI X.K B f σ H λx H'=>∃k,x=.bl k/\Q k H':=by
 obtain⟨A,st,k,rs,hk,q⟩:=h;exact⟨A,st,.bl k,rs,hk,λv H' s r=>⟨k,cV.mp r,q H' s⟩⟩
theorem eN{r:R2}{o:Op2}(ho:OpR X (compareOp op) r)(sem:vN X.K r o)(ha:PE X a (tP X.K B f))(hb:PE X b (tP X.K B g))(hm:behindInMarks op b=false):PT X (.Compare a [op] [b] pos) (tT X.K B (e2 o f g)):=
 aLu (aZl ho ha hb hm) λ_ _ _ h=>aLw sem (bFm h)
theorem iY{f:Ex}(h:PE X e (tI X.K B f))(he:∀whole,isTrue e X.env whole=(do let v <- whole;standAt e.pos;holding [v] (truthy v)):=by intro _;rfl):PT X e (tT X.K B f):=
 aLu (bDj h he) λ_ _ _ q=>bFm q
theorem uB{K:Frag}{g:Int->Int->D} {o:Op2} (hr:∀H i j,Rep K H (g i j) (gv i j)) (ho:∀x y d,o x y=.ok d->∃i j,x=.int i/\y=.int j/\d=g i j):vN K (rI0 gv) o:=by
 intro A H x y d v u Q w rx ry e q;obtain⟨i,j,rfl,rfl,rfl⟩:=ho x y d e;exact⟨i,j,rx.int,ry.int,q _ H (bF.refl _) (hr _ _ _)⟩
theorem aHx{K:Frag}{C:Int->Int->Prop}{g:Int->Int->D} {o:Op2} (hr:∀H i j,Rep K H (g i j) (gv i j)) (ho:∀x y d,o x y=.ok d->∃i j,x=.int i/\y=.int j/\C i j/\d=g i j):vN K (rI C gv) o:=by
 intro A H x y d v u Q w rx ry e q;obtain⟨i,j,rfl,rfl,c,rfl⟩:=ho x y d e;exact⟨i,j,rx.int,ry.int,c,q _ H (bF.refl _) (hr _ _ _)⟩
theorem bIg(ha:PE X a (tP X.K B f))(hb:PE X b (tP X.K B g)):PE X (.BinOp a .Sub b pos) (tI X.K B (e2 bA0 f g)):=
 aFv bDw (uB (g:=λi j=>.int (i-j)) (λ_ _ _=>bO.mpr rfl) λx y d e=>by
  unfold bA0 at e;split at e
  .cases e;exact⟨_,_,rfl,rfl,rfl⟩
  .cases e) ha hb
theorem aQ7(ha:PE X a (tP X.K B f))(hb:PE X b (tP X.K B g)):PE X (.BinOp a .FloorDiv b pos) (tI X.K B (e2 aGr f g)):=
 aFv aZi (aHx (g:=λi j=>.int (i/j)) (λ_ _ _=>bO.mpr rfl) λx y d e=>by
  unfold aGr at e;split at e
  .obtain⟨c,e⟩:=aJ e;cases e;exact⟨_,_,rfl,rfl,c,rfl⟩
  .cases e) ha hb
theorem oY(ha:PE X a (tP X.K B f))(hb:PE X b (tP X.K B g)):PE X (.BinOp a .Mod b pos) (tI X.K B (e2 pD f g)):=
 aFv bDx (aHx (g:=λi j=>.int (i%j)) (λ_ _ _=>bO.mpr rfl) λx y d e=>by
  unfold pD at e;split at e
  .obtain⟨c,e⟩:=aJ e;cases e;exact⟨_,_,rfl,rfl,c,rfl⟩
  .cases e) ha hb
theorem bD6(ha:PE X a (tP X.K B f))(hb:PE X b (tP X.K B g)):PE X (.BinOp a .Pow b pos) (tI X.K B (e2 bA1 f g)):=
 aFv bDy (aHx (g:=λi j=>.int (i^j.toNat)) (λ_ _ _=>bO.mpr rfl) λx y d e=>by
  unfold bA1 at e;split at e
  .obtain⟨c,e⟩:=aJ e;cases e;exact⟨_,_,rfl,rfl,c,rfl⟩
  .cases e) ha hb
def bIh(K:Frag):R2:=λx y H Q=>∃l b xs zs,x=.ref l/\y=.ref b/\SqL K H l xs/\SqL K H b zs/\xs.length+zs.length<=sizeLine/\∀p,H p=none->Q (.ref p) (upd H p (.lst (xs++zs)))
theorem bBa:OpR X (binaryOp .Add) (bIh X.K):=by
 intro pins s σ H x y v u Q I rx ry h;obtain⟨l,b,xs,zs,rfl,rfl,hH,hB,hz,q⟩:=h;cases rx;cases ry;obtain⟨its,r,⟨⟨cls,dd,data,sl⟩,n,ho,hc,_,hd⟩,z⟩:=I.list hH;obtain⟨its2,r2,⟨⟨cls2,dd2,data2,sl2⟩,n2,ho2,hc2,_,hd2⟩,z2⟩:=I.list hB;simp only at hc hd hc2 hd2;subst hc hd hc2 hd2;have l1:=r.length;have l2:=r2.length;refine concat_meets ⟨_,ho,rfl⟩ ⟨_,ho2,rfl⟩ noFill_list_add seq_list_add PySem.F.slot_list_add PySem.F.entry_list_add (PySem.F.args_list_add_2 _ _) (list_addW l b its.toArray its2.toArray n n2 dd dd2 sl sl2 (by simp only[List.size_toArray];omega)) ⟨ho,ho2,?_⟩
 have ea:its.toArray++its2.toArray=(its++its2).toArray:=by simp
 rw[ea];exact⟨.ref _,_,I.lnew (t':=s.toks) (r.append r2) (by rw[length_append];omega),rfl,q _ I.fresh⟩
theorem bBb(x y:List Nat):(⟨x.toArray⟩:Str)++(⟨y.toArray⟩:Str)=⟨(x++y).toArray⟩:=by
 show Str.append _ _=_;unfold Str.append;simp
theorem str_len(x:List Nat):(⟨x.toArray⟩:Str).length=x.length:=by simp[Str.length]
theorem lim(h:n<=big):n<=sizeLine:=Nat.le_trans (by rw[pC]at h;exact h:n<=10000000) (by decide)
theorem gP(ha:PE X a (tP X.K B f))(hb:PE X b (tP X.K B g)):PE X (.BinOp a .Add b pos) (tI X.K B (e2 gD f g)):=by
 refine aFv (bDv.or (aPf.or bBa)) ?_ ha hb;intro A H x y d v u Q w rx ry e q;cases x<;>cases y<;>first|(cases e;done)|skip
 .cases e;exact .inl ⟨_,_,rx.int,ry.int,q _ H (bF.refl _) (bO.mpr rfl)⟩
 .obtain⟨c,e⟩:=aJ e;cases e;exact .inr (.inl ⟨_,_,rx.str,ry.str,by rw[str_len,str_len];exact lim c,q _ H (bF.refl _) (dH.mpr (by rw[bBb]))⟩)
 .obtain⟨c,e⟩:=aJ e;cases e;obtain⟨l,xs,e1,h1,r1⟩:=rx.lst;obtain⟨m,ys,e2,h2,r2⟩:=ry.lst;have l1:=r1.length;have l2:=r2.length;refine .inr (.inr ⟨l,m,xs,ys,e1,e2,h1,h2,by rw[l1,l2];exact lim c,λp hp=>q _ _ (cH hp) ?_⟩)
  exact iI w hp (r1.append r2)
theorem aLx{K:Frag}:vN K (rI0 λi j=>.bl (decide (i<=j))) dLe:=uB (g:=λi j=>.bl (decide (i<=j))) (λ_ _ _=>cV.mpr rfl) λx y d e=>by
 unfold dLe at e;split at e
 .cases e;exact⟨_,_,rfl,rfl,rfl⟩
 .cases e
theorem aQ8{K:Frag}:vN K (rI0 λi j=>.bl (decide (j<i))) dGt:=uB (g:=λi j=>.bl (decide (j<i))) (λ_ _ _=>cV.mpr rfl) λx y d e=>by
 unfold dGt at e;split at e
 .cases e;exact⟨_,_,rfl,rfl,rfl⟩
 .cases e
theorem aHy{K:Frag}:vN K (rI0 λi j=>.bl (decide (j<=i))) dGe:=uB (g:=λi j=>.bl (decide (j<=i))) (λ_ _ _=>cV.mpr rfl) λx y d e=>by
 unfold dGe at e;split at e
 .cases e;exact⟨_,_,rfl,rfl,rfl⟩
 .cases e
theorem lD.ref{K:Frag}{A:List Addr}{H:Hp}{d:D}{v:V}(h:lD K A H d v)(h1:d≠.non)(h2:∀b,d≠.bl b)(h3:∀i,d≠.int i)(h4:∀s,d≠.str s):∃a,v=V.ref a:=by
 rcases h with h|⟨a,_,_,_,_,_,e,_⟩
 .cases d with
  |non=>exact(h1 rfl).elim
  |bl b=>exact(h2 b rfl).elim
  |int i=>exact(h3 i rfl).elim
  |str s=>exact(h4 s rfl).elim
  |tup _=>obtain⟨a,_,e,_⟩:=iM h;exact⟨a,e⟩
  |lst _=>obtain⟨a,_,e,_⟩:=iG.mp h;exact⟨a,e⟩
  |dct _ _ _=>obtain⟨a,_,e,_⟩:=wL.mp h;exact⟨a,e⟩
  |ins _ _ _=>obtain⟨a,_,_,_,_,e,_⟩:=aGd.mp h;exact⟨a,e⟩
  |exn _ _ _=>obtain⟨a,_,_,e,_⟩:=bB8.mp h;exact⟨a,e⟩
  |fn _=>obtain⟨a,e,_⟩:=bFl.mp h;exact⟨a,e⟩
 .exact⟨a,e⟩
theorem bBc{K:Frag} (h:lD K A H d v):decide (v=V.non)=isN d:=by
 cases d with
 |non=>rw[h.non];rfl
 |bl _=>rw[h.bl];rfl
 |int _=>rw[h.int];rfl
 |str _=>rw[h.str];rfl
 |tup _=>obtain⟨a,vs,e,_⟩:=h.tup;rw[e];rfl
 |lst _=>obtain⟨a,vs,e,_⟩:=h.lst;rw[e];rfl
 |dct _ _ _=>obtain⟨a,e⟩:=h.ref (by intro z;cases z) (by intro _ z;cases z) (by intro _ z;cases z) (by intro _ z;cases z);rw[e];rfl
 |ins _ _ _=>obtain⟨a,e⟩:=h.ref (by intro z;cases z) (by intro _ z;cases z) (by intro _ z;cases z) (by intro _ z;cases z);rw[e];rfl
 |exn _ _ _=>obtain⟨a,e⟩:=h.ref (by intro z;cases z) (by intro _ z;cases z) (by intro _ z;cases z) (by intro _ z;cases z);rw[e];rfl
 |fn _=>obtain⟨a,e⟩:=h.ref (by intro z;cases z) (by intro _ z;cases z) (by intro _ z;cases z) (by intro _ z;cases z);rw[e];rfl
theorem aXr(n:Nat)(i:Int):L2.ixN n i=Pu.ixN n i:=rfl
theorem bH.atI{K:Frag}{H:Hp}{ds:List D}{vs:List V}{i:Int}{d:D}(r:bH K H ds vs)(e:Pu.atI ds i=some d):∃v,L2.atI vs i=some v/\Rep K H d v:=by
 unfold Pu.atI at e;unfold L2.atI;rw[r.length,aXr];cases h:Pu.ixN ds.length i with
 |none=>rw[h]at e;cases e
 |some j=>
  rw[h]at e;exact r.get e
theorem zR{o:Option α}{a:α}(h:ofO o=.ok a):o=some a:=by
 cases o with
 |none=>cases h
 |some b=>cases h;rfl
theorem bFn{K:Frag}{x:D}(hd:bHk x=false)(A:List Addr)(H:Hp)(x' y d:D)(v u:V)(Q:VK)(w:Own A H)(rx:lD K A H x v)(ry:lD K A H y u)(e:dIx x y=.ok d)(q:∀w H',bF H H'->Rep K (hide A H') d w->Q w H'):rIx K v u H Q:=by
 cases x<;>first|(cases hd;done)|skip
 all_goals cases y
 all_goals first|(cases e;done)|skip
 .rename_i s i;obtain⟨hz,e⟩:=aJ e;have e:=zR e;cases h:Pu.atI s i with
  |none=>rw[h]at e;cases e
  |some c=>
   rw[h]at e;cases e;refine .inr (.inr ⟨_,i,c,rx.str,ry.int,by rw[str_len];exact lim hz,?_,q _ H (bF.refl _) (dH.mpr rfl)⟩)
   show L2.atI s.toArray.toList i=some c;rw[List.toList_toArray];exact h
 .rename_i ds i;have h:=zR (show ofO (Pu.atI ds i)=.ok d from e)
  obtain⟨l,xs,e1,h1,r1⟩:=rx.tup;obtain⟨z,h2,r2⟩:=r1.atI h;exact .inr (.inl ⟨l,xs,i,z,e1,ry.int,h1,h2,q _ H (bF.refl _) r2⟩)
 .rename_i ds i;have h:=zR (show ofO (Pu.atI ds i)=.ok d from e)
  obtain⟨l,xs,e1,h1,r1⟩:=rx.lst;obtain⟨z,h2,r2⟩:=r1.atI h;exact .inl ⟨l,xs,i,z,e1,ry.int,h1,h2,q _ H (bF.refl _) r2⟩
theorem aC4(h:PE X a (tI X.K B f)):PE X (.BoolOp .And [a] pos) (tI X.K B f):=aVc h
theorem bD7(h:PE X a (tI X.K B f)):PE X (.BoolOp .Or [a] pos) (tI X.K B f):=aVc h
theorem aBf{rest:List Expr}(ha:PE X a (tI X.K B f))(hb:PE X (.BoolOp .And (b::rest) pos) (tI X.K B g)):PE X (.BoolOp .And (a::b::rest) pos) (tI X.K B (aAx f g)):=by
 refine cN (bDn ha hb) ?_
 rintro σ H Q ⟨A,st,d,rs,hd,q⟩;obtain⟨x,hx,h2⟩:=R.ok_of hd;obtain⟨k,rfl,h3⟩:=rW h2;refine⟨A,st,_,rs,hx,λv H1 s1 r1=>⟨k,cV.mp r1,?_⟩⟩
 cases k with
 |true=>exact⟨A,st,d,rs.mono s1,h3,λw H' s' r'=>q w H' (s1.trans s') r'⟩
 |false=>cases h3;exact q _ H1 s1 (cV.mpr rfl)
theorem bIi{rest:List Expr}(ha:PE X a (tI X.K B f))(hb:PE X (.BoolOp .Or (b::rest) pos) (tI X.K B g)):PE X (.BoolOp .Or (a::b::rest) pos) (tI X.K B (eOr f g)):=by
 refine cN (bGx ha hb) ?_
 rintro σ H Q ⟨A,st,d,rs,hd,q⟩;obtain⟨x,hx,h2⟩:=R.ok_of hd;obtain⟨k,rfl,h3⟩:=rW h2;refine⟨A,st,_,rs,hx,λv H1 s1 r1=>⟨k,cV.mp r1,?_⟩⟩
 cases k with
 |true=>cases h3;exact q _ H1 s1 (cV.mpr rfl)
 |false=>exact⟨A,st,d,rs.mono s1,h3,λw H' s' r'=>q w H' (s1.trans s') r'⟩
theorem bD8(ha:PE X a (tI X.K B f)):PE X (.UnaryOp .Not a pos) (tI X.K B (rF f)):=by
 refine cN (bDo ha) ?_
 rintro σ H Q ⟨A,st,d,rs,hd,q⟩;obtain⟨x,hx,h2⟩:=R.ok_of hd;obtain⟨k,rfl,h3⟩:=rW h2;cases h3;exact⟨A,st,_,rs,hx,λv H1 s1 r1=>⟨k,cV.mp r1,q _ H1 s1 (cV.mpr rfl)⟩⟩
theorem aXs(h:PT X a (tT X.K B f)):PW X (.BoolOp .And [a] pos) (tT X.K B f):=aZd h
theorem aKb(h:PT X a (tT X.K B f)):PW X (.BoolOp .Or [a] pos) (tT X.K B f):=bDk h
theorem bD9{rest:List Expr}(ha:PT X a (tT X.K B f))(hb:PW X (.BoolOp .And (b::rest) pos) (tT X.K B g)):PW X (.BoolOp .And (a::b::rest) pos) (tT X.K B (aAx f g)):=by
 refine aXl (bDl ha hb) ?_
 rintro σ H Q ⟨A,st,d,rs,hd,q⟩;obtain⟨x,hx,h2⟩:=R.ok_of hd;obtain⟨k,rfl,h3⟩:=rW h2;refine⟨A,st,k,rs,hx,λH1 s1=>?_⟩
 cases k with
 |true=>exact⟨A,st,d,rs.mono s1,h3,λH' s'=>q H' (s1.trans s')⟩
 |false=>cases h3;exact q H1 s1
theorem aUe{rest:List Expr}(ha:PT X a (tT X.K B f))(hb:PW X (.BoolOp .Or (b::rest) pos) (tT X.K B g)):PW X (.BoolOp .Or (a::b::rest) pos) (tT X.K B (eOr f g)):=by
 refine aXl (bGu ha hb) ?_
 rintro σ H Q ⟨A,st,d,rs,hd,q⟩;obtain⟨x,hx,h2⟩:=R.ok_of hd;obtain⟨k,rfl,h3⟩:=rW h2;refine⟨A,st,k,rs,hx,λH1 s1=>?_⟩
 cases k with
 |true=>cases h3;exact q H1 s1
 |false=>exact⟨A,st,d,rs.mono s1,h3,λH' s'=>q H' (s1.trans s')⟩
theorem sU(ha:PT X a (tT X.K B f)):PT X (.UnaryOp .Not a pos) (tT X.K B (rF f)):=by
 refine aLu (bDm ha) ?_
 rintro σ H Q ⟨A,st,d,rs,hd,q⟩;obtain⟨x,hx,h2⟩:=R.ok_of hd;obtain⟨k,rfl,h3⟩:=rW h2;cases h3;exact⟨A,st,k,rs,hx,λH1 s1=>q H1 s1⟩
theorem bIj{c:Expr}{t:Ex}(hc:PT X c (tT X.K B t))(ha:PE X a (tI X.K B f))(hb:PE X b (tI X.K B g)):PE X (.IfExp c a b pos) (tI X.K B (eIf t f g)):=by
 refine cN (aVd hc ha hb) ?_
 rintro σ H Q ⟨A,st,d,rs,hd,q⟩;obtain⟨x,hx,h2⟩:=R.ok_of hd;obtain⟨k,rfl,h3⟩:=rW h2;refine⟨A,st,k,rs,hx,λH1 s1=>?_⟩
 cases k with
 |true=>exact⟨A,st,d,rs.mono s1,h3,λw H' s' r'=>q w H' (s1.trans s') r'⟩
 |false=>exact⟨A,st,d,rs.mono s1,h3,λw H' s' r'=>q w H' (s1.trans s') r'⟩
theorem aO:PA X [] (tA X.K B aU):=aXm jG (by
 rintro σ H Q ⟨A,st,d,rs,hd,q⟩;cases hd;exact q [] H (bF.refl _) .nil)
theorem aD{r:Exs}(ha:PE X e (tI X.K B f))(hr:PA X es (tA X.K B r))(hs:starEach (e::es) X.env=(false,eval e X.env)::starEach es X.env:=by rfl):PA X (e::es) (tA X.K B (aC f r)):=by
 refine aXm (eE ha hr hs) ?_
 rintro σ H Q ⟨A,st,ds,rs,hd,q⟩;obtain⟨x,hx,h2⟩:=R.ok_of hd;obtain⟨xs,hxs,h3⟩:=R.ok_of h2;cases h3;refine⟨A,st,x,rs,hx,λv H1 s1 r1=>⟨A,st,xs,rs.mono s1,hxs,λvs H2 s2 r2=>?_⟩⟩
 exact q _ H2 (s1.trans s2) (.cons (r1.mono (bF.hide s2)) r2)
theorem aKc{r:Exs} (h:PA X es (tA X.K B r)):PE X (.Tuple es x1 pos) (tI X.K B (aN3 r)):=by
 refine cN (bE6 h) ?_
 rintro σ H Q ⟨A,st,d,rs,hd,q⟩;obtain⟨xs,hx,h2⟩:=R.ok_of hd;obtain⟨c,h3⟩:=aJ h2;cases h3;refine⟨A,st,xs,rs,hx,λvs H1 s1 r1=>⟨by rw[r1.length];exact lim c,λp hp=>q _ _ (s1.trans (cH hp)) ?_⟩⟩
 exact aFf (rs.own.mono s1) hp r1
theorem aBg{r:Exs}(h:PA X es (tA X.K B r)):PE X (.List es pos) (tI X.K B (nZ r)):=by
 refine cN (aPl h) ?_
 rintro σ H Q ⟨A,st,d,rs,hd,q⟩;obtain⟨xs,hx,h2⟩:=R.ok_of hd;obtain⟨c,h3⟩:=aJ h2;cases h3;refine⟨A,st,xs,rs,hx,λvs H1 s1 r1=>⟨by rw[r1.length];exact lim c,λp hp=>q _ _ (s1.trans (cH hp)) ?_⟩⟩
 exact iI (rs.own.mono s1) hp r1
def spI(K:Frag)(np:Nat)(p:List D->R D):Sp:=λvs H Q _=>∃A ds d,Own A H/\bH K (hide A H) ds vs/\ds.length=np/\p ds=.ok d/\∀v H',bF H H'->Rep K (hide A H') d v->Q v H'
theorem bFo{k:Nat} {r:Exs} (F:FnOk X.prog X.w X.K X.mg X.base CX0 k fa fd ps (spI X.K np p)) (hr:Room k X.A) (hm:X.mg x=some (.ref fa))
  (hk:keepIn X.K (.ref fa)=true) (hb:Binds X.K fd ps []) (hl:∀ds d,p ds=.ok d->ds.length=np) (ha:PA X (e::es) (tA X.K B r)) (hg:Gl X x:=by rfl) (hdb:(x==("__debug__":Str))=false:=by decide)
  (he:starEach (e::es) X.env=(false,eval e X.env)::starEach es X.env:=by rfl) (hpl:(backTo pos (starEach es X.env)).any (·.1)=false:=by rfl) :
  PE X (.Call (.Name x p0) (e::es) [] pos) (tI X.K B (aW p r)):=by
 refine cN (aQx F hr hg hm hk hb .nil aMx ha hdb he hpl) ?_
 rintro σ H Q ⟨A,st,d,rs,hd,q⟩;obtain⟨xs,hx,h2⟩:=R.ok_of hd;refine⟨A,st,xs,rs,hx,λvs H1 s1 r1=>?_⟩
 show spI X.K np p (vs++[]) H1 Q E0;rw[append_nil];exact⟨A++B,xs,d,rs.own.mono s1,r1,hl _ _ h2,h2,λw H' s' r'=>q w H' (s1.trans s') r'⟩
end
theorem aLy(a b:Key):eqK (oK a) (oK b)=decide (a=b):=by
 cases a with
 |inl i=>
  cases b with
  |inl j=>unfold oK eqK;rw[aV7]
  |inr y=>unfold oK eqK;rw[aV9]
 |inr x=>
  cases b with
  |inl j=>unfold oK eqK;rw[aVa]
  |inr y=>
   unfold oK eqK;rw[aV8,Bool.eq_iff_iff,beq_iff_eq,decide_eq_true_eq];constructor
   .intro h;cases x;cases y;congr 1;exact ext' h
   .rintro rfl;rfl
theorem aO3:∀(a b:List Key),aPo (a.map oK) (b.map oK)=decide (a=b)
 |[],[]=>by unfold aPo;simp
 |[],_::_=>by unfold aPo;simp
 |_::_,[]=>by unfold aPo;simp
 |x::a,y::b=>by
  have ih:=aO3 a b;rw[map_cons,map_cons];unfold aPo;rw[aLy,ih,Bool.eq_iff_iff,and_eq_true,decide_eq_true_eq,decide_eq_true_eq,decide_eq_true_eq,List.cons.injEq]
theorem aO4(a b:List Key):eqK (.tup (a.map oK)) (.tup (b.map oK))=decide (a=b):=by
 rw[<-aO3]
 conv=>lhs;unfold eqK
section
variable{κ:Type}[DecidableEq κ]{E:κ->D}(hE:∀a b,eqK (E a) (E b)=decide (a=b)){K:Frag}{H:Hp}
include hE
theorem aLz(k:κ):∀(kvs:List (κ×V)) (ds:List D),bH K H ds (kvs.map (·.2))->(∀d,uL (kvs.map λp=>E p.1) ds (E k)=some d->∃v,aCi kvs k=some v/\Rep K H d v)/\(aCi kvs k).isSome=qP (kvs.map λp=>E p.1) (E k)
 |[],ds,r=>⟨λd h=>by cases ds<;>simp[uL]at h,rfl⟩
 |(a,v)::kvs,ds,r=>by
  cases ds with
  |nil=>have:=dC.mp r;simp at this
  |cons d ds=>
   obtain⟨v',r',e,h1,h2⟩:=bU.mp r;rw[map_cons]at e;injection e with e1 e2
   subst e1 e2;obtain⟨i1,i2⟩:=aLz k kvs ds h2
   by_cases ha:a=k
   .have hk:eqK (E a) (E k)=true:=by rw[hE,decide_eq_true_eq];exact ha
    refine⟨λd' h=>?_,?_⟩
    .unfold uL at h;rw[map_cons,zip_cons_cons,List.find?_cons_of_pos (by simpa using hk)]at h
     cases h;exact⟨v,yM ha,h1⟩
    .rw[yM ha];unfold qP;rw[map_cons,any_cons,hk];rfl
   .have hk:eqK (E a) (E k)=false:=by rw[hE,decide_eq_false_iff_not];exact ha
    refine⟨λd' h=>?_,?_⟩
    .rw[yN ha];refine i1 d' ?_
     unfold uL at h ⊢;rw[map_cons,zip_cons_cons,List.find?_cons_of_neg (by simpa using hk)]at h
     exact h
    .rw[yN ha,i2];unfold qP;rw[map_cons,any_cons,hk];rfl
theorem aXt(k:κ)(kvs:List (κ×V)):(kvs.any λkv=>decide (kv.1=k))=qP (kvs.map λp=>E p.1) (E k):=by
 unfold qP;rw[List.any_map];congr 1;funext p;simp[hE]
theorem aSf(k:κ)(v:V)(d:D)(hd:Rep K H d v)(kvs:List (κ×V))(ds:List D)(r:bH K H ds (kvs.map (·.2))) :
  (putK kvs k v).map (λp=>E p.1)=tL (kvs.map λp=>E p.1) (E k)/\bH K H (xN (kvs.map λp=>E p.1) ds (E k) d) ((putK kvs k v).map (·.2)):=by
 unfold putK tL xN;rw[aXt hE]
 by_cases hh:qP (kvs.map λp=>E p.1) (E k)=true
 .rw[if_pos hh,if_pos hh,if_pos hh];constructor
  .rw[List.map_map];refine List.map_congr_left λp _=>?_
   simp only[Function.comp_apply];split<;>rfl
  .clear hh
   induction kvs generalizing ds with
   |nil=>have:=r.length;cases ds with|nil=>exact .nil|cons _ _=>simp at this
   |cons p kvs ih=>
    obtain⟨a,w⟩:=p;cases ds with
    |nil=>have:=dC.mp r;simp at this
    |cons d0 ds=>
     obtain⟨v',r',e,h1,h2⟩:=bU.mp r;rw[map_cons]at e;injection e with e1 e2
     subst e1 e2;rw[map_cons,map_cons,map_cons,zip_cons_cons,map_cons];refine .cons ?_ (ih ds h2)
     by_cases ha:a=k
     .have hk:eqK (E a) (E k)=true:=by rw[hE,decide_eq_true_eq];exact ha
      rw[if_pos hk,if_pos ha];exact hd
     .have hk:eqK (E a) (E k)=false:=by rw[hE,decide_eq_false_iff_not];exact ha
      rw[if_neg (by rw[hk];exact Bool.false_ne_true),if_neg ha]
      exact h1
 .rw[if_neg hh,if_neg hh,if_neg hh];refine⟨by rw[List.map_append];rfl,?_⟩
  rw[List.map_append];exact r.append (.cons hd .nil)
end
theorem aC5{K:Frag} (r:Rep K H d v) (h:keyOk false d=true):∃k:Key,d=oK k/\v=kV k:=by
 cases d<;>first|(cases h;done)|skip
 .exact⟨.inl _,rfl,bO.mp r⟩
 .exact⟨.inr _,rfl,dH.mp r⟩
theorem aDi{K:Frag}{H:Hp}:∀{ds:List D}{vs:List V},bH K H ds vs->ds.all aVz=true->∃ks:List Key,ds=ks.map oK/\vs=ks.map kV
 |[],vs,r,_=>⟨[],rfl,dC.mp r⟩
 |d::ds,vs,r,h=>by
  obtain⟨v,r',rfl,h1,h2⟩:=bU.mp r;rw[List.all_cons,and_eq_true]at h;obtain⟨ks,e1,e2⟩:=aDi h2 h.2;obtain⟨k,e3,e4⟩:=aC5 h1 (by cases d<;>first|(cases h.1;done)|rfl)
  exact⟨k::ks,by rw[e1,e3];rfl,by rw[e2,e4];rfl⟩
theorem aFg{K:Frag} (r:Rep K H d v) (h:keyOk true d=true):∃(ks:List Key)(b:Addr),d=.tup (ks.map oK)/\v=.ref b/\H b=some (.tup (ks.map kV)):=by
 cases d<;>first|(cases h;done)|skip
 rename_i xs;obtain⟨b,vs,e,hb,rs⟩:=zQ.mp r;have h':xs.all aVz=true:=by
  unfold keyOk at h;simpa using h
 obtain⟨ks,e1,e2⟩:=aDi rs h';exact⟨ks,b,by rw[e1],e,by rw[<-e2];exact hb⟩
theorem aGe{K:Frag} {t:Bool} {ks:List D} {k:D} {u:V} (rx:lD K A H (.dct t ks ds) v) (ry:Rep K H k u) (hk:keyOk t k=true) :
  ∃a o,v=.ref a/\aAw H a u o/\o.isSome=qP ks k/\∀d,uL ks ds k=some d->∃w,o=some w/\Rep K (hide A H) d w:=by
 have key:∃a vs,v=V.ref a/\((t=false/\∃kvs:List (Key×V),H a=some (.dK kvs)/\kvs.map (λp=>oK p.1)=ks/\vs=kvs.map (·.2))\/(t=true/\∃kvs:List (List Key×V),H a=some (.dT kvs)/\kvs.map (λp=>D.tup (p.1.map oK))=ks/\vs=kvs.map (·.2)))/\bH K (hide A H) ds vs:=by
  rcases rx with h|⟨a,kk,o,ds',vs,e,e2,h,ko,r⟩
  .obtain⟨a,vs,e,q,r⟩:=wL.mp h;refine⟨a,vs,e,?_,r⟩;rcases q with ⟨q0,kvs,q1,q2⟩|⟨q0,kvs,q1,q2⟩
   .exact .inl ⟨q0,kvs,bN _ _ _ _ q1,q2⟩
   .exact .inr ⟨q0,kvs,bN _ _ _ _ q1,q2⟩
  .cases kk<;>cases e;refine⟨a,vs,e2,?_,r⟩;rcases ko with ⟨q0,kvs,q1,q2⟩|⟨q0,kvs,q1,q2⟩
   .subst q1;exact .inl ⟨q0,kvs,h,q2⟩
   .subst q1;exact .inr ⟨q0,kvs,h,q2⟩
 obtain⟨a,vs,e,q,r⟩:=key;rcases q with ⟨rfl,kvs,q1,rfl,rfl⟩|⟨rfl,kvs,q1,rfl,rfl⟩
 .obtain⟨k',e1,e2⟩:=aC5 ry hk;subst e1 e2;obtain⟨i1,i2⟩:=aLz aLy k' kvs ds r;exact⟨a,_,e,aAw.k q1,i2,λd hd=>let ⟨w,h1,h2⟩:=i1 d hd;⟨w,h1,h2⟩⟩
 .obtain⟨k',b,e1,e2,e3⟩:=aFg ry hk;subst e1 e2;obtain⟨i1,i2⟩:=aLz aO4 k' kvs ds r;exact⟨a,_,e,aAw.t q1 e3,i2,λd hd=>let ⟨w,h1,h2⟩:=i1 d hd;⟨w,h1,h2⟩⟩
section
variable{X:Cx}{B:List Addr}{a b e:Expr}{f g:Ex}{pos:Pos}
def bIk:R2:=λx y H Q=>∃p v,x=.ref p/\aAw H p y (some v)/\Q v H
theorem bBd(hu:X.A.units+64<cLine):IxR X bIk:=by
 intro value slice pins s σ H x y v u Q I rx ry h hs;obtain⟨p,z,rfl,g,q⟩:=h;cases rx;have hT:=aMz I g;unfold subscriptTail;refine wpAny_bind ?_
 rw[getitemInPython_of_ne hT.not_modules];refine wpAny_bind (wpAny_specialOf hT PySem.F.slot_dict_getitem.lookup ?_);have h2:wpAny (model X.prog X.w) X.A (getItem (.ref p) u) (EP X pins σ Q) X.xe s:=aTn (by omega) I g ry λw' s3 I3 rw'=>⟨z,H,I3,rw',q⟩
 have fin:wpAny (model X.prog X.w) X.A (subscripted slice false (.ref p) u) (λr s3=>wpAny (model X.prog X.w) X.A (letTemporaryGo value (.ref p) r >>= λ_=>pure r) (EP X pins σ Q) X.xe s3) X.xe s:=by
  rw[hs];exact wpAny_operating (wpAny_mono h2 (λr s3 h3=>wpAny_bind (wpAny_letTemporaryGo (wpAny_pure h3))) λ_ _ x=>x)
 first
  |exact wpAny_pure (wpAny_bind fin)
  |exact wpAny_bind (wpAny_pure (wpAny_bind fin))
  |exact wpAny_bind fin
theorem bBe{K:Frag}:vN K (λx y H Q=>rIx K x y H Q\/bIk x y H Q) dIx:=by
 intro A H x y d v u Q w rx ry e q
 by_cases hx:bHk x=true
 .cases x<;>first|(cases hx;done)|skip
  rename_i t ks vs;have e':aY (keyOk t y=true) (ofO (uL ks vs y))=.ok d:=by cases y<;>exact e
  obtain⟨hk,e2⟩:=aJ e';have ryr:Rep K H y u:=by
   rcases ry with h|⟨a,kk,o,ds,vs',e1,_⟩
   .exact h.mono (bN _ _)
   .subst e1;cases kk<;>cases t<;>cases hk
  obtain⟨a,o,e3,g,_,g2⟩:=aGe rx ryr hk;obtain⟨z,e4,rz⟩:=g2 d (zR e2);subst e4;exact .inr ⟨a,z,e3,g,q _ H (bF.refl _) rz⟩
 .exact .inl (bFn (by simpa using hx) A H x y d v u Q w rx ry e q)
theorem cM(hu:X.A.units+64<cLine)(ha:PE X a (tP X.K B f))(hb:PE X b (tP X.K B g))(hs:aQz b:=by intro _ _;rfl):PE X (.Subscript a b pos) (tI X.K B (e2 dIx f g)):=
 cN (bHd (bE9.or (bBd hu)) ha hb hs) λ_ _ _ h=>aLw bBe h
theorem aUf:mG X (.builtin "len") (λxs H Q=>∃a kvs,xs=[V.ref a]/\H a=some (.dK kvs)/\Q (.int kvs.length) H):=by
 intro pins s σ H xs us Q I r h;obtain⟨a,kvs,rfl,hk,q⟩:=h;obtain⟨u,rfl,ru⟩:=r.one;obtain rfl:u=Value.ref a:=ru;exact bHi I (.inl hk) λt s' I'=>⟨.int kvs.length,H,I',⟨t,rfl⟩,q⟩
theorem bBf{K:Frag} {ks:List D} (rx:lD K A H (.dct false ks ds) v):∃a kvs,v=.ref a/\H a=some (.dK kvs)/\kvs.length=ks.length:=by
 rcases rx with h|⟨a,kk,o,ds',vs,e,e2,h,ko,r⟩
 .obtain⟨a,vs,e,q,r⟩:=wL.mp h;rcases q with ⟨_,kvs,q1,rfl,_⟩|⟨q0,_⟩
  .exact⟨a,kvs,e,bN _ _ _ _ q1,by simp⟩
  .cases q0
 .cases kk<;>cases e;rcases ko with ⟨_,kvs,rfl,rfl,_⟩|⟨q0,_⟩
  .exact⟨a,kvs,e2,h,by simp⟩
  .cases q0
end
section
variable{K:Frag} {st:PSt}
theorem aAm{k:OK} (h:(st.set i (some (.v d)))[j]?=some (some (.o k xs))):j≠i/\st[j]?=some (some (.o k xs)):=by
 rw[List.getElem?_set]at h
 by_cases e:i=j
 .subst e;rw[if_pos rfl]at h;split at h<;>simp at h
 .rw[if_neg e]at h;exact⟨λz=>e z.symm,h⟩
theorem Le.app{A':List Addr} (l:Le A H A' H'):bF (hide (A++B) H) (hide (A'++B) H'):=λb u q=>by
 have q1:=bN _ _ _ _ q;have hb:b∉A++B:=λz=>by rw[iH z]at q;cases q
 have q2:hide A H b=some u:=by rw[cB λz=>hb (List.mem_append_left _ z)];exact q1
 have q3:=l b u q2;have hb':b∉A':=λz=>by rw[iH z]at q3;cases q3
 rw[cB λz=>(List.mem_append.mp z).elim hb' λz=>hb (List.mem_append_right _ z)]
 exact bN _ _ _ _ q3
theorem RS.set(r:RS K B A H st σ){d:D}{v:V}(i:Nat)(h:Rep K (hide (A++B) H) d v):RS K B A H (st.set i (some (.v d))) (σ.set i (some v)) where
 len:=by rw[length_set,length_set,r.len]
 own:=r.own
 dis:=r.dis
 val:=λj d' e=>by
  rw[List.getElem?_set]at e
  by_cases hij:i=j
  .subst hij;rw[if_pos rfl]at e;split at e
   .rename_i hl;simp at e;subst e;exact⟨v,by rw[List.getElem?_set,if_pos rfl,if_pos (by rw[<-r.len];exact hl)],h⟩
   .cases e
  .rw[if_neg hij]at e;obtain⟨u,e1,q⟩:=r.val j d' e;exact⟨u,by rw[List.getElem?_set,if_neg hij];exact e1,q⟩
 lst:=λj kk xs e=>by
  obtain⟨hj,e'⟩:=aAm e;obtain⟨a,o,vs,e1,m,h1,ko,q,u⟩:=r.lst j kk xs e';refine⟨a,o,vs,by rw[List.getElem?_set,if_neg λz=>hj z.symm];exact e1,m,h1,ko,q,λk k' ys ek ek2=>?_⟩
  obtain⟨hk,ek'⟩:=aAm ek;rw[List.getElem?_set,if_neg λz=>hk z.symm]at ek2
  exact u k k' ys ek' ek2
theorem bBg{p:Addr}{o:HO}(w:Own (A++B) H):Own ((p::A)++B) (upd H p o):=λa ha=>by
 by_cases e:a=p
 .subst e;rw[bZ];rfl
 .rw[bQ e];exact w a ((List.mem_cons.mp ha).resolve_left e)
theorem aDj{p:Addr}{o:HO}(hp:H p=none):bF (hide (A++B) H) (hide ((p::A)++B) (upd H p o)):=λb u q=>by
 have q1:=bN _ _ _ _ q;have hb:b∉A++B:=λz=>by rw[iH z]at q;cases q
 have ne:b≠p:=bC q1 hp;rw[cB (show b∉(p::A)++B from λz=>(List.mem_cons.mp z).elim ne hb),bQ ne]
 exact q1
theorem aM0{p:Addr}{o:HO}(hp:H p=none):Le A H (p::A) (upd H p o):=λb u q=>by
 have q1:=bN _ _ _ _ q;have hb:b∉A:=λz=>by rw[iH z]at q;cases q
 have ne:b≠p:=bC q1 hp;rw[cB λz=>(List.mem_cons.mp z).elim ne hb,bQ ne]
 exact q1
theorem RS.setO(r:RS K B A H st σ){p:Addr}{kk:OK}{o:HO} (i:Nat) (hp:H p=none) (ko:KOk K kk p o vs) (h:bH K (hide (A++B) H) ds vs) :
  RS K B (p::A) (upd H p o) (st.set i (some (.o kk ds))) (σ.set i (some (.ref p))) where
 len:=by rw[length_set,length_set,r.len]
 own:=bBg r.own
 dis:=λa ha hb=>by
  rcases List.mem_cons.mp ha with rfl|ha
  .exact r.own.free hp (List.mem_append_right _ hb)
  .exact r.dis a ha hb
 val:=λj d' e=>by
  rw[List.getElem?_set]at e
  by_cases hij:i=j
  .subst hij;rw[if_pos rfl]at e;split at e<;>simp at e
  .rw[if_neg hij]at e;obtain⟨u,e1,q⟩:=r.val j d' e;exact⟨u,by rw[List.getElem?_set,if_neg hij];exact e1,q.mono (aDj hp)⟩
 lst:=λj k0 xs e=>by
  rw[List.getElem?_set]at e
  by_cases hij:i=j
  .subst hij;rw[if_pos rfl]at e;split at e
   .rename_i hl;simp at e;obtain⟨e0,e⟩:=e;subst e0 e;refine⟨p,o,vs,by rw[List.getElem?_set,if_pos rfl,if_pos (by rw[<-r.len];exact hl)],mem_cons_self,bZ,ko,h.mono (aDj hp),λk k' ys ek ek2=>?_⟩
    by_cases hk:i=k
    .exact hk.symm
    .rw[List.getElem?_set,if_neg hk]at ek ek2;obtain⟨a,o',vs',e1,m,h1,_⟩:=r.lst k k' ys ek;rw[e1]at ek2;cases ek2;rw[hp]at h1;cases h1
   .cases e
  .rw[if_neg hij]at e;obtain⟨a,o',vs',e1,m,h1,ko',q,u⟩:=r.lst j k0 xs e;have ne:a≠p:=bC h1 hp;refine⟨a,o',vs',by rw[List.getElem?_set,if_neg hij];exact e1,mem_cons_of_mem _ m,by rw[bQ ne];exact h1,ko',q.mono (aDj hp),λk k' ys ek ek2=>?_⟩
   by_cases hk:i=k
   .subst hk;rw[List.getElem?_set,if_pos rfl]at ek2;split at ek2
    .simp at ek2;exact absurd ek2.symm ne
    .cases ek2
   .rw[List.getElem?_set,if_neg hk]at ek ek2;exact u k k' ys ek ek2
theorem RS.write(r:RS K B A H st σ) {k0 k1:OK} {o':HO} {vs':List V} (hi:st[i]?=some (some (.o k0 xs))) (hs:σ[i]?=some (some (.ref a))) (ko:KOk K k1 a o' vs') (h:bH K (hide (A++B) H) ds vs') :
  RS K B A (upd H a o') (st.set i (some (.o k1 ds))) σ/\Le A H A (upd H a o'):=by
 obtain⟨a',o,vs,e1,m,h1,_,q,u⟩:=r.lst i k0 xs hi;rw[hs]at e1;cases e1;have hh:hide (A++B) (upd H a o')=hide (A++B) H:=aDh (List.mem_append_left _ m);refine⟨⟨by rw[length_set,r.len],λb hb=>?_,r.dis,λj d e=>?_,λj kj ys e=>?_⟩,?_⟩
 .by_cases e:b=a
  .subst e;rw[bZ];rfl
  .rw[bQ e];exact r.own b hb
 .rw[hh];rw[List.getElem?_set]at e
  by_cases hij:i=j
  .subst hij;rw[if_pos rfl]at e;split at e<;>simp at e
  .rw[if_neg hij]at e;exact r.val j d e
 .rw[hh];have ne:∀{k:Nat}{kz:OK}{zs:List D},(st.set i (some (.o k1 ds)))[k]?=some (some (.o kz zs))->∃kw ws,st[k]?=some (some (.o kw ws)):=λ{k kz zs} ek=>by
   rw[List.getElem?_set]at ek
   by_cases hk:i=k
   .subst hk;exact⟨_,_,hi⟩
   .rw[if_neg hk]at ek;exact⟨_,_,ek⟩
  rw[List.getElem?_set]at e
  by_cases hij:i=j
  .subst hij;rw[if_pos rfl]at e;split at e
   .simp at e;obtain⟨e0,e⟩:=e;subst e0 e;exact⟨a,o',vs',hs,m,bZ,ko,h,λk kz zs ek ek2=>let ⟨kw,ws,ew⟩:=ne ek;u k kw ws ew ek2⟩
   .cases e
  .rw[if_neg hij]at e;obtain⟨c,oc,ws,c1,cm,ch,kc,cq,cu⟩:=r.lst j kj ys e;have hca:c≠a:=λz=>by subst z;exact hij (u j kj ys e c1).symm
   exact⟨c,oc,ws,c1,cm,by rw[bQ hca];exact ch,kc,cq,λk kz zs ek ek2=>let ⟨kw,ws,ew⟩:=ne ek;cu k kw ws ew ek2⟩
 .unfold Le;rw[aDh m];exact bF.refl _
theorem RS.fz1(r:RS K B A H st σ)(i:Nat):∃A',RS K B A' H (Pu.fz1 st i) σ/\Le A H A' H:=by
 unfold Pu.fz1;split
 .rename_i kk xs e;obtain⟨a,o,vs,e1,m,h1,ko,q,u⟩:=r.lst i kk xs e;have hsub:∀b∈A.filter (λc=>decide (c≠a)),b∈A:=λb hb=>(List.mem_filter.mp hb).1
  have hsub2:∀b∈A.filter (λc=>decide (c≠a))++B,b∈A++B:=λb hb=>(List.mem_append.mp hb).elim (λz=>List.mem_append_left _ (hsub b z)) (List.mem_append_right _)
  have sm:bF (hide (A++B) H) (hide (A.filter (λc=>decide (c≠a))++B) H):=lO hsub2
  have hout:a∉A.filter (λc=>decide (c≠a))++B:=λz=>(List.mem_append.mp z).elim (λz=>of_decide_eq_true (List.mem_filter.mp z).2 rfl) (r.dis a m)
  refine⟨A.filter λc=>decide (c≠a),⟨by rw[length_set,r.len],λb hb=>r.own b (hsub2 b hb),λb hb=>r.dis b (hsub b hb),λj d ej=>?_,λj kj ys ej=>?_⟩,lO hsub⟩
  .rw[List.getElem?_set]at ej
   by_cases hij:i=j
   .subst hij;rw[if_pos rfl]at ej;split at ej
    .simp at ej;subst ej;exact⟨_,e1,ko.rep (by rw[cB hout];exact h1) (q.mono sm)⟩
    .cases ej
   .rw[if_neg hij]at ej;obtain⟨v,e2,q2⟩:=r.val j d ej;exact⟨v,e2,q2.mono sm⟩
  .obtain⟨hj,ej'⟩:=aAm ej;obtain⟨c,oc,ws,c1,cm,ch,kc,cq,cu⟩:=r.lst j kj ys ej';have hca:c≠a:=λz=>by subst z;exact hj (u j kj ys ej' c1)
   exact⟨c,oc,ws,c1,List.mem_filter.mpr ⟨cm,decide_eq_true hca⟩,ch,kc,cq.mono sm,λk kz zs ek ek2=>cu k kz zs (aAm ek).2 ek2⟩
 .exact⟨A,r,Le.refl⟩
theorem RS.fz(is:List Nat):∀{A:List Addr}{st:PSt},RS K B A H st σ->∃A',RS K B A' H (is.foldl Pu.fz1 st) σ/\Le A H A' H:=by
 induction is with
 |nil=>exact λr=>⟨_,r,Le.refl⟩
 |cons i is ih=>
  intro A st r;obtain⟨A1,r1,l1⟩:=r.fz1 i;obtain⟨A2,r2,l2⟩:=ih r1;exact⟨A2,r2,l1.trans l2⟩
end
section
variable{X:Cx}{B:List Addr}{a b e:Expr}{f g:Ex}{pos:Pos}{bd bd':Bd}{sm:Stmt}{rest:List Stmt}
theorem gO:PSs X [] (tS X.K B dM):=aAl aZe (by
 rintro Dn σ H ⟨A,st,r,rs,hr,p⟩;cases hr;exact p A σ H Le.refl rs)
theorem aL(h1:PS X sm (tS X.K B bd))(h2:PSs X rest (tS X.K B bd')):PSs X (sm::rest) (tS X.K B (bG bd bd')):=by
 refine aAl (aGk h1 h2) ?_
 rintro Dn σ H ⟨A,st,r,rs,hr,p⟩;obtain⟨x,hx,h3⟩:=R.ok_of hr;refine⟨A,st,x,rs,hx,?_⟩;cases x with
 |nx s1=>exact λA' σ' H' l rs'=>⟨A',s1,r,rs',h3,p.mono l⟩
 |rt d=>cases h3;exact p
 |bk s1=>cases h3;exact p
 |ct s1=>cases h3;exact p
theorem bB(h1:PS X sm (tS X.K B bd)):PSs X [sm] (tS X.K B bd):=aKq h1
theorem aQ9(is:List Nat)(h:PS X sm (tS X.K B bd)):PS X sm (tS X.K B (sFz is bd)):=nG h (by
 rintro Dn σ H ⟨A,st,r,rs,hr,p⟩;obtain⟨A',rs',l⟩:=RS.fz is rs;exact⟨A',_,r,rs',hr,p.mono l⟩)
theorem bY(h:PE X e (tI X.K B f)):PS X (.Return (some e) pos) (tS X.K B (cY f)):=nG (aP9 h) (by
 rintro Dn σ H ⟨A,st,r,rs,hr,p⟩;obtain⟨d,hd,h3⟩:=R.ok_of hr;cases h3;exact⟨A,st,d,rs,hd,λv H' s q=>p A v H' (Le.of s) q⟩)
theorem aXu(h:PE X e (tI X.K B f))(hs:swapsWith e none pos.line X.env=pure false:=by rfl):PS X (.Expr e pos) (tS X.K B (aTq f)):=nG (aKr h hs) (by
 rintro Dn σ H ⟨A,st,r,rs,hr,p⟩;obtain⟨d,hd,h3⟩:=R.ok_of hr;cases h3;exact⟨A,st,d,rs,hd,λv H' s q=>p A σ H' (Le.of s) (rs.mono s)⟩)
theorem cC(i:Nat) (he:PE X e (tI X.K B f)) (hN:X.N.Nodup) (hi:X.N[i]?=some x:=by rfl) (hx:Loc X.env.scope x:=by first|exact Or.inl rfl|exact Or.inr rfl) (hs:swapsWith e (some (.Name x pos')) pos.line X.env=pure false:=by rfl)
  (hf:X.fn x=true\/X.env.scope.names.lookup x=some .local:=by first|exact .inl rfl|exact .inr rfl|assumption):PS X (.Assign [.Name x pos'] e pos) (tS X.K B (cL i f)):=nG (aKs hN hi hx he hs hf) (by
 rintro Dn σ H ⟨A,st,r,rs,hr,p⟩;obtain⟨d,hd,h3⟩:=R.ok_of hr;cases h3;exact⟨A,st,d,rs,hd,λv H' s q=>p A _ H' (Le.of s) ((rs.mono s).set i q)⟩)
def tF(K:Frag)(B:List Addr)(f:Ex):TE:=λσ H Q=>∃A st ds,RS K B A H st σ/\f st=.ok (.lst ds)/\∀p vs H',bF H H'->H' p=none->bH K (hide (A++B) H') ds vs->Q (.ref p) (upd H' p (.lst vs))
theorem aFh{r:Exs}(h:PA X es (tA X.K B r)):PE X (.List es pos) (tF X.K B (nZ r)):=by
 refine cN (aPl h) ?_
 rintro σ H Q ⟨A,st,d,rs,hd,q⟩;obtain⟨xs,hx,h2⟩:=R.ok_of hd;obtain⟨c,h3⟩:=aJ h2;cases h3;exact⟨A,st,_,rs,hx,λvs H1 s1 r1=>⟨by rw[r1.length];exact lim c,λp hp=>q p vs H1 s1 hp r1⟩⟩
theorem wM(i:Nat) (he:PE X e (tF X.K B f)) (hN:X.N.Nodup) (hi:X.N[i]?=some x:=by rfl) (hx:Loc X.env.scope x:=by first|exact Or.inl rfl|exact Or.inr rfl) (hs:swapsWith e (some (.Name x pos')) pos.line X.env=pure false:=by rfl)
  (hf:X.fn x=true\/X.env.scope.names.lookup x=some .local:=by first|exact .inl rfl|exact .inr rfl|assumption):PS X (.Assign [.Name x pos'] e pos) (tS X.K B (xO i f)):=nG (aKs hN hi hx he hs hf) (by
 rintro Dn σ H ⟨A,st,r,rs,hr,p⟩;obtain⟨d,hd,h3⟩:=R.ok_of hr;cases d<;>first|(cases h3;done)|skip
 cases h3;exact⟨A,st,_,rs,hd,λa vs H' s hn q=>p (a::A) _ _ ((Le.of s).trans (aM0 hn)) ((rs.mono s).setO (kk:=.l) i hn rfl q)⟩)
theorem nH{c:Expr}{t:Ex}{x y:List Stmt}(hc:PT X c (tT X.K B t))(ha:PSs X x (tS X.K B bd))(hb:PSs X y (tS X.K B bd')):PS X (.If c x y pos) (tS X.K B (sIf t bd bd')):=nG (bH0 hc ha hb) (by
 rintro Dn σ H ⟨A,st,r,rs,hr,p⟩;obtain⟨d,hd,h3⟩:=R.ok_of hr;obtain⟨k,rfl,h4⟩:=rW h3;refine⟨A,st,k,rs,hd,λH1 s1=>?_⟩
 cases k with
 |true=>exact⟨A,st,r,rs.mono s1,h4,p.mono (Le.of s1)⟩
 |false=>exact⟨A,st,r,rs.mono s1,h4,p.mono (Le.of s1)⟩)
theorem cI(i:Nat) (hN:X.N.Nodup) (hi:X.N[i]?=some x:=by rfl) (hx:Loc X.env.scope x:=by first|exact Or.inl rfl|exact Or.inr rfl)
  (hf:X.fn x=true\/X.env.scope.names.lookup x=some .local:=by first|exact .inl rfl|exact .inr rfl|assumption):PG X (.Name x pos) (tG X.K B (tgN i)):=aXo (aZf hN hi hx hf) (by
 rintro v σ H Q ⟨A,st,d,s1,rs,hr,hg,q⟩;cases hg;exact q _ (rs.set i hr))
def tGs(K:Frag)(B:List Addr)(is:List Nat):TGs:=λvs σ H Q=>∃A st ds s1,RS K B A H st σ/\bH K (hide (A++B) H) ds vs/\aGu is ds st=.ok s1/\∀σ',RS K B A H s1 σ'->Q σ' H
theorem aSg{t t':TGs}(h:PGs X es t)(m:∀v σ H Q,t' v σ H Q->t v σ H Q):PGs X es t':=λpins s σ H v u Q I r q=>h pins s σ H v u Q I r (m v σ H Q q)
theorem aXv:PGs X [] (tGs X.K B []):=aSg aZg (by
 rintro v σ H Q ⟨A,st,ds,s1,rs,hr,hg,q⟩;cases ds with
 |nil=>cases hg;exact⟨dC.mp hr,q σ rs⟩
 |cons _ _=>exact nomatch hg)
theorem aDk(i:Nat){is:List Nat} (h2:PGs X es (tGs X.K B is)) (hN:X.N.Nodup) (hi:X.N[i]?=some x:=by rfl) (hx:Loc X.env.scope x:=by first|exact Or.inl rfl|exact Or.inr rfl)
  (hf:X.fn x=true\/X.env.scope.names.lookup x=some .local:=by first|exact .inl rfl|exact .inr rfl|assumption)
  (hs:(assignEach (.Name x pos::es) X.env).map (·.2)=assign (.Name x pos) X.env::(assignEach es X.env).map (·.2):=by rfl):PGs X (.Name x pos::es) (tGs X.K B (i::is)):=aSg (aVe (cI i (pos:=pos) hN hi hx hf) h2 hs) (by
 rintro v σ H Q ⟨A,st,ds,s1,rs,hr,hg,q⟩;cases ds with
 |nil=>exact nomatch hg
 |cons d ds=>
  obtain⟨u,r,e,r1,r2⟩:=bU.mp hr;exact⟨u,r,e,A,st,d,st.set i (some (.v d)),rs,r1,rfl,λσ' rs'=>⟨A,_,ds,s1,rs',r2,hg,q⟩⟩)
theorem aHz{l it:Addr} (hl:h.IsList l items) (s:Heap.SameBut it h h') (hne:l≠it):h'.IsList l items:=by
 obtain⟨o,e,r⟩:=hl;exact⟨o,(s.2 l hne).trans e,r⟩
theorem aKd{M:Program}{w:World}{A:Around}{E:Value->Shared->Prop}{it t:Addr}{items:Array Value}(hne:t≠it):∀(n i:Nat)(s:Shared)(Q:List Value->Shared->Prop),s.heap.IsListIter it t i->s.heap.IsList t items->i+n<=items.size->
  (∀h',h'.IsListIter it t (i+n)->Heap.SameBut it s.heap h'->Q ((items.toList.drop i).take n) {s with heap:=h'})->wpAny (model M w) A (draw (.ref it) n) Q E s
 |0,i,s,Q,hit,_,_,hQ=>by
  show wpAny _ _ (pure []) Q E s;exact wpAny_pure (by simpa using hQ s.heap hit (Heap.SameBut.refl ..))
 |n+1,i,s,Q,hit,ht,hle,hQ=>by
  have hlt:i<items.size:=by omega
  show wpAny _ _ (pyNext (.ref it) >>= _) Q E s;refine wpAny_bind (wpAny_pyNext_list_item hit ht (x:=items[i]) (by simp[hlt]) λh1 hit1 hs1=>?_)
  refine wpAny_bind (wpAny_holding (aKd hne n (i+1) _ _ hit1 (aHz ht hs1 hne) (by omega) λh2 hit2 hs2=>wpAny_pure ?_))
  have hd:items.toList.drop i=items[i] :: items.toList.drop (i+1):=by simp[List.drop_eq_getElem_cons,hlt]
  have:=hQ h2 (by rw[show i+(n+1)=i+1+n by omega];exact hit2) (hs1.trans hs2)
  rw[hd,List.take_succ_cons]at this;exact this
theorem aDl{M:Program} {A:Around} {s:Shared} {pos:Pos} {t:Addr} {Q:Unit->Shared->Prop} (hh:A.handled=none) (ht:s.heap.IsList t items)
  (hn:(assignEach elts env).length=items.size) (hstar:(assignEach elts env).findIdx? (·.1)=none)
  (h:∀h',Heap.ExtBut s.heap.objs.size s.heap h'->wpAny (model M w) A (assignInOrder ((assignEach elts env).map (·.2)) items.toList) Q E {s with heap:=h'}) :
  wpAny (model M w) A (assign (.Tuple elts x1 pos) env (.ref t)) Q E s:=by
 have hlt:t≠s.heap.objs.size:=by obtain⟨o,ho,_⟩:=ht;exact Nat.ne_of_lt (Heap.lt_size ho)
 rw[assign_Tuple];refine wpAny_bind (wpAny_standAt ?_);unfold unpack;rw[hn,hstar];refine wpAny_bind (wpAny_holding ?_);unfold unpackItems;refine wpAny_bind ?_
 unfold notIterableAtAll;refine wpAny_bind (wpAny_specialOf ht.typeIs PySem.F.slot_list_iter.lookup ?_);refine wpAny_pure ?_
 simp only[Bool.false_eq_true,if_false];refine wpAny_bind (wpAny_holding (wpAny_pyIter_list ht ?_));have ht0:(s.heap.push {cls:=.type "list_iterator",data:=.fields #[.ref t,rawInt 0]}).IsList t items:=by
  obtain⟨o,ho,r⟩:=ht;exact⟨o,Heap.get?_push_of_some _ ho,r⟩
 refine wpAny_bind (wpAny_holding (aKd hlt items.size 0 _ _ ⟨_,Heap.get?_push_size _ rfl,rfl,rfl⟩ ht0 (by omega) λh1 hit1 hs1=>?_))
 have hall:List.take items.size (List.drop 0 items.toList)=items.toList:=by
  rw[drop_zero];exact List.take_of_length_le (by simp)
 rw[hall];rw[if_neg (by simp)]
 refine wpAny_bind (wpAny_holding (wpAny_pyNext_list_end hh hit1 (aHz ht0 hs1 hlt) (by simp) λh2 he2=>?_))
 simp only[Option.isSome_none,Bool.false_eq_true,if_false];refine wpAny_pure (h h2 λb o hb e=>he2 b o hb (hs1.extBut b o hb (Heap.get?_push_of_some _ e)))
def bK5(K:Frag)(n:Nat)(t:TGs):TG:=λv σ H Q=>∃a xs,v=.ref a/\(SqT K H a xs\/SqL K H a xs)/\xs.length=n/\t xs σ H Q
theorem bFp{k:Nat}{t:TGs} (hc:X.calm=true) (h:PGs X es t)
  (hn:(assignEach es X.env).length=n:=by rfl) (hst:(assignEach es X.env).findIdx? (·.1)=none:=by rfl):PG X (.Tuple es k pos) (bK5 X.K n t):=by
 intro pins s σ H v u Q I r hw;obtain⟨a,xs,e1,hq,hl,hw⟩:=hw;rcases hq with hq|hq
 .exact bDq hc h hn hst pins s σ H v u Q I r ⟨a,xs,e1,hq,hl,hw⟩
 .subst e1;cases r;obtain⟨its,rv,ht,hz⟩:=I.list hq;refine aDl (I.ok.hd hc) ht.isList (by simp[hn,<-hl,rv.length]) hst λh' hx=>?_
  have I1:Inv X pins σ H {s with heap:=h'}:=I.kept (t':=s.toks) λb o e=>hx b o (Nat.ne_of_lt (Heap.lt_size e)) e
  exact h pins _ σ H xs _ Q I1 (by simpa using rv) hw
theorem aI2{s1:PSt}:∀(is:List Nat)(ds:List D)(st:PSt),aGu is ds st=.ok s1->ds.length=is.length:=by
 intro is
 induction is with
 |nil=>intro ds st h;cases ds with|nil=>rfl|cons _ _=>exact nomatch h
 |cons i is ih=>intro ds st h;cases ds with|nil=>exact nomatch h|cons _ ds=>exact congrArg (· + 1) (ih ds _ h)
theorem bDa{is:List Nat} {k:Nat} (hc:X.calm=true) (h:PGs X es (tGs X.K B is)) (hn:(assignEach es X.env).length=is.length:=by rfl) (hst:(assignEach es X.env).findIdx? (·.1)=none:=by rfl):PG X (.Tuple es k pos) (tG X.K B (tgT is)):=aXo (bFp hc h hn hst) (by
 rintro v σ H Q ⟨A,st,d,s1,rs,hr,hg,q⟩;cases d<;>first|(cases hg;done)|skip
 .rename_i ds;obtain⟨a,vs,e,h1,h2⟩:=iM hr;exact⟨a,vs,e,.inl (zP (bN _ _) h1),by rw[h2.length];exact aI2 is ds st hg,A,st,ds,s1,rs,h2,hg,q⟩
 .rename_i ds;obtain⟨a,vs,e,h1,h2⟩:=iG.mp hr;exact⟨a,vs,e,.inr ((bN _ _).seq h1),by rw[h2.length];exact aI2 is ds st hg,A,st,ds,s1,rs,h2,hg,q⟩)
theorem bIl{t:Tg}(he:PE X e (tI X.K B f))(hg:PG X tg (tG X.K B t))(hs:swapsWithSole [tg] e pos.line X.env=pure false:=by rfl)(hw:swappedStores [tg] e X.env=pure none:=by rfl)
  (h1:(assignEach [tg] X.env).map (·.2)=[assign tg X.env]:=by rfl):PS X (.Assign [tg] e pos) (tS X.K B (bHl t f)):=nG (aVf he hg hs hw h1) (by
 rintro Dn σ H ⟨A,st,r,rs,hr,p⟩;obtain⟨d,hd,h3⟩:=R.ok_of hr;obtain⟨s1,hs1,h4⟩:=R.ok_of h3;cases h4;exact⟨A,st,d,rs,hd,λv H' s q=>⟨A,st,d,s1,rs.mono s,q,hs1,λσ' rs'=>p A σ' H' (Le.of s) rs'⟩⟩)
theorem nW{iter:Expr} {t:Tg} (hi:L2.PI X tg iter (tIt X.K B it)) (hg:PG X tg (tG X.K B t)) (hb:PSs X body (tS X.K B bd)) (hp:PassesOwn (model X.prog X.w) X.A X.env X.xe) (hc:X.calm=true)
  (hs:∀x,foldedSetIterable iter X.env x=pure x:=by intro _;rfl):PS X (.For tg iter body [] pos) (tS X.K B (rY t it bd)):=nG (bDt hp hc hi hg hb hs) (by
 rintro Dn σ H ⟨A,st,r,rs,hr,p⟩;obtain⟨ds,hd,h3⟩:=R.ok_of hr;refine⟨A,st,ds,rs,hd,λJ H1 s1 ito=>?_⟩
 refine⟨λi m σ' H'=>∃A' st',m=ds.length-i/\i<=ds.length/\RS X.K B A' H' st' σ'/\forR t bd (ds.drop i) st'=.ok r/\Le A H1 A' H',⟨ds.length,A,st,by simp,zero_le _,rs.mono s1,by rw[drop_zero];exact h3,Le.refl⟩,?_⟩
 rintro i m σ' H' ⟨A',st',rfl,hle,rs',hf,l⟩;obtain⟨i1,i2⟩:=ito A' H' l rs'.own i
 by_cases hlt:i<ds.length
 .have hd':ds[i]?=some ds[i]:=List.getElem?_eq_getElem hlt;obtain⟨go,yl⟩:=i1 _ hd';rw[List.drop_eq_getElem_cons hlt]at hf;obtain⟨s2,hs2,h5⟩:=R.ok_of hf;obtain⟨fl,hfl,h6⟩:=R.ok_of h5;refine .inr ⟨go,λσ2 H2=>∃A2 st2,i+1<=ds.length/\RS X.K B A2 H2 st2 σ2/\forR t bd (ds.drop (i+1)) st2=.ok r/\Le A H1 A2 H2,?_,λx H2 y=>?_⟩
  .rintro σ2 H2 ⟨A2,st2,hle2,rs2,hf2,l2⟩;exact⟨ds.length-(i+1),by omega,A2,st2,rfl,hle2,rs2,hf2,l2⟩
  .obtain⟨sm,rx⟩:=yl x H2 y;have l5:Le A H1 A' H2:=l.trans (Le.of sm);refine⟨A',st',ds[i],s2,rs'.mono sm,rx,hs2,λσ3 rs3=>⟨A',s2,fl,rs3,hfl,?_⟩⟩
   cases fl with
   |nx s4=>exact λA4 σ4 H4 l4 rs4=>⟨A4,s4,hlt,rs4,h6,l5.trans l4⟩
   |ct s4=>exact λA4 σ4 H4 l4 rs4=>⟨A4,s4,hlt,rs4,h6,l5.trans l4⟩
   |bk s4=>cases h6;exact p.mono ((Le.of s1).trans l5)
   |rt d=>cases h6;exact p.mono ((Le.of s1).trans l5)
 .have e:i=ds.length:=by omega
  subst e;rw[List.drop_length]at hf;cases hf;exact .inl ⟨i2 (Nat.le_refl _),p A' σ' H' ((Le.of s1).trans l) rs'⟩)
theorem aSh(n:Nat){c:Expr}{t:Ex} (hc:PT X c (tT X.K B t)) (hb:PSs X body (tS X.K B bd)) (hp:PassesOwn (model X.prog X.w) X.A X.env X.xe):PS X (.While c body [] pos) (tS X.K B (aL2 n t bd)):=nG (aVg hp hc hb) (by
 rintro Dn σ H ⟨A,st,r,rs,hr,p⟩;refine⟨λm σ' H'=>∃A' st',RS X.K B A' H' st' σ'/\nA t bd m st'=.ok r/\Le A H A' H',⟨n,A,st,rs,hr,Le.refl⟩,?_⟩
 rintro m σ' H' ⟨A',st',rs',hw,l⟩;cases m with
 |zero=>exact nomatch hw
 |succ m=>
  obtain⟨d,hd,h3⟩:=R.ok_of hw;obtain⟨k,rfl,h4⟩:=rW h3;refine⟨A',st',k,rs',hd,λH1 s1=>?_⟩
  cases k with
  |false=>
   cases h4;exact p A' σ' H1 (l.trans (Le.of s1)) (rs'.mono s1)
  |true=>
   obtain⟨fl,hfl,h6⟩:=R.ok_of h4;refine⟨λσ2 H2=>∃A2 st2,RS X.K B A2 H2 st2 σ2/\nA t bd m st2=.ok r/\Le A H A2 H2,?_,A',st',fl,rs'.mono s1,hfl,?_⟩
   .rintro σ2 H2 ⟨A2,st2,rs2,hf2,l2⟩;exact⟨m,Nat.lt_succ_self m,A2,st2,rs2,hf2,l2⟩
   .cases fl with
    |nx s4=>exact λA4 σ4 H4 l4 rs4=>⟨A4,s4,rs4,h6,l.trans ((Le.of s1).trans l4)⟩
    |ct s4=>exact λA4 σ4 H4 l4 rs4=>⟨A4,s4,rs4,h6,l.trans ((Le.of s1).trans l4)⟩
    |bk s4=>cases h6;exact p.mono (l.trans (Le.of s1))
    |rt d=>cases h6;exact p.mono (l.trans (Le.of s1)))
theorem bFq{K:Frag} {l:Addr} (hq:SqL K (hide (A++B) H) l vs) (r:bH K (hide (A++B) H) ds vs):aUd K B A H (Itl K l) ds:=by
 intro A' H' le own i;have hq':SqL K H' l vs:=(bN _ _).seq ((Le.app le).seq hq);refine⟨λd hd=>?_,λhl=>⟨vs,hq',by rw[r.length];exact hl⟩⟩
 obtain⟨v,hv,rv⟩:=r.get hd;refine⟨⟨vs,v,hq',hv⟩,λx H3 y=>⟨by rw[y.1];exact bF.refl _,?_⟩⟩
 have hx:=y.2 vs hq';rw[y.1];rw[hv]at hx;cases hx;exact rv.mono (Le.app le)
theorem bFr{K:Frag} {l:Addr} (hq:SqT K (hide (A++B) H) l vs) (r:bH K (hide (A++B) H) ds vs):aUd K B A H (Itt K l) ds:=by
 intro A' H' le own i;have hq':SqT K H' l vs:=zP (bN _ _) (zP (Le.app le) hq);refine⟨λd hd=>?_,λhl=>⟨vs,hq',by rw[r.length];exact hl⟩⟩
 obtain⟨v,hv,rv⟩:=r.get hd;refine⟨⟨vs,v,hq',hv⟩,λx H3 y=>⟨by rw[y.1];exact bF.refl _,?_⟩⟩
 have hx:=y.2 vs hq';rw[y.1];rw[hv]at hx;cases hx;exact rv.mono (Le.app le)
theorem bFs{K:Frag} {lo:Int}:aUd K B A H (Itr lo n) (pF lo n):=by
 intro A' H' le own i;have hl:(pF lo n).length=n:=by simp[pF]
 refine⟨λd hd=>?_,λh=>by rw[hl]at h;exact h⟩
 have hi:i<n:=by
  have:=(List.getElem?_eq_some_iff.mp hd).1;rw[hl]at this;exact this
 have e:d=.int (lo+(i:Int)):=by
  unfold pF at hd;rw[List.getElem?_map,List.getElem?_range hi]at hd;exact(Option.some.inj hd).symm
 subst e;exact⟨hi,λx H3 y=>⟨by rw[y.1];exact bF.refl _,bO.mpr y.2⟩⟩
def Its(z:List Nat):It:=⟨λi _=>i<z.length,λi H x H'=>H'=H/\∃c,z[i]?=some c/\x=.str ⟨#[c]⟩,λi _=>z.length<=i⟩
theorem aXw{K:Frag} {it:Addr} {n:String} {t:Tok} (hn:n="str_ascii_iterator"\/n="str_iterator"):Turn P w K tg (Its z) [it] it (λi h=>h.IsStrIter it n ⟨z.toArray⟩ t i) where
 mem:=by simp
 obj:=λi h st b hb=>by
  have e:b=it:=by simpa using hb
  subst e;obtain⟨o,e,c,d⟩:=st;exact⟨o,e,λv z=>by rw[d]at z;cases z⟩
 keep:=λi h h' st k=>let ⟨o,e,r⟩:=st;⟨o,k it (by simp) o e,r⟩
 item:=by
  intro X hP hw hK hc i pins s σ H E I hf st hg;subst hP hw hK;obtain⟨f0,f1,f2,f3,f4,f5⟩:=hf it (by simp)
  have fin:∀v h' tk,SignAt ⟨z.toArray⟩ i v->Heap.IsStrIter h' it n ⟨z.toArray⟩ t (i+1)->(∀b o,b∉[it]->s.heap.get? b=some o->h'.get? b=some o)->
    ∃u,some v=some u/\wpAny (model X.prog X.w) X.A (letOwnedTupleGo tg (.ref it) u) (λ_ s2=>∃x H',Inv X pins σ H' s2/\RelV x u/\(Its z).yld i H x H'/\Heap.IsStrIter s2.heap it n ⟨z.toArray⟩ t (i+1)/\∀b∈[it],H' b=none) E {s with heap:=h',toks:=tk}:=by
   intro v h' tk hv st' kk;obtain⟨c,u,hcu,rfl⟩:=hv;have I1:Inv X pins σ H {s with heap:=h',toks:=tk}:=I.turned (λb o hb e=>kk b o (by simpa using hb) e) f0 f1 f3 f4 f5
   obtain⟨o,e,c',d⟩:=id st';refine⟨_,rfl,aQv (s:={s with heap:=h',toks:=tk}) e c' d (by rcases hn with rfl|rfl<;>decide) ⟨.str ⟨#[c]⟩,H,I1,⟨u,rfl⟩,⟨rfl,c,?_,rfl⟩,st',λb hb=>(hf b hb).1⟩⟩
   simpa using hcu
  have hg2:i<z.length:=hg;have hg':i<(⟨z.toArray⟩:Str).cps.size:=by simpa using hg2
  rcases hn with rfl|rfl
  .exact(Walks.strAscii (prog:=X.prog) (w:=X.w) (I.ok.hd hc) it ⟨z.toArray⟩ t).item i s _ _ hg' st λv h' tk hv st' kk=>fin v h' tk hv st' kk
  .exact(Walks.strWide (prog:=X.prog) (w:=X.w) (I.ok.hd hc) it ⟨z.toArray⟩ t).item i s _ _ hg' st λv h' tk hv st' kk=>fin v h' tk hv st' kk
 done:=by
  intro X hP hw hK hc i pins s σ H E I hf st hg;subst hP hw hK;obtain⟨f0,f1,f2,f3,f4,f5⟩:=hf it (by simp)
  have hg2:z.length<=i:=hg;rcases hn with rfl|rfl
  .exact wpAny_pyNext_ascii_end (I.ok.hd hc) st (by simpa using hg2) λh' eb=>⟨rfl,I.turned (t':=s.toks) (λb o hb e=>eb b o hb e) f0 f1 f3 f4 f5⟩
  .exact wpAny_pyNext_wide_end (I.ok.hd hc) st (by simpa using hg2) λh' eb=>⟨rfl,I.turned (t':=s.toks) (λb o hb e=>eb b o hb e) f0 f1 f3 f4 f5⟩
 self:=λ_ _ _ _ _ st h=>by
  rcases hn with rfl|rfl
  .exact wpAny_pyIter_striter_ascii st h
  .exact wpAny_pyIter_striter_wide st h
theorem bFt{K:Frag}:aUd K B A H (Its z) (z.map λc=>.str [c]):=by
 intro A' H' le own i;refine⟨λd hd=>?_,λh=>(by simpa using h:z.length<=i)⟩
 rw[List.getElem?_map]at hd;cases hz:z[i]? with
 |none=>rw[hz]at hd;cases hd
 |some c=>
  rw[hz]at hd;cases hd;refine⟨(List.getElem?_eq_some_iff.mp hz).1,λx H3 y=>⟨by rw[y.1];exact bF.refl _,?_⟩⟩
  obtain⟨c',hc',rfl⟩:=y.2;rw[hz]at hc';cases hc';exact dH.mpr rfl
def bK6(K:Frag)(tl:TE):TI:=λσ H R=>tl σ H λx H1=>(∃a,x=.ref a/\(((∃xs,SqL K H1 a xs)/\R (Itl K a) H1)\/((∃xs,SqT K H1 a xs)/\R (Itt K a) H1)))\/∃z:List Nat,x=.str ⟨z.toArray⟩/\R (Its z) H1
theorem bFu{l:Expr}{tl:TE}(hl:PE X l tl):L2.PI X tg l (bK6 X.K tl):=by
 intro pins s σ H R I h;refine thn (hl pins s σ H _ I h) λv s1 ⟨x,H1,I1,r1,q1⟩=>?_
 rcases q1 with ⟨a,e,q⟩|⟨z,rfl,q⟩
 rotate_left
 .obtain⟨t,rfl⟩:=r1;refine wpAny_pyIter_strU ?_
  refine⟨s1.heap.objs.size,[s1.heap.objs.size],_,_,H1,rfl,I1.kept (t':=s1.toks) λb o e=>Heap.get?_push_of_some _ e,aXw (z:=z) (n:=strIterType ⟨z.toArray⟩) (t:=t) (by unfold strIterType;split<;>simp),⟨_,Heap.get?_push_size _ rfl,rfl,rfl⟩,λb hb=>?_,q⟩
  have e:b=s1.heap.objs.size:=by simpa using hb
  subst e;exact I1.fpOk (Nat.le_refl _) (I1.hok.fresh (Nat.le_refl _))
 subst e;cases r1;rcases q with ⟨⟨xs,hq⟩,q⟩|⟨⟨xs,hq⟩,q⟩
 .obtain⟨its,rv,p,hz⟩:=I1.list hq;refine wpAny_pyIter_list p.isList ?_
  refine⟨s1.heap.objs.size,[s1.heap.objs.size],_,_,H1,rfl,I1.kept (t':=s1.toks) λb o e=>Heap.get?_push_of_some _ e,aT7 a _,⟨_,Heap.get?_push_size _ rfl,rfl,rfl⟩,λb hb=>?_,q⟩
  have e:b=s1.heap.objs.size:=by simpa using hb
  subst e;exact I1.fpOk (Nat.le_refl _) (I1.hok.fresh (Nat.le_refl _))
 .obtain⟨its,rv,p,hz⟩:=I1.tuple hq;refine wpAny_pyIter_tuple (show s1.heap.IsTuple a its.toArray from p) ?_
  refine⟨s1.heap.objs.size,[s1.heap.objs.size],_,_,H1,rfl,I1.kept (t':=s1.toks) λb o e=>Heap.get?_push_of_some _ e,aPa a _,⟨_,Heap.get?_push_size _ rfl,rfl,rfl⟩,λb hb=>?_,q⟩
  have e:b=s1.heap.objs.size:=by simpa using hb
  subst e;exact I1.fpOk (Nat.le_refl _) (I1.hok.fresh (Nat.le_refl _))
theorem mC{l:Expr}(hl:PE X l (tI X.K B f)):L2.PI X tg l (tIt X.K B (itE f)):=aXp (bFu hl) (by
 rintro σ H Rq ⟨A,st,ds,rs,hd,q⟩;obtain⟨x,hx,h2⟩:=R.ok_of hd;refine⟨A,st,x,rs,hx,λv H1 s1 r1=>?_⟩
 cases x<;>first|(cases h2;done)|skip
 .obtain⟨_,h2⟩:=aJ h2;cases h2;exact .inr ⟨_,dH.mp r1,q _ H1 s1 bFt⟩
 .cases h2;obtain⟨a,vs,e,h3,r3⟩:=iM r1;exact .inl ⟨a,e,.inr ⟨⟨vs,zP (bN _ _) h3⟩,q _ H1 s1 (bFr h3 r3)⟩⟩
 .cases h2;obtain⟨a,vs,e,h3,r3⟩:=iG.mp r1;exact .inl ⟨a,e,.inl ⟨⟨vs,(bN _ _).seq h3⟩,q _ H1 s1 (bFq h3 r3)⟩⟩)
theorem aBh{p:Pos}(hm:X.mg "range"=none)(ha:PE X a (tP X.K B f))(hg:Gl X "range":=by rfl)(hs:starEach [a] X.env=[(false,eval a X.env)]:=by rfl):L2.PI X tg (.Call (.Name "range" p) [a] [] pos) (tIt X.K B (yG f)):=aXp (aT8 hg hm (eE ha jG hs) hs) (by
 rintro σ H Rq ⟨A,st,ds,rs,hd,q⟩;obtain⟨x,hx,h2⟩:=R.ok_of hd;obtain⟨j,rfl,h3⟩:=aPp h2;obtain⟨c,h4⟩:=aJ h3;rw[pC]at c;cases h4;exact⟨A,st,_,rs,hx,λv H1 s1 r1=>⟨j,by rw[r1.int],by omega,by omega,q _ H1 s1 bFs⟩⟩)
end
theorem aI3{K:Frag} (w:Own B H) (r:bH K (hide B H) ds vs):RS K B [] H (ds.map (λd=>some (Sl.v d))++List.replicate (N.length-ds.length) none) (L2.start N vs):=by
 have hl:=r.length;have nov:∀(i:Nat)(s:Sl),(ds.map (λd=>some (Sl.v d))++List.replicate (N.length-ds.length) none)[i]?=some (some s)->∃d,ds[i]?=some d/\s=.v d:=λi s e=>by
  by_cases hi:i<ds.length
  .rw[List.getElem?_append_left (by simpa using hi),List.getElem?_map,List.getElem?_eq_getElem hi]at e
   simp at e;exact⟨ds[i],List.getElem?_eq_getElem hi,e.symm⟩
  .rw[List.getElem?_append_right (by simpa using hi),List.getElem?_replicate]at e
   split at e<;>simp at e
 refine⟨by unfold L2.start;simp[hl],by rw[nil_append];exact w,λa ha=>absurd ha (by simp),λi d e=>?_,λi kk xs e=>?_⟩
 .obtain⟨d',e1,e2⟩:=nov i _ e;cases e2;obtain⟨v,hv,rv⟩:=r.get e1;refine⟨v,?_,by rw[nil_append];exact rv⟩
  unfold L2.start;have hi:i<vs.length:=(List.getElem?_eq_some_iff.mp hv).1;rw[List.getElem?_append_left (by simpa using hi),List.getElem?_map,hv]
  rfl
 .obtain⟨d',e1,e2⟩:=nov i _ e;cases e2
theorem aDm(ds:List D)(d:D)(h:cT np n bd ds=.ok d):ds.length=np:=(aJ h).1
structure DefOk(P:Program)(w:World)(K:Frag)(mg:Str->Option Value)(base:Heap)(x:Str)(k np:Nat)(p:List D->R D):Prop where
 ex:∃(fa:Addr)(fd:FuncData)(ps:List Str),FnOk P w K mg base CX0 k fa fd ps (spI K np p)/\mg x=some (.ref fa)/\keepIn K (.ref fa)=true/\Binds K fd ps []
 len:∀ds d,p ds=.ok d->ds.length=np
theorem DefOk.of{K:Frag} {k:Nat} (h:FnOk P w K mg base CX0 k fa fd ps (spI K np p)) (m:mg x=some (.ref fa))
  (kp:keepIn K (.ref fa)=true) (b:Binds K fd ps []) (l:∀ds d,p ds=.ok d->ds.length=np):DefOk P w K mg base x k np p:=⟨⟨fa,fd,ps,h,m,kp,b⟩,l⟩
section
variable{X:Cx}{B:List Addr}{a b e:Expr}{f g:Ex}{pos:Pos}
theorem aK{k:Nat} {r:Exs} (h:DefOk X.prog X.w X.K X.mg X.base x k np p) (hr:Room j X.A) (hk:k<=j) (ha:PA X (e::es) (tA X.K B r)) (hg:Gl X x:=by rfl) (hdb:(x==("__debug__":Str))=false:=by decide)
  (he:starEach (e::es) X.env=(false,eval e X.env)::starEach es X.env:=by rfl) (hpl:(backTo pos (starEach es X.env)).any (·.1)=false:=by rfl):PE X (.Call (.Name x p0) (e::es) [] pos) (tI X.K B (aW p r)):=by
 obtain⟨fa,fd,ps,F,m,kp,bd⟩:=h.ex;exact bFo F (hr.mono hk) m kp bd h.len ha hg hdb he hpl
theorem bFv{K:Frag} {a:Addr} {E:XK} (hS:SqL K H a (ns.map V.int)) (h:p [.lst (ns.map D.int)]=.ok (.bl true)):spI K 1 p [.ref a] H (λv _=>v=.bl true) E:=by
 refine⟨[],[.lst (ns.map D.int)],.bl true,λb hb=>absurd hb (by simp),?_,rfl,h,λv H' _ r=>cV.mp r⟩
 rw[vM];refine .cons (iG.mpr ⟨a,_,rfl,hS,?_⟩) .nil;clear hS h
 induction ns with
 |nil=>exact .nil
 |cons n ns ih=>exact .cons (bO.mpr rfl) ih
theorem lW(hm:X.mg "len"=none)(ha:PE X a (tP X.K B f))(hg:Gl X "len":=by rfl)(hs:starEach [a] X.env=(false,eval a X.env)::starEach [] X.env:=by rfl):PE X (.Call (.Name "len" p0) [a] [] pos) (tI X.K B (e1 lY f)):=by
 refine cN (qG (aKx.or (aKy.or aUf)) hg hm PySem.boot_len (eE ha jG hs) (he:=hs)) ?_
 rintro σ H Q ⟨A,st,d,rs,hd,q⟩;obtain⟨x,hx,h2⟩:=R.ok_of hd;refine⟨A,st,x,rs,hx,λv H1 s1 r1=>?_⟩
 cases x<;>first|(cases h2;done)|skip
 .obtain⟨c,h3⟩:=aJ h2;cases h3;exact .inr (.inl ⟨_,by rw[r1.str],by rw[str_len];exact lim c,by rw[str_len];exact q _ H1 s1 (bO.mpr rfl)⟩)
 .cases h2;obtain⟨l,vs,e,h3,r3⟩:=r1.tup;exact .inl ⟨l,vs,by rw[e],.inr h3,by rw[r3.length];exact q _ H1 s1 (bO.mpr rfl)⟩
 .cases h2;obtain⟨l,vs,e,h3,r3⟩:=r1.lst;exact .inl ⟨l,vs,by rw[e],.inl h3,by rw[r3.length];exact q _ H1 s1 (bO.mpr rfl)⟩
 .rename_i t ks ds;cases t<;>first|(cases h2;done)|skip
  cases h2;obtain⟨a,kvs,e,h3,h4⟩:=bBf r1;exact .inr (.inr ⟨a,kvs,by rw[e],h3,by rw[h4];exact q _ H1 s1 (bO.mpr rfl)⟩)
theorem aEm:PO X none (tO X.K B vB):=aXn aZr (by
 rintro σ H Q ⟨A,st,o,rs,ho,q⟩;cases ho;exact q H (bF.refl _))
theorem zT(h:PE X e (tP X.K B f)):PO X (some e) (tO X.K B (qH f)):=aXn (aZs h) (by
 rintro σ H Q ⟨A,st,o,rs,ho,q⟩;obtain⟨x,hx,h2⟩:=R.ok_of ho;obtain⟨i,rfl,h3⟩:=aPp h2;cases h3;exact⟨A,st,_,rs,hx,λv H1 s1 r1=>⟨i,r1.int,q H1 s1⟩⟩)
theorem aO5{α:Type}(x:List α):∀(k a:Nat),((List.range k).map (a + ·)).filterMap (x[·]?)=(x.drop a).take k
 |0,a=>by simp
 |k+1,a=>by
  rw[List.range_succ_eq_map,map_cons,List.filterMap_cons,List.map_map];have e:((λb=>a+b) ∘ Nat.succ)=λb=>(a+1)+b:=by funext b;simp only[Function.comp_apply];omega
  rw[e];have ih:=aO5 x k (a+1);rw[ih]
  by_cases h:a<x.length
  .rw[Nat.add_zero,List.getElem?_eq_getElem h];simp only[List.drop_eq_getElem_cons h,List.take_succ_cons]
  .rw[Nat.add_zero,List.getElem?_eq_none (by omega)]
   simp only[List.drop_eq_nil_of_le (by omega:x.length<=a),List.drop_eq_nil_of_le (by omega:x.length<=a+1),List.take_nil]
theorem aSi(n d:Nat)(o:Option Int):(match o with|none=>(d:Int)|some i=>if (1:Int)>0 then max 0 (min (if i<0 then i+(n:Int) else i) (n:Int)) else max (-1) (min (if i<0 then i+(n:Int) else i) ((n:Int)-1)))=((sIx n d o:Nat):Int):=by
 cases o with
 |none=>rfl
 |some i=>
  show (if (1:Int)>0 then _ else _)=(((if i<0 then (i+(n:Int)).toNat else min i.toNat n):Nat):Int)
  rw[if_pos (by decide)]
  by_cases h:i<0
  .rw[if_pos h,if_pos h];omega
  .rw[if_neg h,if_neg h];omega
theorem aXx(lo hi:Option Int)(n:Nat):Builtin.Str.strSliceIndices lo hi 1 n=(List.range (sIx n n hi-sIx n 0 lo)).map (sIx n 0 lo + ·):=by
 unfold Builtin.Str.strSliceIndices;simp only[show (1:Int)>0 by decide,if_true]
 have e1:=aSi n 0 lo;have e2:=aSi n n hi;simp only[show (1:Int)>0 by decide,if_true]at e1 e2
 rw[show ((0:Nat):Int)=0 from rfl]at e1
 refine Eq.trans (congrArg (λz=>sliceRange z _ 1) (show _=((sIx n 0 lo:Nat):Int) from e1)) (Eq.trans (congrArg (λz=>sliceRange _ z 1) (show _=((sIx n n hi:Nat):Int) from e2)) ?_)
 unfold sliceRange;simp only[show (1:Int)>0 by decide,if_true]
 have hc:(if ((sIx n 0 lo:Nat):Int)<((sIx n n hi:Nat):Int) then (((sIx n n hi:Nat):Int)-((sIx n 0 lo:Nat):Int)+1-1)/1 else 0).toNat=sIx n n hi-sIx n 0 lo:=by
  by_cases h:((sIx n 0 lo:Nat):Int)<((sIx n n hi:Nat):Int)
  .rw[if_pos h,Int.ediv_one];omega
  .rw[if_neg h];omega
 rw[hc];refine List.map_congr_left λk _=>?_
 omega
theorem bBh(n d:Nat)(hd:d<=n)(o:Option Int):sIx n d o<=n:=by
 cases o with
 |none=>exact hd
 |some v=>
  show (if v<0 then (v+(n:Int)).toNat else min v.toNat n)<=n
  by_cases hv:v<0
  .rw[if_pos hv];omega
  .rw[if_neg hv];omega
theorem aUg(x:List Nat)(lo hi:Option Int):Txt.slice ⟨x.toArray⟩ lo hi=⟨(cut x lo hi).toArray⟩:=by
 unfold Txt.slice cut;rw[str_len,aXx,length_map,length_range];have h1:=bBh x.length x.length (Nat.le_refl _) hi
 by_cases h:sIx x.length x.length hi-sIx x.length 0 lo=x.length
 .have e0:sIx x.length 0 lo=0\/x.length=0:=by omega
  rw[if_pos (by simp[h]),h]
  rcases e0 with e0|e0
  .rw[e0,drop_zero,List.take_length]
  .rw[List.length_eq_zero_iff.mp e0];simp
 .rw[if_neg (by simp[h])]
  have e:(λ(i:Nat)=>(⟨x.toArray⟩:Str).cps[i]?)=λi=>x[i]?:=by funext i;simp
  rw[e,aO5]
def bK7:V->Option Int->Option Int->Hp->VK->Prop:=λx lo hi H Q=>∃z:List Nat,x=.str ⟨z.toArray⟩/\z.length<=sizeLine/\Q (.str ⟨(cut z lo hi).toArray⟩) H
theorem bFw:SlR X bK7:=by
 intro pins s σ H x v vl vu lo hi sl Q I rx hs pl pu h;obtain⟨z,rfl,hz,q⟩:=h;obtain⟨t,rfl⟩:=rx;refine⟨"str",_,PySem.F.slot_str_getitem.lookup,typeIs_str _ _ _,?_⟩;have hl:(Txt.slice ⟨z.toArray⟩ lo hi).length<=sizeLine:=Nat.le_trans (Txt.slice_le _ _ _) (by rw[str_len];exact hz)
 have fin:∀t' k,EP X pins σ Q (.str (Txt.slice ⟨z.toArray⟩ lo hi) t') {s with toks:=k}:=λt' k=>⟨.str ⟨(cut z lo hi).toArray⟩,H,I.tok k,⟨t',by rw[aUg]⟩,q⟩
 cases pl with
 |none=>
  cases pu with
  |none=>exact wpAny_getItem_str_slice (l:=none) (u:=none) (st:=none) hs rfl (post_val_or_str ⟨hl,fin⟩)
  |int j uj=>exact wpAny_getItem_str_slice (l:=none) (u:=some (j,uj)) (st:=none) hs rfl (post_val_or_str ⟨hl,fin⟩)
 |int i ui=>
  cases pu with
  |none=>exact wpAny_getItem_str_slice (l:=some (i,ui)) (u:=none) (st:=none) hs rfl (post_val_or_str ⟨hl,fin⟩)
  |int j uj=>exact wpAny_getItem_str_slice (l:=some (i,ui)) (u:=some (j,uj)) (st:=none) hs rfl (post_val_or_str ⟨hl,fin⟩)
theorem aO6{K:Frag} (lo hi:Option Int) (r:bH K H ds vs):bH K H (cut ds lo hi) (aTi vs lo hi):=by
 unfold cut aTi;rw[r.length];exact(r.drop _).take _
theorem aUh{lo hi:Option Expr}{l u:ExO} (ha:PE X a (tP X.K B f)) (hl:PO X lo (tO X.K B l)) (hu:PO X hi (tO X.K B u)):PE X (.Subscript a (.Slice lo hi none p2) pos) (tI X.K B (eSl f l u)):=by
 refine cN (aMu (aR0.or bFw) ha hl hu) ?_
 rintro σ H Q ⟨A,st,d,rs,hd,q⟩;obtain⟨x,hx,h2⟩:=R.ok_of hd;obtain⟨l',hl',h3⟩:=R.ok_of h2;obtain⟨u',hu',h4⟩:=R.ok_of h3;refine⟨A,st,x,rs,hx,λv H1 s1 r1=>⟨A,st,l',rs.mono s1,hl',λH2 s2=>⟨A,st,u',rs.mono (s1.trans s2),hu',λH3 s3=>?_⟩⟩⟩
 have r3:=r1.mono (s2.trans s3);cases x<;>first|(cases h4;done)|skip
 .obtain⟨c,h5⟩:=aJ h4;cases h5;exact .inr ⟨_,r3.str,lim c,q _ H3 (s1.trans (s2.trans s3)) (dH.mpr rfl)⟩
 .cases h4;obtain⟨p,vs,e,h6,r6⟩:=r3.lst;refine .inl ⟨p,vs,e,h6,λn hn=>q _ _ (s1.trans (s2.trans (s3.trans (cH hn)))) ?_⟩
  exact iI (rs.own.mono (s1.trans (s2.trans s3))) hn (aO6 _ _ r6)
end
def clo(cells:List (Str×Addr)):List (Str×NameKind)->List (Str×Addr)->List (Str×Addr)
 |[],acc=>acc
 |(n,k)::r,acc=>if k == .free then clo cells r ((n,(cells.lookup n).getD 0)::acc) else clo cells r acc
theorem aC6{env:Env}:∀(names:List (Str×NameKind)) (acc:List (Str×Addr)),(∀y∈names,y.2=.free->∃c,env.cells.lookup y.1=some c)->
  (forIn names acc λx cs=>if x.2 == .free then (do let c <- cellOf env x.1;pure (ForInStep.yield ((x.1,c)::cs))) else pure (ForInStep.yield cs):Sem (List (Str×Addr)))=pure (clo env.cells names acc)
 |[],acc,_=>by rw[forIn_nil];rfl
 |(n,k)::r,acc,h=>by
  rw[forIn_cons];unfold clo
  by_cases hk:k=.free
  .subst hk;obtain⟨c,e⟩:=h (n,.free) mem_cons_self rfl;have e2:cellOf env n=pure c:=by unfold cellOf;rw[e]
   simp only[beq_self_eq_true,if_true,e2,e,getD_some];show (forIn r ((n,c)::acc) _:Sem (List (Str×Addr)))=_;exact aC6 r _ λy hy=>h y (mem_cons_of_mem _ hy)
  .have hb:(k==NameKind.free)=false:=by simpa using hk
   simp only[hb,Bool.false_eq_true,if_false];show (forIn r acc _:Sem (List (Str×Addr)))=_;exact aC6 r _ λy hy=>h y (mem_cons_of_mem _ hy)
theorem aJ5{scope:Scope} (h:∀y∈scope.names,y.2=.free->∃c,env.cells.lookup y.1=some c):closureFor scope env=pure (clo env.cells scope.names []):=by
 have q:=aC6 (env:=env) scope.names [] h;unfold closureFor;rw[<-q];simp only[pure_bind,bind_pure]
theorem aM1{cells:List (Str×Addr)}:∀(names:List (Str×NameKind)) (acc:List (Str×Addr)) (x:Str) (c:Addr),(∀y∈names,y.2=.free->∃c,cells.lookup y.1=some c)->(x,c)∈clo cells names acc->((x,NameKind.free)∈names/\cells.lookup x=some c)\/(x,c)∈acc
 |[],acc,x,c,_,h=>.inr h
 |(n,k)::r,acc,x,c,hn,h=>by
  unfold clo at h;have hr:∀y∈r,y.2=.free->∃c,cells.lookup y.1=some c:=λy hy=>hn y (mem_cons_of_mem _ hy)
  by_cases hk:k=.free
  .subst hk;rw[if_pos (by simp)]at h
   obtain⟨c',e⟩:=hn (n,.free) mem_cons_self rfl;rcases aM1 r _ x c hr h with ⟨h1,h2⟩|h1
   .exact .inl ⟨mem_cons_of_mem _ h1,h2⟩
   .rcases List.mem_cons.mp h1 with h1|h1
    .cases h1;refine .inl ⟨mem_cons_self,?_⟩;have e':cells.lookup n=some c':=e;rw[e'];rfl
    .exact .inr h1
  .rw[if_neg (by simpa using hk)]at h
   rcases aM1 r _ x c hr h with ⟨h1,h2⟩|h1
   .exact .inl ⟨mem_cons_of_mem _ h1,h2⟩
   .exact .inr h1
theorem aM2{cells:List (Str×Addr)}:∀(names:List (Str×NameKind)) (acc:List (Str×Addr)) (x:Str),((x,NameKind.free)∈names\/∃c,(x,c)∈acc)->∃c,(x,c)∈clo cells names acc
 |[],acc,x,h=>by
  rcases h with h|h
  .cases h
  .exact h
 |(n,k)::r,acc,x,h=>by
  unfold clo
  by_cases hk:k=.free
  .subst hk;rw[if_pos (by simp)]
   refine aM2 r _ x ?_
   rcases h with h|⟨c,h⟩
   .rcases List.mem_cons.mp h with h|h
    .cases h;exact .inr ⟨_,mem_cons_self⟩
    .exact .inl h
   .exact .inr ⟨c,mem_cons_of_mem _ h⟩
  .rw[if_neg (by simpa using hk)]
   refine aM2 r _ x ?_
   rcases h with h|h
   .rcases List.mem_cons.mp h with h|h
    .cases h;exact absurd rfl hk
    .exact .inl h
   .exact .inr h
theorem uR{α:Type}:∀{l:List (Str×α)} {x:Str} {c:α},(x,c)∈l->∃c',l.lookup x=some c'
 |(n,v)::r,x,c,h=>by
  rw[lookup_cons];cases hb:x==n with
  |true=>exact⟨v,rfl⟩
  |false=>
   rcases List.mem_cons.mp h with h|h
   .cases h;simp at hb
   .exact uR h
theorem oM{env:Env}:∀(names:List (Str×NameKind)) (x:Str),(names.map λ(n,k)=>if (k==NameKind.free&&env.scope.kind == .function&&env.kindOf n==some .cell) then (n,NameKind.cell) else (n,k)).lookup x =
  (names.lookup x).map λk=>if (k==NameKind.free&&env.scope.kind == .function&&env.kindOf x==some .cell) then NameKind.cell else k
 |[],_=>rfl
 |(n,k)::r,x=>by
  have ih:=@oM env r x;rw[map_cons,lookup_cons];show List.lookup x ((if (k==NameKind.free&&env.scope.kind == .function&&env.kindOf n==some .cell)=true then (n,NameKind.cell) else (n,k))::_)=_
  cases hx:x==n with
  |true=>
   have e:x=n:=beq_iff_eq.mp hx;subst e
   by_cases hc:(k==NameKind.free&&env.scope.kind == .function&&env.kindOf x==some .cell)=true
   .rw[if_pos hc,lookup_cons,lookup_cons,hx];simp only[map_some];rw[if_pos hc]
   .rw[if_neg hc,lookup_cons,lookup_cons,hx];simp only[map_some];rw[if_neg hc]
  |false=>
   by_cases hc:(k==NameKind.free&&env.scope.kind == .function&&env.kindOf n==some .cell)=true
   .rw[if_pos hc,lookup_cons,lookup_cons,hx];exact ih
   .rw[if_neg hc,lookup_cons,lookup_cons,hx];exact ih
theorem pX:∀(names:List (Str×NameKind)) (n:Nat) (acc:List (Str×Addr)),cellsFrom n names acc=cellsFrom n names []++acc
 |[],_,_=>rfl
 |(x,k)::r,n,acc=>by
  unfold cellsFrom;split
  .rw[pX r (n+1) ((x,n)::acc),pX r (n+1) [(x,n)],List.append_assoc];rfl
  .exact pX r n acc
theorem wN:∀(names:List (Str×NameKind)) (n:Nat) (acc:List (Str×Addr)) (x:Str) (c:Addr),(x,c)∈cellsFrom n names acc->(x,c)∈acc\/(x,NameKind.cell)∈names
 |[],_,_,_,_,h=>.inl h
 |(y,k)::r,n,acc,x,c,h=>by
  unfold cellsFrom at h;split at h
  .rename_i hk;rcases wN r _ _ x c h with z|z
   .rcases List.mem_cons.mp z with z|z
    .cases z;exact .inr (by rw[show k=NameKind.cell from by simpa using hk];exact mem_cons_self)
    .exact .inl z
   .exact .inr (mem_cons_of_mem _ z)
  .rcases wN r _ _ x c h with z|z
   .exact .inl z
   .exact .inr (mem_cons_of_mem _ z)
theorem pY:∀(names:List (Str×NameKind)) (n:Nat) (acc:List (Str×Addr)) (x:Str),((x,NameKind.cell)∈names\/∃c,(x,c)∈acc)->∃c,(x,c)∈cellsFrom n names acc
 |[],_,_,x,h=>h.elim (λz=>nomatch z) id
 |(y,k)::r,n,acc,x,h=>by
  unfold cellsFrom;split
  .refine pY r _ _ x ?_
   rcases h with h|⟨c,h⟩
   .rcases List.mem_cons.mp h with h|h
    .cases h;exact .inr ⟨n,mem_cons_self⟩
    .exact .inl h
   .exact .inr ⟨c,mem_cons_of_mem _ h⟩
  .rename_i hk;refine pY r _ _ x ?_
   rcases h with h|h
   .rcases List.mem_cons.mp h with h|h
    .cases h;exact absurd rfl hk
    .exact .inl h
   .exact .inr h
theorem aI4{α:Type}(x:Str):∀(l r:List (Str×α)),(l++r).lookup x=(l.lookup x).or (r.lookup x)
 |[],r=>by simp
 |(y,v)::l,r=>by
  rw[cons_append,lookup_cons,lookup_cons];cases hb:x==y with
  |true=>rfl
  |false=>exact aI4 x l r
theorem pZ{α:Type}:∀{l:List (Str×α)} {x:Str} {v:α},(l.map (·.1)).Nodup->(x,v)∈l->l.lookup x=some v
 |(y,w)::l,x,v,nd,h=>by
  rw[map_cons,List.nodup_cons]at nd;rw[lookup_cons];rcases List.mem_cons.mp h with h|h
  .cases h;simp
  .have hne:(x==y)=false:=by
    rw[beq_eq_false_iff_ne];intro z;exact nd.1 (List.mem_map.mpr ⟨(x,v),h,z⟩)
   rw[hne];exact pZ nd.2 h
theorem aUi{A:Around} {s:Shared} {scope:Scope} {gl:Addr} {cl:List (Str×Addr)} {Q:Env->Shared->Prop}
  (hQ:∀h',h'.Ns s.heap.objs.size (λ_=>none)->(∀b o,s.heap.get? b=some o->h'.get? b=some o)->CellsOk h' (s.heap.objs.size+1) (cellsFrom (s.heap.objs.size+1) scope.names [])->
   Q {scope:=scope,locals:=s.heap.objs.size,globals:=gl,cells:=cellsFrom (s.heap.objs.size+1) scope.names cl,qual:=qual,func:=none,code:=env.code,frame:=env.frame,builtins:=env.builtins} {s with heap:=h'}) :
  wpAny M A (newFunctionEnv scope gl cl [] qual none .none (some env)) Q E s:=by
 simp only[newFunctionEnv,Option.isSome_some,if_true];refine wpAny_bind (wpAny_alloc (wpAny_bind (wpAny_layCells _ (λname kind cells=>by cases hkc:kind==NameKind.cell<;>simp[hkc]) _ _ _ _ ?_)))
 rw[forIn_nil];refine wpAny_bind (wpAny_pure (wpAny_pure ?_));have ok:=cellsFrom_ok scope.names (s.heap.push {cls:=.type "dict",data:=.dict #[]}) (s.heap.objs.size+1) [] ⟨λ_ _ hm=>(nomatch hm),List.Pairwise.nil⟩ (by rw[Heap.size_push];exact Nat.le_refl _)
 rw[Heap.size_push]at ok;have e:({s with heap:=s.heap.push {cls:=.type "dict",data:=.dict #[]} }:Shared).heap.objs.size=s.heap.objs.size+1:=Heap.size_push ..
 rw[e];exact hQ _ ((Heap.Ns.new s.heap (.type "dict")).keeps (pushCells_keeps _ _)) (λb o q=>pushCells_keeps _ _ b o (Heap.get?_push_of_some _ q)) ok
structure CScope(X:Cx)(scope:Scope)(is:List Nat):Prop where
 kind:scope.kind=.function
 nd:(scope.names.map (·.1)).Nodup
 free:∀x∈scope.names,x.2=.free->X.env.kindOf x.1=some .cell\/X.env.kindOf x.1=some .free
 own:∀(i:Nat) x,X.N[i]?=some x->(scope.names.lookup x=some .local\/scope.names.lookup x=some .cell)->i∈is
section
variable{X:Cx}{scope:Scope}{is:List Nat}
theorem CScope.names(S:CScope X scope is):∀x∈scope.names,x.2=.local->scope.names.lookup x.1=some .local:=λx hx e=>pZ S.nd (by rw[<-e];exact hx)
def cR(X:Cx)(scope:Scope)(C:Addr)(s₀:Shared)(H₀:Hp)(fp:List Addr):Cx:=
 {X with s₀:=s₀,H₀:=H₀,env:=compEnvC scope (cellsFrom (C+1) scope.names (clo X.env.cells scope.names [])) C X.env,outer:=X.stack,stack:=X.stack,ex:=fp,fn:=λx=>scope.names.lookup x==some .cell,pn:=[],xe:=λ_ _=>False,calm:=true}
theorem CScope.cells(S:CScope X scope is)(ok:X.Ok):∀y∈scope.names,y.2=.free->∃c,X.env.cells.lookup y.1=some c:=λy hy hf=>ok.has y.1 (S.free y hy hf)
theorem CScope.lk(S:CScope X scope is)(ok:X.Ok){n:Nat}{x:Str}{c:Addr}(h:(cellsFrom n scope.names (clo X.env.cells scope.names [])).lookup x=some c) :
  ((cellsFrom n scope.names []).lookup x=some c/\scope.names.lookup x=some .cell)\/(scope.names.lookup x=some .free/\X.env.cells.lookup x=some c):=by
 rw[pX,aI4]at h;cases e:(cellsFrom n scope.names []).lookup x with
 |some c'=>
  rw[e]at h;cases h;rcases wN _ _ _ _ _ (PySem.mem_of_lookup e) with z|z
  .cases z
  .exact .inl ⟨rfl,pZ S.nd z⟩
 |none=>
  rw[e]at h;have h:(clo X.env.cells scope.names []).lookup x=some c:=h;rcases aM1 scope.names [] x c (S.cells ok) (PySem.mem_of_lookup h) with ⟨h1,h2⟩|h2
  .exact .inr ⟨pZ S.nd h1,h2⟩
  .cases h2
def aO7(is:List Nat)(σ:LSt):LSt:=is.foldl (λτ i=>τ.set i none) σ
theorem aO8(is:List Nat):∀σ:LSt,(aO7 is σ).length=σ.length:=by
 induction is with
 |nil=>exact λ_=>rfl
 |cons i is ih=>intro σ;show (aO7 is (σ.set i none)).length=_;rw[ih,length_set]
theorem aXy(is:List Nat):∀(σ:LSt)(j:Nat)(v:V),(aO7 is σ)[j]?=some (some v)->σ[j]?=some (some v)/\j∉is:=by
 induction is with
 |nil=>exact λσ j v h=>⟨h,by simp⟩
 |cons i is ih=>
  intro σ j v h;obtain⟨h1,h2⟩:=ih (σ.set i none) j v h;rw[List.getElem?_set]at h1
  by_cases e:i=j
  .subst e;rw[if_pos rfl]at h1;split at h1<;>cases h1
  .rw[if_neg e]at h1;exact⟨h1,λz=>(List.mem_cons.mp z).elim (λz=>e z.symm) h2⟩
theorem aQa{s:Shared}{fp:List Addr} (S:CScope X scope is) (hc:X.calm=true) (I:Inv X pins σ H s) (hf:∀b∈fp,aCh X pins H b) (hlt:∀b∈fp,b<s.heap.objs.size)
  (hn:h'.Ns s.heap.objs.size λ_=>none) (hk:∀b o,s.heap.get? b=some o->h'.get? b=some o) (hcl:CellsOk h' (s.heap.objs.size+1) (cellsFrom (s.heap.objs.size+1) scope.names [])) :
  Inv (cR X scope s.heap.objs.size s H fp) [] (aO7 is σ) H {s with heap:=h',toks:=t'}:=by
 have lk:=@CScope.lk X scope is S I.ok (s.heap.objs.size+1);have nf:∀b∈fp,b≠s.heap.objs.size:=λb hb=>Nat.ne_of_lt (hlt b hb)
 have cellLt:∀x c,X.env.cells.lookup x=some c->c<s.heap.objs.size:=λx c e=>by
  obtain⟨v,q⟩:=I.cell x c e;exact q.lt
 have ownGe:∀x c,(cellsFrom (s.heap.objs.size+1) scope.names []).lookup x=some c->s.heap.objs.size+1<=c:=λx c e=>(hcl.empty x c (PySem.mem_of_lookup e)).2
 have has:∀x k,(k=.cell\/k=.free)->scope.names.lookup x=some k->∃c,(cellsFrom (s.heap.objs.size+1) scope.names (clo X.env.cells scope.names [])).lookup x=some c:=λx k hk e=>by
  have hm:=PySem.mem_of_lookup e;rcases hk with rfl|rfl
  .obtain⟨c,q⟩:=pY scope.names (s.heap.objs.size+1) (clo X.env.cells scope.names []) x (.inl hm);exact uR q
  .obtain⟨c,q⟩:=pY scope.names (s.heap.objs.size+1) (clo X.env.cells scope.names []) x (.inr (aM2 (cells:=X.env.cells) scope.names [] x (.inl hm)));exact uR q
 have knd:∀x,(relabel scope X.env).names.lookup x=some .cell\/(relabel scope X.env).names.lookup x=some .free->scope.names.lookup x=some .cell\/scope.names.lookup x=some .free:=λx hx=>by
  unfold relabel at hx;rw[oM]at hx;cases e:scope.names.lookup x with
  |none=>rw[e]at hx;rcases hx with hx|hx<;>cases hx
  |some k=>
   rw[e]at hx;simp only[map_some]at hx
   by_cases hc:(k==NameKind.free&&X.env.scope.kind == .function&&X.env.kindOf x==some .cell)=true
   .simp only[and_eq_true,beq_iff_eq]at hc;exact .inr (by rw[hc.1.1])
   .rw[if_neg hc]at hx;exact hx
 refine⟨⟨I.ok.mod,?_,I.ok.glob,I.ok.blt,Nat.le_refl _,λx y c h1 h2=>?_,λx hx=>?_,λx c hfn e=>?_,λ_=>I.ok.hd hc,I.ok.frames,.inl rfl,λb hb=>⟨nf b hb,λx c e z=>?_⟩,I.bs,?_,λb o e hb=>?_,λb hb z=>?_,I.stack,I.stkFree⟩,
  rfl,I.bare,Un.kept hk,⟨_,hn,λi x v e1 e2 e3=>?_⟩,λx c e=>?_,I.hok.fresh (Nat.le_refl _),λx c e=>?_,(λp hp=>absurd (show p∈([]:List (Addr×Obj)) from hp) (by simp)),I.hok.kept hk,by rw[aO8];exact I.len⟩
 .show (relabel scope X.env).kind=.function;exact S.kind
 .rcases lk h1 with ⟨a1,_⟩|⟨_,a1⟩ <;> rcases lk h2 with ⟨a2,_⟩|⟨_,a2⟩
  .exact name_of_addr hcl.apart (PySem.mem_of_lookup a1) (PySem.mem_of_lookup a2)
  .exact absurd (Nat.lt_of_lt_of_le (cellLt y c a2) (Nat.le_of_succ_le (ownGe x c a1))) (Nat.lt_irrefl _)
  .exact absurd (Nat.lt_of_lt_of_le (cellLt x c a1) (Nat.le_of_succ_le (ownGe y c a2))) (Nat.lt_irrefl _)
  .exact I.ok.inj x y c a1 a2
 .rcases knd x hx with e|e
  .exact has x _ (.inl rfl) e
  .exact has x _ (.inr rfl) e
 .have hfn:scope.names.lookup x=some .cell:=beq_iff_eq.mp hfn;rcases lk e with ⟨a1,_⟩|⟨a1,_⟩
  .have:=ownGe x c a1;show s.heap.objs.size<=c;omega
  .rw[hfn]at a1;cases a1
 .rcases lk e with ⟨a1,_⟩|⟨_,a1⟩
  .have h2:=hlt b hb;rw[<-z]at h2;exact absurd (Nat.lt_of_lt_of_le h2 (Nat.le_of_succ_le (ownGe x c a1))) (Nat.lt_irrefl _)
  .exact(hf b hb).2.2.2.2.1 x c a1 z
 .exact Nat.le_trans I.ok.bsz I.sz
 .rcases (hf b hb).2.2.2.1 with z|z
  .exact I.ok.noex b o e z
  .exact absurd (Nat.lt_of_lt_of_le (Heap.lt_size e) (Nat.le_trans I.ok.bsz z)) (Nat.lt_irrefl _)
 .rcases List.mem_cons.mp (I.stkSub b z) with z|z
  .exact(hf b hb).2.1 z
  .exact(hf b hb).2.2.1 z
 .obtain⟨e2,hni⟩:=aXy is σ i v e2;have e3:(relabel scope X.env).names.lookup x=some .local\/(relabel scope X.env).names.lookup x=some .cell\/(relabel scope X.env).names.lookup x=some .free:=e3;have hfr:scope.names.lookup x=some .free:=by
   have e4:=e3;unfold relabel at e4;rw[oM]at e4;cases e:scope.names.lookup x with
   |none=>rw[e]at e4;rcases e4 with e4|e4|e4<;>cases e4
   |some k=>
    rw[e]at e4;simp only[map_some]at e4
    by_cases hc:(k==NameKind.free&&X.env.scope.kind == .function&&X.env.kindOf x==some .cell)=true
    .simp only[and_eq_true,beq_iff_eq]at hc;rw[hc.1.1]
    .rw[if_neg hc]at e4;rcases e4 with e4|e4|e4
     .exact absurd (S.own i x e1 (.inl (by rw[e,e4]))) hni
     .exact absurd (S.own i x e1 (.inr (by rw[e,e4]))) hni
     .exact e4
  have hrel:(relabel scope X.env).names.lookup x=some .cell\/(relabel scope X.env).names.lookup x=some .free:=by
   rcases e3 with e3|e3|e3
   .unfold relabel at e3;rw[oM,hfr]at e3;simp only[map_some]at e3;split at e3<;>cases e3
   .exact .inl e3
   .exact .inr e3
  have hvis:=S.free _ (PySem.mem_of_lookup hfr) rfl;obtain⟨m,hm,hl⟩:=I.loc;obtain⟨u,ru,lu⟩:=hl i x v e1 e2 (.inr hvis);refine⟨u,ru,.inr ⟨hrel,?_⟩⟩;rcases lu with ⟨k1,_⟩|⟨_,c,ec,zc⟩
  .have k1:X.env.kindOf x=some .local:=k1;rcases hvis with q|q<;>rw[k1]at q<;>cases q
  .obtain⟨c2,e5⟩:=has x _ (.inr rfl) hfr;rcases lk e5 with ⟨_,a1⟩|⟨_,a1⟩
   .rw[hfr]at a1;cases a1
   .rw[ec]at a1;cases a1;exact⟨c,e5,zc.keeps hk⟩
 .rcases lk e with ⟨a1,_⟩|⟨_,a1⟩
  .exact⟨_,(hcl.empty x c (PySem.mem_of_lookup a1)).1⟩
  .obtain⟨v,q⟩:=I.cell x c a1;exact⟨v,q.keeps hk⟩
 .rcases lk e with ⟨a1,_⟩|⟨_,a1⟩
  .exact I.hok.fresh (by have:=ownGe x c a1;omega)
  .exact I.freeC x c a1
end
theorem aI5(elt target iter c:Expr)(scope:Scope)(pos:Pos)(it acc:Value)(env:Env) :
  compTurn (.ListComp elt [⟨target,iter,[c],0⟩] scope pos) 0 it acc env=(standAt iter.pos >>= λ_=>pyNext it >>= λr=>match r with
   |none=>pure (.done .next)
   |some v=>letOwnedTupleGo target it v >>= λ_=>assign target env v >>= λ_=>isTrue c env (eval c env) >>= λok=>
    if ok=true then (eval elt env >>= λx=>call (.builtin "list.append") [acc,x] >>= λ_=>again (.compLoop (.ListComp elt [⟨target,iter,[c],0⟩] scope pos) 0 it acc env))
    else again (.compLoop (.ListComp elt [⟨target,iter,[c],0⟩] scope pos) 0 it acc env)):=by
 unfold compTurn;simp[forIn_cons,forIn_nil];rfl
theorem aFw(elt target iter:Expr)(scope:Scope)(pos:Pos)(it acc:Value)(env:Env) :
  compTurn (.ListComp elt [⟨target,iter,[],0⟩] scope pos) 0 it acc env=(standAt iter.pos >>= λ_=>pyNext it >>= λr=>match r with
   |none=>pure (.done .next)
   |some v=>letOwnedTupleGo target it v >>= λ_=>assign target env v >>= λ_=>
    (eval elt env >>= λx=>call (.builtin "list.append") [acc,x] >>= λ_=>again (.compLoop (.ListComp elt [⟨target,iter,[],0⟩] scope pos) 0 it acc env))):=by
 unfold compTurn;simp[forIn_nil];rfl
section
variable{X:Cx}{scope:Scope}{is:List Nat}{elt tg iter:Expr}{pos:Pos}{wi:TI}{g:TG}{te:TE}{tt:TT}
def tLC(is:List Nat)(wi:TI)(g:TG)(tt:TT)(te:TE):TE:=λσ H Q=>wi σ H λJ H1=>∀p,H1 p=none->∃W:Nat->Nat->LSt->List V->Hp->Prop,(∃m,W 0 m (aO7 is σ) [] (upd H1 p (.lst [])))/\
 ∀i m τ vs H,W i m τ vs H->H p=some (.lst vs)/\((J.stop i H/\Q (.ref p) H)\/(J.go i H/\∀x H',J.yld i H x H'->g x τ H' λτ2 H2=>tt τ2 H2 λk H3=>
  if k=true then te τ2 H3 λy H4=>H4 p=some (.lst vs)/\vs.length<sizeLine/\∃m',m' < m/\W (i+1) m' τ2 (vs++[y]) (upd H4 p (.lst (vs++[y]))) else ∃m',m' < m/\W (i+1) m' τ2 vs H3))
theorem aGf{σ5:LSt}{H5:Hp}{s5:Shared}{fp:List Addr} (I:Inv X pins σ H s) (hf:∀b∈fp,aCh X pins H b) (hC:s.heap.objs.size<=C) (J:Inv (cR X scope C s H fp) [] σ5 H5 s5)
  (hs:Heap.SameBut C s5.heap h'):Inv X pins σ H5 {s5 with heap:=h'}:=by
 have hfree:H5 C=none:=J.free;have ne:∀b o,s.heap.get? b=some o->b≠C:=λb o e z=>by
  have:=Heap.lt_size e;subst z;exact absurd (Nat.lt_of_lt_of_le this hC) (Nat.lt_irrefl _)
 have u:Un (frs X.stack) fp H H5 s.heap h':=⟨λb o e n hb hx=>hs.extBut b o (ne b o e) (J.base.keep b o e n hb hx),λb o e n hb hx=>by
   obtain⟨sl,q⟩:=J.base.slot b o e n hb hx;exact⟨sl,hs.extBut b _ (ne b o e) q⟩,J.base.free,λb o e hx=>by
   obtain⟨o',q⟩:=J.base.there b o e hx;exact⟨o',hs.extBut b _ (ne b o e) q⟩,J.base.tups,J.base.frzs,J.base.tbls⟩
 have hok:HOk X.prog X.w H5 h':=λb o e=>by
  refine(J.hok b o e).stay (λc v hc q=>hs.extBut c v ?_ q) (λ_ q=>q) λ_ _ q=>q
  rintro rfl;rcases hc with z|z
  .subst z;rw[hfree]at e;cases e
  .rw[hfree]at z;cases z
 obtain⟨hh,gg,dd,tt,os⟩:=s5;have hos:os=s.os:=J.os;subst hos;have fin:=I.call (h':=h') (g':=gg) (d':=dd) (t':=tt) (ch:=fp) u hok J.bare λb hb=>⟨(hf b hb).2.2.2.1,(hf b hb).2.1,(hf b hb).2.2.2.2.1,(hf b hb).2.2.2.2.2⟩
 exact fin
theorem aKe{p:Addr} {k:Sem α} {Q:α->Shared->Prop} (he:PE Y elt te) (hx:∀e s',Y.xe e s'->E e s') (I:Inv Y pins τ H s) (hw:te τ H λy H4=>H4 p=some (.lst vs)/\vs.length<sizeLine/\∀s',Inv Y pins τ (upd H4 p (.lst (vs++[y]))) s'->wpAny (model Y.prog Y.w) Y.A k Q E s') :
  wpAny (model Y.prog Y.w) Y.A (eval elt Y.env >>= λx=>call (.builtin "list.append") [.ref p,x] >>= λ_=>k) Q E s:=by
 refine wpAny_bind (wpAny_mono (he pins s τ H _ I hw) (λu s1 ⟨y,H4,I4,r4,hp,hz,q⟩=>?_) hx)
 obtain⟨z,its,n,r,hl,e⟩:=I4.lstM hp;refine wpAny_bind (call_meets PySem.F.slot_list_append ⟨_,e,rfl⟩ PySem.F.entry_list_append (PySem.F.args_list_append_2 _ _) (PySem.list_append p its.toArray n u (by rw[List.size_toArray];omega)) ⟨e,?_⟩)
 refine q _ (I4.lset (its':=its++[u]) (t':=s1.toks) hp e (by simp) (r.append (.cons r4 .nil)) ?_)
 rw[length_append,length_singleton];omega
end
theorem aUj{env:Env}{g:TG} {it p:Addr} {fp:List Addr} {tn:Nat->Heap->Prop} {J:It} {R:Result->Shared->Prop} {iterPos:Pos} {rest:Sem Fin}
  (T:Turn Y.prog Y.w Y.K tg J fp it tn) (hc:Y.calm=true) (hE:Y.xe=λ_ _=>False) (hg:PG Y tg g) (hq:(Code.compLoop e 0 (.ref it) (.ref p) Y.env).quiet=true)
  (hden:∀(s:Shared)(Q:Fin->Shared->Prop),wpAny (model Y.prog Y.w) Y.A (pyNext (.ref it) >>= λr=>match r with
    |none=>pure (.done .next)
    |some v=>letOwnedTupleGo tg (.ref it) v >>= λ_=>assign tg Y.env v >>= λ_=>rest) Q (λ_ _=>False) s->
   wpAny (model Y.prog Y.w) (Y.A.under (.compLoop e 0 (.ref it) (.ref p) Y.env)) ((model Y.prog Y.w).den (.compLoop e 0 (.ref it) (.ref p) Y.env)) Q (λ_ _=>False) s)
  (hrest:∀(τ:LSt)(H:Hp)(s:Shared) (pins:List (Addr×Obj)) (vs:List V) (N:Hp->List V->Prop) (Q:Fin->Shared->Prop),Inv Y pins τ H s->
   (tt τ H λk H3=>if k=true then te τ H3 λy H4=>H4 p=some (.lst vs)/\vs.length<sizeLine/\N (upd H4 p (.lst (vs++[y]))) (vs++[y]) else N H3 vs)->
   (∀s' H' ws,Inv Y pins τ H' s'->N H' ws->Q (.again (.compLoop e 0 (.ref it) (.ref p) Y.env)) s')->wpAny (model Y.prog Y.w) Y.A rest Q (λ_ _=>False) s)
  (W:Nat->Nat->LSt->List V->Hp->Prop) {Qe:Hp->Prop}
  (step:∀i m τ vs H,W i m τ vs H->H p=some (.lst vs)/\((J.stop i H/\Qe H)\/(J.go i H/\∀x H',J.yld i H x H'->g x τ H' λτ2 H2=>tt τ2 H2 λk H3=>
   if k=true then te τ2 H3 λy H4=>H4 p=some (.lst vs)/\vs.length<sizeLine/\∃m',m' < m/\W (i+1) m' τ2 (vs++[y]) (upd H4 p (.lst (vs++[y]))) else ∃m',m' < m/\W (i+1) m' τ2 vs H3)))
  (hR:∀τ H s,Inv Y [] τ H s->Qe H->R (.ok .next) s) (I:Inv Y [] τ H s) (st:tn i s.heap) (fr:∀b∈fp,aCh Y [] H b) (w:W i m τ vs H) :
  codeAny (model Y.prog Y.w) Y.A (.compLoop e 0 (.ref it) (.ref p) Y.env) R s:=by
 have stat:∀{H':Hp},(∀b∈fp,H' b=none)->∀b∈fp,aCh Y [] H' b:=λhn b hb=>⟨hn b hb,(fr b hb).2⟩
 refine codeAny_loop hq (λn s'=>∃i τ' vs' H',Inv Y [] τ' H' s'/\tn i s'.heap/\(∀b∈fp,H' b=none)/\W i n τ' vs' H') (λn s3 hI=>?_) m ⟨i,τ,vs,H,I,st,λb hb=>(fr b hb).1,w⟩
 obtain⟨i,τ3,vs3,H3,I3,st3,fr3,w3⟩:=hI;refine wpAny_mono (hden s3 _ ?_) (λ_ _ q=>q) (λ_ _ q=>q.elim)
 obtain⟨hp,hs⟩:=step i n τ3 vs3 H3 w3;rcases hs with ⟨stop,qe⟩|⟨go,hs⟩
 .refine wpAny_bind (thn (T.done Y rfl rfl rfl hc i [] s3 τ3 H3 (λ_ _=>False) I3 (stat fr3) st3 stop) λr s4 ⟨hr,I4⟩=>?_)
  subst hr;exact wpAny_pure (hR τ3 H3 s4 I4 qe)
 .refine wpAny_bind (thn (T.item Y rfl rfl rfl hc i [] s3 τ3 H3 (λ_ _=>False) I3 (stat fr3) st3 go) λr s4 ⟨u,hr,h4⟩=>?_)
  subst hr;refine wpAny_bind (thn h4 λ_ s5 ⟨x,H5,I5,r5,y5,st5,fr5⟩=>?_)
  have I5':=I5.pinned (stat fr5) (T.obj _ _ st5);have hg':=hg _ s5 τ3 H5 x u _ I5' r5 (hs x H5 y5);rw[hE]at hg';refine wpAny_bind (thn hg' λ_ s6 ⟨τ6,H6,I6,q6⟩=>?_)
  refine hrest τ6 H6 s6 _ vs3 (λH' ws=>∃m',m' < n/\W (i+1) m' τ6 ws H') _ I6 q6 λs7 H7 ws I7 ⟨m',hm,w7⟩=>?_
  refine⟨rfl,m',hm,i+1,τ6,ws,H7,I7.unpinned,T.keep _ _ _ st5 λb hb o e=>(I7.pin (b,o) (List.mem_append_right _ (List.mem_append_right _ (wA hb e)))).1,λb hb=>?_,w7⟩
  obtain⟨o,e,d⟩:=T.obj _ _ st5 b hb;exact(I7.pin (b,o) (List.mem_append_right _ (List.mem_append_right _ (wA hb e)))).2.1
section
variable{X:Cx}{scope:Scope}{is:List Nat}{elt tg iter c:Expr}{pos:Pos}{wi:TI}{g:TG}{te:TE}{tt:TT}
theorem vO{use:Option (Value->Sem Unit)} {ppos:Pos} {pins:List (Addr×Obj)} {s:Shared} {H:Hp} {Q:VK} {ifs:List Expr} {rest:Env->Value->Value->Sem Fin} (S:CScope X scope is) (hc:X.calm=true) (hi:L2.PI X tg iter wi) (hg:∀C s₀ H₀ fp,PG (cR X scope C s₀ H₀ fp) tg g)
  (hquiet:∀it acc env,(Code.compLoop (.ListComp elt [⟨tg,iter,ifs,0⟩] scope pos) 0 it acc env).quiet=true)
  (hden:∀C s₀ H₀ fp it p (s:Shared) (Q:Fin->Shared->Prop),wpAny (model X.prog X.w) X.A (pyNext (.ref it) >>= λr=>match r with
    |none=>pure (.done .next)
    |some v=>letOwnedTupleGo tg (.ref it) v >>= λ_=>assign tg (cR X scope C s₀ H₀ fp).env v >>= λ_=>rest (cR X scope C s₀ H₀ fp).env (.ref it) (.ref p)) Q (λ_ _=>False) s->
   wpAny (model X.prog X.w) (X.A.under (.compLoop (.ListComp elt [⟨tg,iter,ifs,0⟩] scope pos) 0 (.ref it) (.ref p) (cR X scope C s₀ H₀ fp).env)) ((model X.prog X.w).den (.compLoop (.ListComp elt [⟨tg,iter,ifs,0⟩] scope pos) 0 (.ref it) (.ref p) (cR X scope C s₀ H₀ fp).env)) Q (λ_ _=>False) s)
  (hrest:∀C s₀ H₀ fp it p (τ:LSt) (H:Hp) (s:Shared) (pins:List (Addr×Obj)) (vs:List V) (N:Hp->List V->Prop) (Q:Fin->Shared->Prop),Inv (cR X scope C s₀ H₀ fp) pins τ H s->
   (tt τ H λk H3=>if k=true then te τ H3 λy H4=>H4 p=some (.lst vs)/\vs.length<sizeLine/\N (upd H4 p (.lst (vs++[y]))) (vs++[y]) else N H3 vs)->
   (∀s' H' ws,Inv (cR X scope C s₀ H₀ fp) pins τ H' s'->N H' ws->Q (.again (.compLoop (.ListComp elt [⟨tg,iter,ifs,0⟩] scope pos) 0 (.ref it) (.ref p) (cR X scope C s₀ H₀ fp).env)) s')->
   wpAny (model X.prog X.w) X.A (rest (cR X scope C s₀ H₀ fp).env (.ref it) (.ref p)) Q (λ_ _=>False) s)
  (hs:∀x,foldedSetIterable iter X.env x=pure x) (I:Inv X pins σ H s) (h:tLC is wi g tt te σ H Q)
  (hfin:∀C p H5 s5 m5 s3 H3 fp τ,s3.heap.objs.size<=C->Inv X pins σ H3 s3->(∀b∈fp,aCh X pins H3 b)->Inv (cR X scope C s3 H3 fp) [] τ H5 s5->s5.heap.Ns C m5->Q (.ref p) H5->compPost (model X.prog X.w) X.A X.xe use Qf (.ref p) C (.ok .next) s5) :
  wpAny (model X.prog X.w) X.A (comprehension (.ListComp elt [⟨tg,iter,ifs,0⟩] scope pos) scope X.env ppos (newList []) false (eval iter X.env) use) Qf X.xe s:=by
 refine wpAny_comprehension_free (use:=use) rfl hs (aJ5 (S.cells I.ok)) S.kind S.names ?_
 refine thn (hi pins s σ H _ I h) λv s1 h1=>thn h1 λitv s2 h2=>?_
 obtain⟨it,fp,tn,J,H2,e,I2,T,st2,f2,hW⟩:=h2;subst e;refine wpAny_newObj_type (aUi λh₁ hns₁ hkp hcl₁=>?_)
 have I3:Inv X pins σ (upd H2 s2.heap.objs.size (.lst [])) {s2 with heap:=s2.heap.push {cls:=.type "list",data:=.seq ([]:List Value).toArray} }:=I2.lnew (t':=s2.toks) .nil (zero_le _)
 obtain⟨W,⟨m,w0⟩,step⟩:=hW s2.heap.objs.size I2.fresh;have hob:∀b∈fp,b<s2.heap.objs.size:=λb hb=>let ⟨o,e,_⟩:=T.obj 0 _ st2 b hb;Heap.lt_size e
 have hfp:∀b∈fp,aCh X pins (upd H2 s2.heap.objs.size (.lst [])) b:=λb hb=>⟨by rw[bQ (Nat.ne_of_lt (hob b hb))];exact(f2 b hb).1,(f2 b hb).2⟩
 have hk:∀b o,(s2.heap.push {cls:=.type "list",data:=.seq ([]:List Value).toArray}).get? b=some o->h₁.get? b=some o:=hkp;have Ic:=aQa (t':=s2.toks) S hc I3 hfp (λb hb=>Nat.lt_of_lt_of_le (hob b hb) (by rw[Heap.size_push];exact le_succ _)) hns₁ hk hcl₁
 have st4:tn 0 h₁:=T.keep 0 _ _ st2 λb _ o e=>hk b o (Heap.get?_push_of_some _ e)
 have fr4:∀b∈fp,aCh (cR X scope _ _ _ fp) [] (upd H2 s2.heap.objs.size (.lst [])) b:=λb hb=>⟨(hfp b hb).1,(Ic.ok.exf b hb).1,Ic.ok.exfs b hb,.inl hb,λx c e=>(Ic.ok.exf b hb).2 x c e,λp hp=>absurd (show p∈([]:List (Addr×Obj)) from hp) (by simp)⟩
 have loop:=aUj (Y:=cR X scope _ _ _ fp) (e:=.ListComp elt [⟨tg,iter,ifs,0⟩] scope pos) (env:=X.env) (iterPos:=pos) T rfl rfl (hg _ _ _ fp) (hquiet _ _ _) (hden _ _ _ fp it s2.heap.objs.size) (hrest _ _ _ fp it s2.heap.objs.size) W step
  (R:=compPost (model X.prog X.w) X.A X.xe use Qf (.ref s2.heap.objs.size) (s2.heap.push {cls:=.type "list",data:=.seq ([]:List Value).toArray}).objs.size) (λτ H5 s5 I5 q5=>by
   obtain⟨m5,hn5,_⟩:=I5.loc;exact hfin _ _ H5 s5 m5 _ _ fp τ (Nat.le_refl _) I3 hfp I5 hn5 q5) Ic st4 fr4 w0
 exact codeAny_compStart_list loop (T.self _ 0 _ _ _ st4 loop)
theorem sV{it acc:Value}:(Code.compLoop e 0 it acc env).quiet=true:=rfl
theorem bIm {it p : Addr}  {Q : Fin -> Shared -> Prop} (h : wpAny (model X.prog X.w) X.A (pyNext (.ref it) >>= fun r => match r with
        |none=>pure (.done .next)
        |some v=>letOwnedTupleGo tg (.ref it) v >>= λ_=>assign tg Y.env v >>= λ_=>(eval elt Y.env >>= λx=>call (.builtin "list.append") [.ref p,x] >>= λ_=>again (.compLoop (.ListComp elt [⟨tg,iter,[],0⟩] scope pos) 0 (.ref it) (.ref p) Y.env))) Q (λ_ _=>False) s) :
      wpAny (model X.prog X.w) (X.A.under (.compLoop (.ListComp elt [⟨tg,iter,[],0⟩] scope pos) 0 (.ref it) (.ref p) Y.env)) ((model X.prog X.w).den (.compLoop (.ListComp elt [⟨tg,iter,[],0⟩] scope pos) 0 (.ref it) (.ref p) Y.env)) Q (λ_ _=>False) s:=by
 show wpAny _ _ ((compTurn (.ListComp elt [⟨tg,iter,[],0⟩] scope pos) 0 (.ref it) (.ref p) Y.env).onRaise (λx=>do noteFrame x Y.env;theTreesLotGoes x)) _ _ s
 refine wpAny_noted ?_
 rw[aFw];exact wpAny_bind (wpAny_standAt (wpAny_mono h (λ_ _ q=>q) λ_ _ q=>q.elim))
theorem bFx {it p : Addr}  {Q : Fin -> Shared -> Prop} (h : wpAny (model X.prog X.w) X.A (pyNext (.ref it) >>= fun r => match r with
        |none=>pure (.done .next)
        |some v=>letOwnedTupleGo tg (.ref it) v >>= λ_=>assign tg Y.env v >>= λ_=>(isTrue c Y.env (eval c Y.env) >>= λok=>if ok=true then (eval elt Y.env >>= λx=>call (.builtin "list.append") [.ref p,x] >>= λ_=>again (.compLoop (.ListComp elt [⟨tg,iter,[c],0⟩] scope pos) 0 (.ref it) (.ref p) Y.env))
          else again (.compLoop (.ListComp elt [⟨tg,iter,[c],0⟩] scope pos) 0 (.ref it) (.ref p) Y.env))) Q (λ_ _=>False) s) :
      wpAny (model X.prog X.w) (X.A.under (.compLoop (.ListComp elt [⟨tg,iter,[c],0⟩] scope pos) 0 (.ref it) (.ref p) Y.env)) ((model X.prog X.w).den (.compLoop (.ListComp elt [⟨tg,iter,[c],0⟩] scope pos) 0 (.ref it) (.ref p) Y.env)) Q (λ_ _=>False) s:=by
 show wpAny _ _ ((compTurn (.ListComp elt [⟨tg,iter,[c],0⟩] scope pos) 0 (.ref it) (.ref p) Y.env).onRaise (λx=>do noteFrame x Y.env;theTreesLotGoes x)) _ _ s
 refine wpAny_noted ?_
 rw[aI5];exact wpAny_bind (wpAny_standAt (wpAny_mono h (λ_ _ q=>q) λ_ _ q=>q.elim))
def aM3:TT:=λ_ H Q=>Q true H
theorem bDb(hY:Y.xe=λ_ _=>False)(he:PE Y elt te){it p:Addr}(τ:LSt)(H:Hp)(s:Shared)(pins:List (Addr×Obj))(vs:List V)(N:Hp->List V->Prop)(Q:Fin->Shared->Prop)(I:Inv Y pins τ H s)
  (h:aM3 τ H λk H3=>if k=true then te τ H3 λy H4=>H4 p=some (.lst vs)/\vs.length<sizeLine/\N (upd H4 p (.lst (vs++[y]))) (vs++[y]) else N H3 vs)
  (mono:∀(Q Q':VK),(∀v H',Q v H'->Q' v H')->te τ H Q->te τ H Q')
  (q:∀s' H' ws,Inv Y pins τ H' s'->N H' ws->Q (.again (.compLoop (.ListComp elt [⟨tg,iter,[],0⟩] scope pos) 0 (.ref it) (.ref p) Y.env)) s') :
  wpAny (model Y.prog Y.w) Y.A (eval elt Y.env >>= λx=>call (.builtin "list.append") [.ref p,x] >>= λ_=>again (.compLoop (.ListComp elt [⟨tg,iter,[],0⟩] scope pos) 0 (.ref it) (.ref p) Y.env)) Q (λ_ _=>False) s:=by
 have h':te τ H λy H4=>H4 p=some (.lst vs)/\vs.length<sizeLine/\N (upd H4 p (.lst (vs++[y]))) (vs++[y]):=h
 exact aKe he (by rw[hY];exact λ_ _ z=>z) I (mono _ _ (λy H4 ⟨a,b,n⟩=>⟨a,b,λs' I'=>wpAny_pure (q s' _ _ I' n)⟩) h')
end
section
variable{K:Frag} {st:PSt}
theorem bBi(is:List Nat):∀st:PSt,(clr is st).length=st.length:=by
 induction is with
 |nil=>exact λ_=>rfl
 |cons i is ih=>intro st;show (clr is (st.set i none)).length=_;rw[ih,length_set]
theorem aGg(is:List Nat):∀(st:PSt)(j:Nat)(x:Sl),(clr is st)[j]?=some (some x)->st[j]?=some (some x)/\j∉is:=by
 induction is with
 |nil=>exact λσ j v h=>⟨h,by simp⟩
 |cons i is ih=>
  intro σ j v h;obtain⟨h1,h2⟩:=ih (σ.set i none) j v h;rw[List.getElem?_set]at h1
  by_cases e:i=j
  .subst e;rw[if_pos rfl]at h1;split at h1<;>cases h1
  .rw[if_neg e]at h1;exact⟨h1,λz=>(List.mem_cons.mp z).elim (λz=>e z.symm) h2⟩
theorem aI6(is:List Nat):∀(σ:LSt)(j:Nat),j∉is->(aO7 is σ)[j]?=σ[j]?:=by
 induction is with
 |nil=>exact λσ j _=>rfl
 |cons i is ih=>
  intro σ j h;show (aO7 is (σ.set i none))[j]?=_;rw[ih _ j λz=>h (mem_cons_of_mem _ z),List.getElem?_set,if_neg (show ¬ i=j from λz=>h (z ▸ mem_cons_self))]
theorem RS.clr(is:List Nat)(r:RS K B A H st σ):RS K B A H (Pu.clr is st) (aO7 is σ) where
 len:=by rw[bBi,aO8,r.len]
 own:=r.own
 dis:=r.dis
 val:=λi d e=>by
  obtain⟨e1,h⟩:=aGg is st i _ e;rw[aI6 is σ i h];exact r.val i d e1
 lst:=λi kk xs e=>by
  obtain⟨e1,h⟩:=aGg is st i _ e;obtain⟨a,o,vs,e2,m,h1,ko,q,u⟩:=r.lst i kk xs e1;refine⟨a,o,vs,by rw[aI6 is σ i h];exact e2,m,h1,ko,q,λj k' ys ej ej2=>?_⟩
  obtain⟨e3,h3⟩:=aGg is st j _ ej;rw[aI6 is σ j h3]at ej2;exact u j k' ys e3 ej2
theorem RS.weaken(r:RS K B A H st σ)(hl:st'.length=st.length)(h:∀(j:Nat)(x:Sl),st'[j]?=some (some x)->st[j]?=some (some x)):RS K B A H st' σ where
 len:=hl.trans r.len
 own:=r.own
 dis:=r.dis
 val:=λi d e=>r.val i d (h i _ e)
 lst:=λi kk xs e=>by
  obtain⟨a,o,vs,e2,m,h1,ko,q,u⟩:=r.lst i kk xs (h i _ e);exact⟨a,o,vs,e2,m,h1,ko,q,λj k' ys ej ej2=>u j k' ys (h j _ ej) ej2⟩
theorem mem_mid{p b:Addr}:b∈A++p::B↔b=p\/b∈A++B:=by
 simp only[List.mem_append,mem_cons];constructor
 .rintro(h|h|h)
  .exact .inr (.inl h)
  .exact .inl h
  .exact .inr (.inr h)
 .rintro(h|h|h)
  .exact .inr (.inl h)
  .exact .inl h
  .exact .inr (.inr h)
theorem aO9{p:Addr}{o:HO}(hp:H p=none):bF (hide (A++B) H) (hide (A++p::B) (upd H p o)):=λb u q=>by
 have q1:=bN _ _ _ _ q;have hb:b∉A++B:=λz=>by rw[iH z]at q;cases q
 have ne:b≠p:=bC q1 hp;rw[cB (show b∉A++p::B from λz=>(mem_mid.mp z).elim ne hb),bQ ne]
 exact q1
theorem RS.grow(r:RS K B A H st σ){p:Addr} (hp:H p=none):RS K (p::B) A (upd H p (.lst vs)) st σ where
 len:=r.len
 own:=λa ha=>by
  by_cases e:a=p
  .subst e;rw[bZ];rfl
  .rw[bQ e];exact r.own a ((mem_mid.mp ha).resolve_left e)
 dis:=λa ha hb=>by
  rcases List.mem_cons.mp hb with rfl|hb
  .exact r.own.free hp (List.mem_append_left _ ha)
  .exact r.dis a ha hb
 val:=λj d' e=>let ⟨u,e1,q⟩:=r.val j d' e;⟨u,e1,q.mono (aO9 hp)⟩
 lst:=λj kk xs e=>by
  obtain⟨a,o,vs',e1,m,h1,ko,q,u⟩:=r.lst j kk xs e;exact⟨a,o,vs',e1,m,by rw[bQ (bC h1 hp)];exact h1,ko,q.mono (aO9 hp),u⟩
theorem RS.put{p:Addr}(r:RS K (p::B) A H st σ):RS K (p::B) A (upd H p (.lst vs)) st σ:=by
 have hh:hide (A++p::B) (upd H p (.lst vs))=hide (A++p::B) H:=aDh (mem_mid.mpr (.inl rfl));refine⟨r.len,λb hb=>?_,r.dis,λj d e=>by rw[hh];exact r.val j d e,λj kk xs e=>?_⟩
 .by_cases e:b=p
  .subst e;rw[bZ];rfl
  .rw[bQ e];exact r.own b hb
 .obtain⟨a,o,vs',e1,m,h1,ko,q,u⟩:=r.lst j kk xs e;refine⟨a,o,vs',e1,m,?_,ko,by rw[hh];exact q,u⟩
  have:a≠p:=λz=>r.dis a m (z ▸ mem_cons_self)
  rw[bQ this];exact h1
end
def aI7(is:List Nat)(t:Tg):Prop:=∀d st s2,t d st=.ok s2->s2.length=st.length/\∀(j:Nat),j∉is->s2[j]?=st[j]?
theorem jW:aI7 [i] (tgN i):=λd st s2 h=>by
 cases h;refine⟨length_set,λj hj=>?_⟩
 rw[List.getElem?_set,if_neg λz=>hj (by simp[z])]
def ndB:List Str->Bool
 |[]=>true
 |x::r=>!r.contains x&&ndB r
theorem bDc:∀{l:List Str},ndB l=true->l.Nodup
 |[],_=>.nil
 |x::r,h=>by
  unfold ndB at h;simp only[and_eq_true,not_eq_true']at h;exact List.nodup_cons.mpr ⟨λz=>by rw[List.contains_iff_mem.mpr z]at h;exact Bool.noConfusion h.1,bDc h.2⟩
def bIn(scope:Scope)(outer:List (Str×NameKind))(N:List Str)(is:List Nat):Bool:=
 scope.kind == .function&&ndB (scope.names.map (·.1))&&scope.names.all (λx=>x.2 !=.free||outer.lookup x.1==some .cell||outer.lookup x.1==some .free) &&
  (List.range N.length).all λi=>(scope.names.lookup (N.getD i "") !=some .local&&scope.names.lookup (N.getD i "") !=some .cell)||is.contains i
theorem CScope.of{is:List Nat}(h:bIn scope X.env.scope.names X.N is=true):CScope X scope is:=by
 unfold bIn at h;simp only[and_eq_true,List.all_eq_true]at h;obtain⟨⟨⟨h1,h0⟩,h2⟩,h3⟩:=h;refine⟨by simpa using h1,bDc h0,λx hx hf=>?_,λi x e hl=>?_⟩
 .have:=h2 x hx;simp only[or_eq_true,bne_iff_ne,ne_eq,beq_iff_eq]at this;rcases this with (z|z)|z
  .exact absurd hf z
  .exact .inl z
  .exact .inr z
 .have hi:i<X.N.length:=(List.getElem?_eq_some_iff.mp e).1;have:=h3 i (List.mem_range.mpr hi);rw[getD_eq_getElem?_getD,e]at this;simp only[getD_some,or_eq_true,and_eq_true,bne_iff_ne,ne_eq]at this;rcases this with ⟨z1,z2⟩|z
  .rcases hl with hl|hl
   .exact absurd hl z1
   .exact absurd hl z2
  .simpa using z
theorem bBj{K:Frag} (Q Q':VK) (m:∀v H',Q v H'->Q' v H') (h:tI K B f τ H Q):tI K B f τ H Q':=
 let ⟨A,st,d,rs,hd,q⟩:=h;⟨A,st,d,rs,hd,λv H' s r=>m v H' (q v H' s r)⟩
def tIx(K:Frag)(f:Ex):TE:=λτ H Q=>∃B,tI K B f τ H Q
def tTx(K:Frag)(f:Ex):TT:=λτ H Q=>∃B,tT K B f τ H Q
def tGx(K:Frag)(t:Tg):TG:=λv τ H Q=>∃B,tG K B t v τ H Q
theorem aXz(h:∀B,PE X e (tI X.K B f)):PE X e (tIx X.K f):=λpins s σ H Q I ⟨B,q⟩=>h B pins s σ H Q I q
theorem bFy(h:∀B,PT X e (tT X.K B f)):PT X e (tTx X.K f):=λpins s σ H Q I ⟨B,q⟩=>h B pins s σ H Q I q
theorem aY0{t:Tg}(h:∀B,PG X e (tG X.K B t)):PG X e (tGx X.K t):=λpins s σ H v u Q I r ⟨B,q⟩=>h B pins s σ H v u Q I r q
theorem zU{K:Frag} (Q Q':VK) (m:∀v H',Q v H'->Q' v H') (h:tIx K f τ H Q):tIx K f τ H Q':=let ⟨B,q⟩:=h;⟨B,bBj Q Q' m q⟩
theorem aOa{K:Frag} {is:List Nat} {t:Tg} {c:Ex} {H:Hp} (hsub:aI7 is t)
  (htt:∀τ H Q,tTx K c τ H Q->tt τ H Q) {st:PSt} (rs:RS K B A H st σ) (hx:it st=.ok xs) (hl:xs.length<=big) (hy:jY t c f (clr is st) xs=.ok ys) {Q:VK}
  (q:∀p vs H1 H',bF H H1->H1 p=none->bF H1 H'->H' p=some (.lst vs)->bH K (hide (A++p::B) H') ys vs->Q (.ref p) H'):tLC is (tIt K B it) (tGx K t) tt (tIx K f) σ H Q:=by
 refine⟨A,st,xs,rs,hx,λJ H1 s1 ito p hp=>?_⟩
 have rs1:=rs.mono s1;refine⟨λi m τ vs H'=>m=xs.length-i/\i<=xs.length/\vs.length<=i/\H' p=some (.lst vs)/\bF H1 H'/\RS K (p::B) A H' (clr is st) τ/\
   ∃ds rest,bH K (hide (A++p::B) H') ds vs/\jY t c f (clr is st) (xs.drop i)=.ok rest/\ds++rest=ys,⟨xs.length,by simp,zero_le _,zero_le _,bZ,cH hp,(rs1.clr is).grow hp,[],ys,.nil,by rw[drop_zero];exact hy,rfl⟩,?_⟩
 rintro i m τ vs H' ⟨rfl,hi,hvl,hpv,s2,rs2,ds,rest,rds,hr,hcat⟩;refine⟨hpv,?_⟩;have mv:∀a,a∈(p::A)++B↔a∈A++p::B:=λa=>by
  rw[mem_mid];exact mem_cons
 have le:Le A H1 (p::A) H':=λb u z=>by
  have z1:=bN _ _ _ _ z;have hb:b∉A:=λw=>by rw[iH w]at z;cases z
  have ne:b≠p:=bC z1 hp;rw[cB (show b∉p::A from λw=>(List.mem_cons.mp w).elim ne hb)]
  exact s2 b u z1
 obtain⟨i1,i2⟩:=ito (p::A) H' le (λa ha=>rs2.own a ((mv a).mp ha)) i
 by_cases hlt:i<xs.length
 .have hd':xs[i]?=some xs[i]:=List.getElem?_eq_getElem hlt;obtain⟨go,yl⟩:=i1 _ hd';rw[List.drop_eq_getElem_cons hlt]at hr;obtain⟨st2,hst2,h5⟩:=R.ok_of hr;obtain⟨cb,hcb,h6⟩:=R.ok_of h5;obtain⟨k,rfl,h7⟩:=rW h6;refine .inr ⟨go,λx H2 y=>?_⟩
  obtain⟨sm3,rx⟩:=yl x H2 y;have hpv:=sm3 _ _ hpv;have s2:=s2.trans sm3;have rs2:=rs2.mono sm3;have rds:=rds.mono (bF.hide sm3);have rx':Rep K (hide (A++p::B) H2) xs[i] x:=rx.mono (lO λa ha=>(mv a).mpr ha)
  obtain⟨sl,sg⟩:=hsub _ _ _ hst2;have back:∀(j:Nat)(z:Sl),(clr is st)[j]?=some (some z)->st2[j]?=some (some z):=λj z ez=>by rw[sg j (aGg is st j z ez).2];exact ez
  refine⟨p::B,A,clr is st,xs[i],st2,rs2,rx',hst2,λτ2 rs3=>htt _ _ _ ⟨p::B,A,st2,k,rs3,hcb,λH3 s3=>?_⟩⟩
  cases k with
  |true=>
   obtain⟨y',hy',h8⟩:=R.ok_of h7;obtain⟨rest',hrest',h9⟩:=R.ok_of h8;cases h9;refine⟨p::B,A,st2,y',rs3.mono s3,hy',λv H4 s4 r4=>⟨s4 _ _ (s3 _ _ hpv),?_,xs.length-(i+1),by omega,rfl,hlt,by rw[length_append,length_singleton];omega,bZ,?_,?_,ds++[y'],rest',?_,hrest',by rw[List.append_assoc];exact hcat⟩⟩
   .have:sizeLine=16777216:=by decide
    have hbg:=pC;omega
   .exact λb u z=>by rw[bQ (bC z hp)];exact s4 _ _ (s3 _ _ (s2 b u z))
   .exact(((rs3.mono s3).mono s4).weaken (by rw[sl]) back).put
   .rw[aDh (mem_mid.mpr (.inl rfl))];exact(rds.mono (bF.hide (s3.trans s4))).append (.cons r4 .nil)
  |false=>exact⟨xs.length-(i+1),by omega,rfl,hlt,by omega,s3 _ _ hpv,s2.trans s3,(rs3.mono s3).weaken (by rw[sl]) back,ds,rest,rds.mono (bF.hide s3),h7,hcat⟩
 .have e:i=xs.length:=by omega
  subst e;rw[List.drop_length]at hr;cases hr;rw[append_nil]at hcat;subst hcat;exact .inl ⟨i2 (Nat.le_refl _),q p vs H1 H' s1 hp s2 hpv rds⟩
section
variable {iter c:Expr} {t:Tg} {u:Ex}
theorem aY1(hY:Y.xe=λ_ _=>False)(he:PE Y elt te)(ht:PT Y c tt){it p:Addr}(τ:LSt)(H:Hp)(s:Shared)(pins:List (Addr×Obj))(vs:List V)(N:Hp->List V->Prop)(Q:Fin->Shared->Prop)(I:Inv Y pins τ H s)
  (h:tt τ H λk H3=>if k=true then te τ H3 λy H4=>H4 p=some (.lst vs)/\vs.length<sizeLine/\N (upd H4 p (.lst (vs++[y]))) (vs++[y]) else N H3 vs)
  (mono:∀H (Q Q':VK),(∀v H',Q v H'->Q' v H')->te τ H Q->te τ H Q')
  (q:∀s' H' ws,Inv Y pins τ H' s'->N H' ws->Q (.again (.compLoop (.ListComp elt [⟨tg,iter,[c],0⟩] scope pos) 0 (.ref it) (.ref p) Y.env)) s') :
  wpAny (model Y.prog Y.w) Y.A (isTrue c Y.env (eval c Y.env) >>= fun ok => if ok = true then (eval elt Y.env >>= fun x => call (.builtin "list.append") [.ref p, x] >>= fun _ => again (.compLoop (.ListComp elt [⟨tg, iter, [c], 0⟩] scope pos) 0 (.ref it) (.ref p) Y.env))
        else again (.compLoop (.ListComp elt [⟨tg,iter,[c],0⟩] scope pos) 0 (.ref it) (.ref p) Y.env)) Q (λ_ _=>False) s:=by
 have ht':=ht pins s τ H _ I h;rw[hY]at ht';refine wpAny_bind (thn ht' λk s1 ⟨H1,I1,q1⟩=>?_)
 cases k with
 |true=>
  rw[if_pos rfl];have q1:te τ H1 λy H4=>H4 p=some (.lst vs)/\vs.length<sizeLine/\N (upd H4 p (.lst (vs++[y]))) (vs++[y]):=q1
  exact aKe he (by rw[hY];exact λ_ _ z=>z) I1 (mono _ _ _ (λy H4 ⟨a,b,n⟩=>⟨a,b,λs' I'=>wpAny_pure (q s' _ _ I' n)⟩) q1)
 |false=>
  rw[if_neg Bool.false_ne_true];exact wpAny_pure (q s1 H1 vs I1 q1)
theorem aM4{Q:VK}{st:PSt} {p:Addr} {H':Hp} (rs:RS X.K B A H st σ) (q:∀v H',bF H H'->Rep X.K (hide (A++B) H') (.lst ys) v->Q v H') (s1:bF H H1) (hp:H1 p=none) (s2:bF H1 H')
  (hv:H' p=some (.lst vs)) (r:bH X.K (hide (A++p::B) H') ys vs):Q (.ref p) H':=
 q _ H' (s1.trans s2) (iG.mpr ⟨p,vs,rfl,SqL.of (by rw[cB ((rs.own.mono s1).free hp)];exact hv),r.mono (lO λa ha=>mem_mid.mpr (.inr ha))⟩)
theorem oN(is:List Nat)(hsub:aI7 is t)(S:CScope X scope is)(hi:L2.PI X tg iter (tIt X.K B it))(hg:∀(B:List Addr)(C:Addr)(s₀:Shared)(H₀:Hp)(fp:List Addr),PG (cR X scope C s₀ H₀ fp) tg (tG X.K B t))
  (he:∀(B:List Addr)(C:Addr)(s₀:Shared)(H₀:Hp)(fp:List Addr),PE (cR X scope C s₀ H₀ fp) elt (tI X.K B f)) (hc:X.calm=true) (hs:∀x,foldedSetIterable iter X.env x=pure x:=by intro _;rfl) :
  PE X (.ListComp elt [⟨tg,iter,[],0⟩] scope pos) (tI X.K B (dF is t it dG f)):=by
 intro pins s σ H Q I h;obtain⟨A,st,d,rs,hd,q⟩:=h;obtain⟨xs,hx,h2⟩:=R.ok_of hd;obtain⟨hl,h3⟩:=aJ h2;obtain⟨ys,hy,h4⟩:=R.ok_of h3;cases h4;rw[eval_ListComp];refine vO (use:=none) (Qf:=EP X pins σ Q) (Q:=Q) (tt:=aM3) (te:=tIx X.K f) (rest:=λenv it p=>eval elt env >>= λx=>call (.builtin "list.append") [p,x] >>= λ_=>again (.compLoop (.ListComp elt [⟨tg,iter,[],0⟩] scope pos) 0 it p env)) S hc hi (λC s₀ H₀ fp=>aY0 λB=>hg B C s₀ H₀ fp) (λ_ _ _=>sV)
  (λC s₀ H₀ fp it p s Q h=>bIm (Y:=cR X scope C s₀ H₀ fp) h) (λC s₀ H₀ fp it p τ H s pins vs N Q I h q=>bDb (Y:=cR X scope C s₀ H₀ fp) rfl (aXz λB=>he B C s₀ H₀ fp) τ H s pins vs N Q I h (λQ Q' m h=>zU Q Q' m h) q) hs I
  (aOa hsub (λτ H Q ⟨B,A,st,k,rs,hk,q⟩=>?_) rs hx hl hy λp vs H1 H' s1 hp s2 hv r=>aM4 rs q s1 hp s2 hv r) λC p H5 s5 m5 s3 H3 fp τ hC I3 hfp I5 hn5 q5=>⟨m5,hn5,λh' hs'=>⟨.ref p,H5,aGf I3 hfp hC I5 hs',rfl,q5⟩⟩
 cases hk;exact q H (bF.refl _)
theorem vP(is:List Nat)(hsub:aI7 is t)(S:CScope X scope is)(hi:L2.PI X tg iter (tIt X.K B it))(hg:∀(B:List Addr)(C:Addr)(s₀:Shared)(H₀:Hp)(fp:List Addr),PG (cR X scope C s₀ H₀ fp) tg (tG X.K B t))
  (ht:∀(B:List Addr)(C:Addr)(s₀:Shared)(H₀:Hp)(fp:List Addr),PT (cR X scope C s₀ H₀ fp) c (tT X.K B u))
  (he:∀(B:List Addr)(C:Addr)(s₀:Shared)(H₀:Hp)(fp:List Addr),PE (cR X scope C s₀ H₀ fp) elt (tI X.K B f)) (hc:X.calm=true) (hs:∀x,foldedSetIterable iter X.env x=pure x:=by intro _;rfl) :
  PE X (.ListComp elt [⟨tg,iter,[c],0⟩] scope pos) (tI X.K B (dF is t it u f)):=by
 intro pins s σ H Q I h;obtain⟨A,st,d,rs,hd,q⟩:=h;obtain⟨xs,hx,h2⟩:=R.ok_of hd;obtain⟨hl,h3⟩:=aJ h2;obtain⟨ys,hy,h4⟩:=R.ok_of h3;cases h4;rw[eval_ListComp];exact vO (use:=none) (Qf:=EP X pins σ Q) (Q:=Q) (tt:=tTx X.K u) (te:=tIx X.K f) (rest:=λenv it p=>isTrue c env (eval c env) >>= λok=>if ok=true then (eval elt env >>= λx=>call (.builtin "list.append") [p,x] >>= λ_=>again (.compLoop (.ListComp elt [⟨tg,iter,[c],0⟩] scope pos) 0 it p env)) else again (.compLoop (.ListComp elt [⟨tg,iter,[c],0⟩] scope pos) 0 it p env)) S hc hi (λC s₀ H₀ fp=>aY0 λB=>hg B C s₀ H₀ fp) (λ_ _ _=>sV)
  (λC s₀ H₀ fp it p s Q h=>bFx (Y:=cR X scope C s₀ H₀ fp) h) (λC s₀ H₀ fp it p τ H s pins vs N Q I h q=>aY1 (Y:=cR X scope C s₀ H₀ fp) rfl (aXz λB=>he B C s₀ H₀ fp) (bFy λB=>ht B C s₀ H₀ fp) τ H s pins vs N Q I h (λ_ Q Q' m h=>zU Q Q' m h) q) hs I
  (aOa hsub (λτ H Q h=>h) rs hx hl hy λp vs H1 H' s1 hp s2 hv r=>aM4 rs q s1 hp s2 hv r) λC p H5 s5 m5 s3 H3 fp τ hC I3 hfp I5 hn5 q5=>⟨m5,hn5,λh' hs'=>⟨.ref p,H5,aGf I3 hfp hC I5 hs',rfl,q5⟩⟩
end
end Pu
namespace Pu
open PySem PySem.Spec PyProof.Rows L2 PySem.SeqAt
section
variable{X:Cx}{pins:List (Addr×Obj)}{σ:LSt}{H:Hp}{s:Shared}
theorem aSj(I:Inv X pins σ H s) {xs ys:List V} (h1:SqL X.K H a xs) (h2:SqT X.K H a ys):False:=by
 obtain⟨its,_,⟨o,n,e,hc,_⟩,_⟩:=I.list h1;obtain⟨its2,_,⟨o2,e2,hc2,_⟩,_⟩:=I.tuple h2;rw[e]at e2;cases e2;rw[hc]at hc2;simp at hc2
mutual
theorem Rep.inj(I:Inv X pins σ H s):∀{x y:D}{v:V},plain x=true->plain y=true->Rep X.K H x v->Rep X.K H y v->x=y
 |x,y,v,px,py,h,h'=>by
  cases x<;>first|(simp at px;done)|skip
  all_goals cases y<;>first|(simp at py;done)|skip
  case tup.tup=>
   obtain⟨a,vs,e,hq,hr⟩:=iM h;obtain⟨a',vs',e',hq',hr'⟩:=iM h';subst e;cases e';cases I.tuple_inj hq hq';rw[bH.inj I (by simpa using px) (by simpa using py) hr hr']
  case lst.lst=>
   obtain⟨a,vs,e,hq,hr⟩:=iG.mp h;obtain⟨a',vs',e',hq',hr'⟩:=iG.mp h';subst e;cases e';cases I.list_inj hq hq';rw[bH.inj I (by simpa using px) (by simpa using py) hr hr']
  case tup.lst=>
   obtain⟨a,vs,e,hq,hr⟩:=iM h;obtain⟨a',vs',e',hq',hr'⟩:=iG.mp h';subst e;cases e';exact(aSj I hq' hq).elim
  case lst.tup=>
   obtain⟨a,vs,e,hq,hr⟩:=iG.mp h;obtain⟨a',vs',e',hq',hr'⟩:=iM h';subst e;cases e';exact(aSj I hq hq').elim
  all_goals simp only[rM,cV,bO,dH,zQ,iG]at h h'
  all_goals first|(obtain⟨_,_,h',_⟩:=h';subst h';cases h;done)|(obtain⟨_,_,h,_⟩:=h;subst h;cases h';done)|(subst h;cases h';first|rfl|done)|(subst h;injection h' with h';injection h' with h';rw[show _=_ by simpa using congrArg Array.toList h'])
theorem bH.inj(I:Inv X pins σ H s):∀{xs ys:List D}{vs:List V},gF xs=true->gF ys=true->bH X.K H xs vs->bH X.K H ys vs->xs=ys
 |[],ys,vs,px,py,h,h'=>by
  have e:=dC.mp h;subst e;cases ys with
  |nil=>rfl
  |cons y ys=>obtain⟨_,_,h',_⟩:=bU.mp h';cases h'
 |x::xs,ys,vs,px,py,h,h'=>by
  obtain⟨v,r,e,h1,h2⟩:=bU.mp h;subst e;cases ys with
  |nil=>exact nomatch dC.mp h'
  |cons y ys=>
   obtain⟨v',r',e',h1',h2'⟩:=bU.mp h';cases e';simp only[qI,and_eq_true]at px py;rw[Rep.inj I px.1 py.1 h1 h1',bH.inj I px.2 py.2 h2 h2']
end
mutual
theorem aOb:∀x:D,plain x=true->eqD x x=true
 |.non,_=>by unfold eqD;rfl
 |.bl b,_=>by unfold eqD;simp
 |.int i,_=>by unfold eqD;simp
 |.str x,_=>by unfold eqD;simp
 |.tup x,h=>by unfold eqD;exact aEn x (by simpa using h)
 |.lst x,h=>by unfold eqD;exact aEn x (by simpa using h)
 |.dct _ _ _,h=>by simp at h
 |.ins _ _ _,h=>by simp at h
 |.exn _ _ _,h=>by simp at h
 |.fn _,h=>by simp at h
theorem aEn:∀x:List D,gF x=true->mH x x=true
 |[],_=>by unfold mH;rfl
 |a::x,h=>by
  simp only[qI,and_eq_true]at h;unfold mH;rw[aOb a h.1,aEn x h.2];rfl
end
def pairE(xs ys:List D)(j:Nat):Bool:=eqD (xs.getD j .non) (ys.getD j .non)
theorem aDn:∀xs ys:List D,((List.range (min xs.length ys.length)).all (pairE xs ys)&&xs.length==ys.length)=mH xs ys
 |[],[]=>by unfold mH;rfl
 |[],_::_=>by unfold mH;simp
 |_::_,[]=>by unfold mH;simp
 |x::xs,y::ys=>by
  have ih:=aDn xs ys;have e:mH (x::xs) (y::ys)=(eqD x y&&mH xs ys):=by conv=>lhs;unfold mH
  rw[e,<-ih];have hm:min (x::xs).length (y::ys).length=min xs.length ys.length+1:=by simp only[length_cons];omega
  rw[hm,List.range_succ_eq_map,List.all_cons,List.all_map];have e1:pairE (x::xs) (y::ys) 0=eqD x y:=rfl;have e2:(pairE (x::xs) (y::ys) ∘ Nat.succ)=pairE xs ys:=rfl;rw[e1,e2,Bool.and_assoc];congr 1;simp
theorem aQb(h:xs.length≠ys.length):mH xs ys=false:=by
 rw[<-aDn];simp[h]
inductive Vw (X:Cx) (H:Hp) (s:Shared):D->Value->Prop
 |non:Vw X H s .non .none
 |bl (b:Bool):Vw X H s (.bl b) (.bool b)
 |int (i:Int) (t:Tok):Vw X H s (.int i) (.int i t)
 |str (x:List Nat) (t:Tok):Vw X H s (.str x) (.str ⟨x.toArray⟩ t)
 |tup {x:List D} {ws:List V} {its:List Value} {l:Addr} (hq:s.heap.IsTuple l its.toArray) (hr:bH X.K H x ws) (hv:Vals ws its):Vw X H s (.tup x) (.ref l)
 |lst {x:List D} {ws:List V} {its:List Value} {l:Addr} (hq:s.heap.IsList l its.toArray) (hr:bH X.K H x ws) (hv:Vals ws its):Vw X H s (.lst x) (.ref l)
theorem Vw.of(I:Inv X pins σ H s){x:D} {a:Value} (h:Rep X.K H x v) (r:RelV v a) (p:plain x=true):Vw X H s x a:=by
 cases x with
 |non=>have e:=rM.mp h;subst e;have e:a=Value.none:=r;subst e;exact .non
 |bl b=>have e:=cV.mp h;subst e;have e:a=Value.bool b:=r;subst e;exact .bl b
 |int i=>have e:=bO.mp h;subst e;obtain⟨t,e⟩:∃t,a=Value.int i t:=r;subst e;exact .int i t
 |str x=>have e:=dH.mp h;subst e;obtain⟨t,e⟩:∃t,a=Value.str ⟨x.toArray⟩ t:=r;subst e;exact .str x t
 |tup x=>obtain⟨l,ws,e,hq,hr⟩:=iM h;subst e;have e:a=Value.ref l:=r;subst e;obtain⟨its,rv,pl,_⟩:=I.tuple hq;exact .tup pl hr rv
 |lst x=>obtain⟨l,ws,e,hq,hr⟩:=iG.mp h;subst e;have e:a=Value.ref l:=r;subst e;obtain⟨its,rv,pl,_⟩:=I.list hq;exact .lst pl.isList hr rv
 |_=>simp at p
theorem bBk{A:Around}{x:D}{a b:Value}{k:Bool}(wa:Vw X H s x a)(wb:Vw X H s y b)(h:RcAt A s a b k)(hs:a=b->k=true):EqAt A s a b k:=λprog w E Q hq=>by
 unfold eqBool;refine wpAny_holding (wpAny_ite_split (λe=>?_) λ_=>?_)
 .rw[hs (eq_of_beq e)]at hq;exact wpAny_bind (wpAny_rule (wpAny_pure hq))
 .cases wa<;>cases wb<;>exact wpAny_bind (h prog w E _ (wpAny_truthy_bool hq))
theorem aY2{u:V}{a:Value}(h:RelV v a)(h':RelV u a):v=u:=by
 cases v<;>(first|subst h|(obtain⟨_,h⟩:=h;subst h)) <;> cases u<;>first|(cases h';done)|(cases h';rfl)|(obtain⟨_,h'⟩:=h';cases h';done)|(obtain⟨_,h'⟩:=h';cases h';rfl)
theorem aOc(x y:List Nat):eqD (.str x) (.str y)=((⟨x.toArray⟩:Str)==⟨y.toArray⟩):=by rw[<-str_beq];unfold eqD;simp
theorem bIo{A:Around}{a b:Value}{k k':Bool}(h:RcAt A s a b k)(e:k=k'):RcAt A s a b k':=e ▸ h
theorem bIp{A:Around}{a b:Value}{k k':Bool}(h:RcNeAt A s a b k)(e:k=k'):RcNeAt A s a b k':=e ▸ h
theorem aOd(I:Inv X pins σ H s){x:D}{A:Around}{u:V}{a b:Value}(ra:Rep X.K H x v)(rb:Rep X.K H y u)(va:RelV v a)(vb:RelV u b)(px:plain x=true)(py:plain y=true)(h:RcAt A s a b (eqD x y)):EqAt A s a b (eqD x y):=
 bBk (Vw.of I ra va px) (Vw.of I rb vb py) h λe=>by rw[Rep.inj I px py ra (aY2 (e ▸ va) vb ▸ rb)];exact aOb y py
mutual
theorem aM5(I:Inv X pins σ H s)(x y:D)(A:Around)(v u:V)(a b:Value)(ra:Rep X.K H x v)(rb:Rep X.K H y u)(va:RelV v a)(vb:RelV u b)(hu:A.units+dep x<cLine)(px:plain x=true)(py:plain y=true):RcAt A s a b (eqD x y)/\RcNeAt A s a b (!eqD x y):=by
 have hu':A.units<cLine:=Nat.lt_of_le_of_lt (Nat.le_add_right _ _) hu;have wa:=Vw.of I ra va px;have wb:=Vw.of I rb vb py;clear ra rb va vb;cases wa<;>cases wb
 case tup.tup x _ i1 _ hq hr hv y _ i2 _ hq' hr' hv'=>
  have hd:dep (.tup x)=oX x+1:=by conv=>lhs;unfold dep
  have:=aEo I x y A.in1 _ _ _ _ hr hr' hv hv' (by show A.units+1+oX x<cLine;omega) (by simpa using px) (by simpa using py)
  have e:eqD (.tup x) (.tup y)=mH x y:=by conv=>lhs;unfold eqD
  rw[e,<-aDn,<-hr.length,<-hr'.length,hv.length,hv'.length,<-List.size_toArray,<-List.size_toArray];exact⟨RcAt.tuples hq hq' hu' λj j1 j2=>by simpa using this j (by simpa using j1) (by simpa using j2),RcNeAt.tuples hq hq' hu' λj j1 j2=>by simpa using this j (by simpa using j1) (by simpa using j2)⟩
 case lst.lst x _ i1 _ hq hr hv y _ i2 _ hq' hr' hv'=>
  have hd:dep (.lst x)=oX x+1:=by conv=>lhs;unfold dep
  have:=aEo I x y A.in1 _ _ _ _ hr hr' hv hv' (by show A.units+1+oX x<cLine;omega) (by simpa using px) (by simpa using py)
  have e:eqD (.lst x) (.lst y)=mH x y:=by conv=>lhs;unfold eqD
  have n1:i1.length=x.length:=by rw[<-hv.length,hr.length]
  have n2:i2.length=y.length:=by rw[<-hv'.length,hr'.length]
  rw[e]
  by_cases hz:i1.length=i2.length
  .rw[show mH x y=(List.range i1.toArray.size).all (pairE x y) by rw[<-aDn,List.size_toArray,n1];simp[show x.length=y.length by omega]]
   exact⟨RcAt.lists hq hq' (by simpa using hz) hu' λj j1 j2=>by simpa using this j (by simpa using j1) (by simpa using j2),RcNeAt.lists hq hq' (by simpa using hz) hu' λj j1 j2=>by simpa using this j (by simpa using j1) (by simpa using j2)⟩
  .rw[aQb (by omega)]
   exact⟨RcAt.lists_lengths hq hq' (by simpa using hz) hu',RcNeAt.lists_lengths hq hq' (by simpa using hz) hu'⟩
 all_goals
  constructor
  .apply bIo
   .with_reducible first|exact RcAt.none_none|exact RcAt.none_bool _|exact RcAt.none_int _ _|exact RcAt.none_str _ _|exact RcAt.none_tuple ‹_› hu'|exact RcAt.none_list ‹_› hu'|exact RcAt.bool_none _|exact RcAt.bool_bool _ _|exact RcAt.bool_int _ _ _|exact RcAt.bool_str _ _ _|exact RcAt.bool_tuple _ ‹_› hu'|exact RcAt.bool_list _ ‹_› hu'|exact RcAt.int_none _ _|exact RcAt.int_bool _ _ _|exact RcAt.int_int _ _ _ _|exact RcAt.int_str _ _ _ _|exact RcAt.int_tuple _ _ ‹_› hu'|exact RcAt.int_list _ _ ‹_› hu'|exact RcAt.str_none _ _|exact RcAt.str_bool _ _ _|exact RcAt.str_int _ _ _ _|exact RcAt.str_str _ _ _ _|exact RcAt.str_tuple _ _ ‹_› hu'|exact RcAt.str_list _ _ ‹_› hu'|exact RcAt.tuple_none ‹_› hu'|exact RcAt.tuple_bool _ ‹_› hu'|exact RcAt.tuple_int _ _ ‹_› hu'|exact RcAt.tuple_str _ _ ‹_› hu'|exact RcAt.tuple_list ‹_› ‹_› hu'|exact RcAt.list_none ‹_› hu'|exact RcAt.list_bool _ ‹_› hu'|exact RcAt.list_int _ _ ‹_› hu'|exact RcAt.list_str _ _ ‹_› hu'|exact RcAt.list_tuple ‹_› ‹_› hu'
   .first|exact(aOc _ _).symm|(unfold eqD;rfl)
  .apply bIp
   .with_reducible first|exact RcNeAt.none_none|exact RcNeAt.none_bool _|exact RcNeAt.none_int _ _|exact RcNeAt.none_str _ _|exact RcNeAt.none_tuple ‹_› hu'|exact RcNeAt.none_list ‹_› hu'|exact RcNeAt.bool_none _|exact RcNeAt.bool_bool _ _|exact RcNeAt.bool_int _ _ _|exact RcNeAt.bool_str _ _ _|exact RcNeAt.bool_tuple _ ‹_› hu'|exact RcNeAt.bool_list _ ‹_› hu'|exact RcNeAt.int_none _ _|exact RcNeAt.int_bool _ _ _|exact RcNeAt.int_int _ _ _ _|exact RcNeAt.int_str _ _ _ _|exact RcNeAt.int_tuple _ _ ‹_› hu'|exact RcNeAt.int_list _ _ ‹_› hu'|exact RcNeAt.str_none _ _|exact RcNeAt.str_bool _ _ _|exact RcNeAt.str_int _ _ _ _|exact RcNeAt.str_str _ _ _ _|exact RcNeAt.str_tuple _ _ ‹_› hu'|exact RcNeAt.str_list _ _ ‹_› hu'|exact RcNeAt.tuple_none ‹_› hu'|exact RcNeAt.tuple_bool _ ‹_› hu'|exact RcNeAt.tuple_int _ _ ‹_› hu'|exact RcNeAt.tuple_str _ _ ‹_› hu'|exact RcNeAt.tuple_list ‹_› ‹_› hu'|exact RcNeAt.list_none ‹_› hu'|exact RcNeAt.list_bool _ ‹_› hu'|exact RcNeAt.list_int _ _ ‹_› hu'|exact RcNeAt.list_str _ _ ‹_› hu'|exact RcNeAt.list_tuple ‹_› ‹_› hu'
   .first|exact congrArg _ (aOc _ _).symm|(unfold eqD;rfl)
theorem aEo(I:Inv X pins σ H s):∀(xs ys:List D)(A:Around)(vs us:List V)(as bs:List Value),bH X.K H xs vs->bH X.K H ys us->Vals vs as->Vals us bs->A.units+oX xs<cLine->gF xs=true->gF ys=true->∀(j:Nat)(h1:j<as.length)(h2:j<bs.length),EqAt A s as[j] bs[j] (pairE xs ys j)
 |[],_,A,vs,us,as,bs,ra,rb,va,vb,hu,px,py,j,h1,h2=>by
  have e:=dC.mp ra;subst e;cases va;exact absurd h1 (not_lt_zero _)
 |x::xs,[],A,vs,us,as,bs,ra,rb,va,vb,hu,px,py,j,h1,h2=>by
  have e:=dC.mp rb;subst e;cases vb;exact absurd h2 (not_lt_zero _)
 |x::xs,y::ys,A,vs,us,as,bs,ra,rb,va,vb,hu,px,py,j,h1,h2=>by
  obtain⟨v,r,e,p1,p2⟩:=bU.mp ra;subst e;obtain⟨u,r',e,q1,q2⟩:=bU.mp rb;subst e;have hd:oX (x::xs)=max (dep x) (oX xs):=by conv=>lhs;unfold oX
  rw[hd]at hu;simp only[qI,and_eq_true]at px py;cases va with
  |cons va vas=>
   cases vb with
   |cons vb vbs=>
    cases j with
    |zero=>exact aOd I p1 q1 va vb px.1 py.1 (aM5 I x y A v u _ _ p1 q1 va vb (by omega) px.1 py.1).1
    |succ j=>exact aEo I xs ys A r r' _ _ p2 q2 vas vbs (by omega) px.2 py.2 j (Nat.lt_of_succ_lt_succ h1) (Nat.lt_of_succ_lt_succ h2)
end
theorem aY3(I:Inv X pins σ H s)(x y:D)(A:Around)(v u:V)(a b:Value)(ra:Rep X.K H x v)(rb:Rep X.K H y u)(va:RelV v a)(vb:RelV u b)(hu:A.units+dep x<cLine)(px:plain x=true)(py:plain y=true):EqAt A s a b (eqD x y):=
 aOd I ra rb va vb px py (aM5 I x y A v u _ _ ra rb va vb hu px py).1
theorem aY4(I:Inv X pins σ H s)(x y:D)(A:Around)(v u:V)(a b:Value)(ra:Rep X.K H x v)(rb:Rep X.K H y u)(va:RelV v a)(vb:RelV u b)(hu:A.units+dep x<cLine)(px:plain x=true)(py:plain y=true):RcAt A s a b (eqD x y):=(aM5 I x y A v u a b ra rb va vb hu px py).1
theorem aY5(I:Inv X pins σ H s)(x y:D)(A:Around)(v u:V)(a b:Value)(ra:Rep X.K H x v)(rb:Rep X.K H y u)(va:RelV v a)(vb:RelV u b)(hu:A.units+dep x<cLine)(px:plain x=true)(py:plain y=true):RcNeAt A s a b (!eqD x y):=(aM5 I x y A v u a b ra rb va vb hu px py).2
end
end Pu
namespace Pu
open PySem PySem.Spec PyProof.Rows L2
section
variable{X:Cx}{B:List Addr}{a b e:Expr}{f g:Ex}{pos:Pos}
theorem lD.rep{K:Frag}{A:List Addr}{H:Hp}{d:D}{v:V}(h:lD K A H d v):Rep K H d v:=by
 rcases h with h|⟨a,k,o,ds,vs,e1,e2,e3,ko,q⟩
 .exact h.mono (bN _ _)
 .subst e1 e2;exact ko.rep e3 (q.mono (bN _ _))
def bBl(K:Frag)(neg:Bool):R2:=λv u H Q=>∃x y,Rep K H x v/\Rep K H y u/\(dep x<=64/\plain x=true/\plain y=true)/\Q (.bl (if neg then !eqD x y else eqD x y)) H
theorem jT(hu:X.A.units+64<cLine):OpR X (compareOp .Eq) (bBl X.K false):=by
 intro pins s σ H v u a b Q I ra rb h;obtain⟨x,y,rx,ry,hd,q⟩:=h;exact aY4 I x y X.A v u a b rx ry ra rb (by omega) hd.2.1 hd.2.2 X.prog X.w X.xe _ ⟨.bl _,H,I,rfl,q⟩
theorem uT(hu:X.A.units+64<cLine):OpR X (compareOp .NotEq) (bBl X.K true):=by
 intro pins s σ H v u a b Q I ra rb h;obtain⟨x,y,rx,ry,hd,q⟩:=h;exact aY5 I x y X.A v u a b rx ry ra rb (by omega) hd.2.1 hd.2.2 X.prog X.w X.xe _ ⟨.bl _,H,I,rfl,q⟩
theorem jU{K:Frag}:vN K (bBl K false) dEq:=by
 intro A H x y d v u Q w rx ry e q;obtain⟨c,e⟩:=aJ e;cases e;exact⟨x,y,rx.rep,ry.rep,c,q _ H (bF.refl _) (cV.mpr rfl)⟩
theorem uU{K:Frag}:vN K (bBl K true) dNe:=by
 intro A H x y d v u Q w rx ry e q;obtain⟨c,e⟩:=aJ e;cases e;exact⟨x,y,rx.rep,ry.rep,c,q _ H (bF.refl _) (cV.mpr rfl)⟩
def tyD:D->String
 |.non=>"NoneType"
 |.bl _=>"bool"
 |.int _=>"int"
 |.str _=>"str"
 |.tup _=>"tuple"
 |.lst _=>"list"
 |.dct _ _ _=>"dict"
 |.ins _ _ _=>""
 |.exn _ _ _=>""
 |.fn _=>""
structure IsT(T:String)(p:D->Bool):Prop where
 boot:bootBuiltins T=some (.type T)
 ans:∀(K:Frag)(d:D),aJ1 d=true->kitOne K (.type (tyD d)) (.type T)=some (p d)
theorem aY6{T:String}{p:D->Bool}(h:IsT T p):mG X (.builtin "isinstance") (λxs H Q=>∃v d,xs=[v,.ty T]/\aJ1 d=true/\Rep X.K H d v/\Q (.bl (p d)) H):=by
 intro pins s σ H xs us Q I r q;obtain⟨v,d,rfl,hbl,rd,q⟩:=q;obtain⟨u,u2,rfl,ru,ru2⟩:=r.two;have e2:u2=Value.type T:=ru2;subst e2;have fin:∀tk,EP X pins σ Q (.bool (p d)) {s with toks:=tk}:=λtk=>⟨.bl (p d),H,I.tok tk,rfl,q⟩
 have e:=h.ans X.K d hbl;cases d with
 |non=>have z:=rM.mp rd;subst z;have z:u=Value.none:=ru;subst z;exact kia_one PySem.W.kitx_none I.kIn True.intro e (λz=>nomatch z) fin
 |bl x=>have z:=cV.mp rd;subst z;have z:u=Value.bool x:=ru;subst z;exact kia_one PySem.W.kitx_bool I.kIn True.intro e (λz=>nomatch z) fin
 |int x=>have z:=bO.mp rd;subst z;obtain⟨t,z⟩:∃t,u=Value.int x t:=ru;subst z;exact kia_one PySem.W.kitx_int I.kIn True.intro e (λz=>nomatch z) fin
 |str x=>have z:=dH.mp rd;subst z;obtain⟨t,z⟩:∃t,u=Value.str ⟨x.toArray⟩ t:=ru;subst z;exact kia_one PySem.W.kitx_str I.kIn True.intro e (λz=>nomatch z) fin
 |tup x=>
  obtain⟨l,vs,z,hq,_⟩:=iM rd;subst z;have z:u=Value.ref l:=ru;subst z;obtain⟨its,_,⟨o,h1,h2,_⟩,_⟩:=I.tuple hq;exact kia_one PySem.W.kitx_tuple I.kIn ⟨o,h1,h2⟩ e (λz=>nomatch z) fin
 |lst x=>
  obtain⟨l,vs,z,hq,_⟩:=iG.mp rd;subst z;have z:u=Value.ref l:=ru;subst z;obtain⟨its,_,⟨o,n,h1,h2,_⟩,_⟩:=I.list hq;exact kia_one PySem.W.kitx_list I.kIn ⟨o,h1,h2⟩ e (λz=>nomatch z) fin
 |dct t ks x=>
  obtain⟨l,vs,z,hq,_⟩:=wL.mp rd;subst z;have z:u=Value.ref l:=ru;subst z;have hd:∃o,s.heap.get? l=some o/\o.ExactDict:=by
   rcases hq with ⟨_,kvs,hq,_⟩|⟨_,kvs,hq,_⟩
   .obtain⟨_,_,vs',_,m⟩:kvs.length<=sizeLine/\(l==sysModules)=false/\∃vs,KV kvs vs/\s.heap.DictOf (fO X.prog X.w) l vs:=I.hok l _ hq;obtain⟨o,es,n,h1,h2,_⟩:=m;exact⟨o,h1,h2⟩
   .obtain⟨_,_,xs,_,o,es,ep,h1,h2,_⟩:=I.hok l _ hq;exact⟨o,h1,h2⟩
  obtain⟨o,h1,h2⟩:=hd;exact kia_one PySem.W.kitx_dict I.kIn ⟨o,h1,h2.1⟩ e (λz=>nomatch z) fin
 |ins _ _ _=>exact nomatch hbl
 |exn _ _ _=>exact nomatch hbl
 |fn _=>exact nomatch hbl
theorem vQ{T:Str}{S:String}{p:D->Bool} (hT:IsT S p) (hm:X.mg "isinstance"=none) (hmT:X.mg T=none) (ha:PE X a (tP X.K B f)) (hST:bootBuiltins T=some (.type S):=by first|rfl|exact hT.boot) (hg:Gl X "isinstance":=by rfl) (hgT:Gl X T:=by rfl) (hnT:T≠"__name__":=by decide) (hdT:(T==("__debug__":Str))=false:=by decide)
  (hs:starEach [a,.Name T p1] X.env=(false,eval a X.env)::starEach [.Name T p1] X.env:=by rfl) (hs2:starEach [.Name T p1] X.env=(false,eval (.Name T p1) X.env)::starEach [] X.env:=by rfl) :
  PE X (.Call (.Name "isinstance" p0) [a,.Name T p1] [] pos) (tI X.K B (eB p f)):=by
 have hTy:PE X (.Name T p1) (tC (.ty S)):=aZc hgT hmT hST rfl hnT hdT;refine cN (qG (aY6 hT) hg hm boot_isinstance (eE ha (eE hTy jG hs2) hs) (he:=hs)) ?_
 rintro σ H Q ⟨A,st,d,rs,hd,q⟩;obtain⟨x,hx,h2⟩:=R.ok_of hd;obtain⟨hbl,h2⟩:=aJ h2;cases h2;exact⟨A,st,x,rs,hx,λv H1 s1 r1=>⟨v,x,rfl,hbl,r1.rep,q _ H1 s1 (cV.mpr rfl)⟩⟩
theorem ty_str:IsT "str" bA2:=⟨rfl,λK d hb=>by cases d<;>first|(cases hb;done)|kernel_rfl⟩
theorem ty_bool:IsT "bool" bEg:=⟨rfl,λK d hb=>by cases d<;>first|(cases hb;done)|kernel_rfl⟩
theorem ty_int:IsT "int" isIn:=⟨rfl,λK d hb=>by cases d<;>first|(cases hb;done)|kernel_rfl⟩
theorem ty_tuple:IsT "tuple" bEh:=⟨rfl,λK d hb=>by cases d<;>first|(cases hb;done)|kernel_rfl⟩
theorem ty_list:IsT "list" aTp:=⟨rfl,λK d hb=>by cases d<;>first|(cases hb;done)|kernel_rfl⟩
theorem aI8(z:List Nat):∀(n:Nat)(acc:List Nat),(List.replicate n z.toArray).foldl (· ++ ·) acc.toArray=(acc++rep n z).toArray
 |0,acc=>by simp[rep]
 |n+1,acc=>by
  rw[List.replicate_succ,foldl_cons];have e:acc.toArray++z.toArray=(acc++z).toArray:=by simp
  rw[e,aI8 z n (acc++z)];unfold rep;rw[List.replicate_succ,flatten_cons,List.append_assoc]
theorem bBm(z:List Nat)(n:Nat):(rep n z).length=n*z.length:=by
 unfold rep
 induction n with
 |zero=>simp
 |succ n ih=>rw[List.replicate_succ,flatten_cons,length_append,ih,succ_mul,Nat.add_comm]
theorem aY7(n:Nat):rep n ([]:List α)=[]:=by
 unfold rep
 induction n with
 |zero=>rfl
 |succ n ih=>rw[List.replicate_succ,flatten_cons,ih];rfl
def bIq:R2:=λx y H Q=>∃(z:List Nat)(k:Int),x=.str ⟨z.toArray⟩/\y=.int k/\z.length*k.toNat<=big/\-4611686018427387904<=k/\k<4611686018427387904/\Q (.str ⟨(rep k.toNat z).toArray⟩) H
theorem bBn:OpR X (binaryOp .Mult) bIq:=by
 intro pins s σ H x y v u Q I rx ry h;obtain⟨z,k,rfl,rfl,hz,h1,h2,q⟩:=h;obtain⟨t,rfl⟩:=rx;obtain⟨t',rfl⟩:=ry;have fin:∀tk t2,EP X pins σ Q (.str ⟨(rep k.toNat z).toArray⟩ t2) {s with toks:=tk}:=λtk t2=>⟨.str ⟨(rep k.toNat z).toArray⟩,H,I.tok tk,⟨t2,rfl⟩,q⟩
 refine PySem.P.mul_str ?_ (λh0 hne=>?_) (λh0 hne=>?_) ?_
 .have e1:¬ k < -(2^63:Int):=by omega
  have e2:¬ k ≥ 2^63:=by omega
  rw[decide_eq_false e1,decide_eq_false e2];rfl
 .rw[str_len];have hk:0<k:=by omega
  have hm:(z.length:Int)*k<=10000000:=by
   have:((z.length*k.toNat:Nat):Int)<=10000000:=by rw[pC]at hz;omega
   rw[Int.natCast_mul,Int.toNat_of_nonneg (by omega)]at this
   exact this
  intro hgt;have:(z.length:Int)<=(2^63-1)/k:=by
   rw[Int.le_ediv_iff_mul_le hk];omega
  omega
 .rw[str_len];unfold Builtin.Str.tooLong
  exact decide_eq_false (by have : sizeLine = 16777216 := by decide
                            have hbg:=pC;omega)
 .by_cases h0:k<1
  .rw[if_pos h0];have e:rep k.toNat z=[]:=by rw[show k.toNat=0 by omega];rfl
   have:=fin (s.toks+1) s.toks;rw[e]at this;exact⟨by decide,this⟩
  .rw[if_neg h0]
   by_cases h3:(k==1||(⟨z.toArray⟩:Str).length==0)=true
   .rw[if_pos h3];have e:rep k.toNat z=z:=by
     simp only[or_eq_true,beq_iff_eq,str_len]at h3;rcases h3 with h3|h3
     .subst h3;show rep 1 z=z;unfold rep;simp
     .rw[List.length_eq_zero_iff.mp h3,aY7]
    have:=fin s.toks t;rw[e]at this;exact this
   .rw[if_neg h3];have e:(List.replicate k.toNat (⟨z.toArray⟩:Str).cps).foldl (· ++ ·) #[]=(rep k.toNat z).toArray:=by
     have:=aI8 z k.toNat [];rw[nil_append]at this;exact this
    have:=fin (s.toks+1) s.toks;rw[e];refine⟨?_,this⟩;rw[str_len,bBm,Nat.mul_comm];exact lim hz
theorem bBo{i j:Int}(c:(-18446744073709551616<i/\i<18446744073709551616)\/(-18446744073709551616<j/\j<18446744073709551616)):aPc i j:=by
 unfold aPc;omega
theorem aY8(ha:PE X a (tP X.K B f))(hb:PE X b (tP X.K B g)):PE X (.BinOp a .Mult b pos) (tI X.K B (e2 aPn f g)):=by
 refine aFv (aVj.or bBn) ?_ ha hb;intro A H x y d v u Q w rx ry e q;cases x<;>cases y<;>first|(cases e;done)|skip
 .obtain⟨c,e⟩:=aJ e;cases e;exact .inl ⟨_,_,rx.int,ry.int,bBo c,q _ H (bF.refl _) (bO.mpr rfl)⟩
 .obtain⟨c,e⟩:=aJ e;cases e;exact .inr ⟨_,_,rx.str,ry.int,c.1,c.2.1,c.2.2,q _ H (bF.refl _) (dH.mpr rfl)⟩
end
end Pu
namespace Pu
open PySem PySem.Spec PyProof.Rows L2 PySem.SeqAt PySem.StrLaws
theorem aQc(x y:List Nat)(i:Nat):Builtin.Str.subAt ⟨x.toArray⟩ ⟨y.toArray⟩ i=((x.drop i).take y.length==y):=by
 rw[subAt_eq];simp[Str.length]
theorem aOe(s sub:Str)(hi:Nat):∀(l:List Nat)(st:Array Nat×Nat),1<=st.1.size->(forIn l st (occBody s sub hi 1)).run.fst=st.1
 |[],st,h=>rfl
 |a::l,st,h=>by
  rw[forIn_cons];unfold occBody;rw[if_neg (λz=>by have:=z.1.1.1;omega)]
  exact aOe s sub hi l (st.1,st.2) h
theorem aOf(s sub:Str)(hi:Nat):∀(l:List Nat)(free:Nat),(∀i∈l,free<=i)->
  (forIn l ((#[]:Array Nat),free) (occBody s sub hi 1)).run.fst.toList=(l.find? λi=>decide (i+sub.length<=hi)&&Builtin.Str.subAt s sub i).toList
 |[],free,_=>rfl
 |a::l,free,hf=>by
  rw[forIn_cons];have ha:free<=a:=hf a mem_cons_self
  by_cases hc:a+sub.length<=hi/\Builtin.Str.subAt s sub a=true
  .have e:(decide (a+sub.length<=hi)&&Builtin.Str.subAt s sub a)=true:=by rw[hc.2,decide_eq_true hc.1];rfl
   rw[List.find?_cons_of_pos (p:=λi=>decide (i+sub.length<=hi)&&Builtin.Str.subAt s sub i) e]
   have e2:occBody s sub hi 1 a ((#[]:Array Nat),free)=pure (ForInStep.yield ((#[]:Array Nat).push a,a+sub.length)):=by
    unfold occBody;exact if_pos ⟨⟨⟨by simp,ha⟩,hc.1⟩,hc.2⟩
   rw[e2];show (forIn l (((#[]:Array Nat).push a),a+sub.length) (occBody s sub hi 1)).run.fst.toList=_;rw[aOe s sub hi l _ (by simp)]
   rfl
  .have e:¬ (decide (a+sub.length<=hi)&&Builtin.Str.subAt s sub a)=true:=λz=>hc (by simpa using z)
   rw[List.find?_cons_of_neg (p:=λi=>decide (i+sub.length<=hi)&&Builtin.Str.subAt s sub i) e]
   have e2:occBody s sub hi 1 a ((#[]:Array Nat),free)=pure (ForInStep.yield ((#[]:Array Nat),free)):=by
    unfold occBody;exact if_neg λh=>hc ⟨h.1.2,h.2⟩
   rw[e2];exact aOf s sub hi l free λi hi'=>hf i (mem_cons_of_mem _ hi')
theorem aAn(x y:List Nat)(lo:Nat):Builtin.Str.occurrences ⟨x.toArray⟩ ⟨y.toArray⟩ lo (⟨x.toArray⟩:Str).length 1=(lV x y lo).toList:=by
 rw[occ_eq,aOf _ _ _ _ _ (λi hi=>by simp[List.mem_range']at hi;omega)]
 unfold lV;simp only[aQc,str_len]
theorem bBp(x y:List Nat):Txt.find ⟨x.toArray⟩ ⟨y.toArray⟩=yP (lV x y 0):=by
 unfold Txt.find;rw[aAn];cases lV x y 0<;>rfl
theorem aY9(x y:List Nat)(i:Int)(h:0<=i):Txt.find3 ⟨x.toArray⟩ ⟨y.toArray⟩ i=yP (lV x y i.toNat):=by
 have e:fromIndex (⟨x.toArray⟩:Str).length i=i.toNat:=by unfold fromIndex;rw[if_neg (by omega)];omega
 unfold Txt.find3;rw[e,aAn];cases lV x y i.toNat<;>rfl
theorem oO{α:Type}(p:α->Bool):∀x:List α,x.drop (x.takeWhile p).length=x.dropWhile p
 |[]=>rfl
 |a::x=>by
  cases h:p a with
  |true=>rw[List.takeWhile_cons_of_pos h,List.dropWhile_cons_of_pos h,length_cons,List.drop_succ_cons,oO p x]
  |false=>rw[List.takeWhile_cons_of_neg (by simp[h]),List.dropWhile_cons_of_neg (by simp[h])];rfl
theorem aBi(p:α->Bool)(x:List α):(x.takeWhile p).length+(x.dropWhile p).length=x.length:=by
 rw[<-length_append,List.takeWhile_append_dropWhile]
theorem aYa(x y:List Nat):Txt.stripChars ⟨x.toArray⟩ ⟨y.toArray⟩=⟨(uM x y).toArray⟩:=by
 have hp:(y.toArray.contains:Nat->Bool)=λc=>y.contains c:=by funext c;simp
 have key:Builtin.Str.strSub ⟨x.toArray⟩ (stripLo y.toArray.contains true ⟨x.toArray⟩) (stripHi y.toArray.contains true ⟨x.toArray⟩ (stripLo y.toArray.contains true ⟨x.toArray⟩))=⟨(uM x y).toArray⟩:=by
  unfold stripLo stripHi;rw[hp];simp only[if_true];rw[oO];unfold uM;generalize hq:(λc=>y.contains c)=q
  have l1:=aBi q x;have l2:=aBi q (x.dropWhile q).reverse;rw[List.length_reverse]at l2;unfold Builtin.Str.strSub;simp only[str_len];congr 1;apply ext';rw[Array.toList_extract];simp only[List.toList_toArray,List.extract_eq_take_drop];rw[oO];have e3:((x.dropWhile q).reverse.dropWhile q).reverse=(x.dropWhile q).take ((x.dropWhile q).length-((x.dropWhile q).reverse.takeWhile q).length):=by
   have:(x.dropWhile q).reverse.dropWhile q=(x.dropWhile q).reverse.drop ((x.dropWhile q).reverse.takeWhile q).length:=(oO q _).symm;rw[this,List.drop_reverse,List.reverse_reverse]
  rw[e3];congr 1;omega
 unfold Txt.stripChars Txt.stripBy
 by_cases h:stripSame y.toArray.contains true true ⟨x.toArray⟩=true
 .rw[if_pos h];unfold stripSame at h;rw[and_eq_true,beq_iff_eq,beq_iff_eq]at h;rw[h.2,h.1]at key;rw[<-key];unfold Builtin.Str.strSub;simp[str_len]
 .rw[if_neg h];exact key
section
variable {a b:Expr}
theorem bBq{id:String}{m:Mop}{r:Exs} {q:V->List V->Hp->VK->Prop} (slot:Slot "str" name id) (hty:typeOf (.builtin id)=pure (.type "method_descriptor")) (hm:MtR X id q)
  (hk:∀x xs d,m x xs=.ok d->∃s,x=.str s) (sem:∀(A:List Addr)(H:Hp)(x d:D)(xs:List D)(v:V)(vs:List V)(Q:VK),Own A H->lD X.K A H x v->bH X.K (hide A H) xs vs->m x xs=.ok d->(∀w H',bF H H'->Rep X.K (hide A H') d w->Q w H')->q v vs H Q)
  (ho:PE X o (tP X.K B f)) (ha:PA X (e::es) (tA X.K B r))
  (hbase:attributeBase o name X.env (eval o X.env)=eval o X.env:=by rfl)
  (hfew:((backTo cpos (starEach (e::es) X.env)).all (λx=>!x.1)&&(backToKw cpos (keywordEach [] X.env)).all (λx=>x.1.isSome)
   && decide ((e::es).length+([]:List Keyword).length+(if ([]:List Keyword).isEmpty then 0 else 1)<30))=true:=by rfl)
  (hline:(apos.endLine==cpos.line)=true:=by rfl) (hs:starEach (e::es) X.env=(false,eval e X.env)::starEach es X.env:=by rfl) (hplain:(backTo cpos (starEach es X.env)).any (·.1)=false:=by rfl) :
  PE X (.Call (.Attribute o name apos) (e::es) [] cpos) (tI X.K B (eMt m f r)):=by
 refine cN (aR1 PySem.F.plainAttrs_str slot hty hm ho ha hbase hfew hline hs hplain) ?_
 rintro σ H Q ⟨A,st,d,rs,hd,k⟩;obtain⟨x,hx,h2⟩:=R.ok_of hd;obtain⟨xs,hxs,h3⟩:=R.ok_of h2;obtain⟨s,rfl⟩:=hk x xs d h3;refine⟨A,st,_,rs,hx,λv H1 s1 r1=>⟨?_,A,st,xs,rs.mono s1,hxs,λvs H2 s2 r2=>?_⟩⟩
 .rw[r1.str];rfl
 .exact sem (A++B) H2 _ d xs v vs Q (rs.own.mono (s1.trans s2)) (r1.mono s2) r2 h3 λw H' s' r'=>k w H' (s1.trans (s2.trans s')) r'
theorem aKf{K:Frag} (h:bH K H [d] vs):∃v,vs=[v]/\Rep K H d v:=by
 obtain⟨v,r,rfl,h1,h2⟩:=bU.mp h;rw[dC.mp h2];exact⟨v,rfl,h1⟩
theorem bIr{K:Frag} {e:D} (h:bH K H [d,e] vs):∃v u,vs=[v,u]/\Rep K H d v/\Rep K H e u:=by
 obtain⟨v,r,rfl,h1,h2⟩:=bU.mp h;obtain⟨u,rfl,h3⟩:=aKf h2;exact⟨v,u,rfl,h1,h3⟩
theorem bBr:MtR X "str.find" (λx vs H Q=>∃(s:List Nat),x=.str ⟨s.toArray⟩/\((∃y:List Nat,vs=[.str ⟨y.toArray⟩]/\Q (.int (yP (lV s y 0))) H)\/∃(y:List Nat)(i:Int),vs=[.str ⟨y.toArray⟩,.int i]/\0<=i/\Q (.int (yP (lV s y i.toNat))) H)):=by
 intro pins s σ H x vs v us Q I rx rv h;obtain⟨z,rfl,h⟩:=h;obtain⟨t,rfl⟩:=rx;rcases h with ⟨y,rfl,q⟩|⟨y,i,rfl,hi,q⟩
 .obtain⟨u,rfl,t2,rfl⟩:=rv.one;exact SC.find ⟨.int _,H,I.tok _,⟨_,rfl⟩,by rw[bBp];exact q⟩
 .obtain⟨u,u2,rfl,⟨t2,rfl⟩,⟨t3,rfl⟩⟩:=rv.two;exact SC.find3 ⟨.int _,H,I.tok _,⟨_,rfl⟩,by rw[aY9 _ _ _ hi];exact q⟩
theorem aYb:MtR X "str.index" (λx vs H Q=>∃(s y:List Nat)(i:Nat),x=.str ⟨s.toArray⟩/\vs=[.str ⟨y.toArray⟩]/\lV s y 0=some i/\Q (.int i) H):=by
 intro pins s σ H x vs v us Q I rx rv h;obtain⟨z,y,i,rfl,rfl,hi,q⟩:=h;obtain⟨t,rfl⟩:=rx;obtain⟨u,rfl,t2,rfl⟩:=rv.one;exact SC.index (i:=i) (rest:=[]) (by rw[aAn,hi];rfl) ⟨.int _,H,I.tok _,⟨_,rfl⟩,q⟩
theorem aYc:MtR X "str.strip" (λx vs H Q=>∃(s y:List Nat),x=.str ⟨s.toArray⟩/\vs=[.str ⟨y.toArray⟩]/\s.length<=sizeLine/\Q (.str ⟨(uM s y).toArray⟩) H):=by
 intro pins s σ H x vs v us Q I rx rv h;obtain⟨z,y,rfl,rfl,hz,q⟩:=h;obtain⟨t,rfl⟩:=rx;obtain⟨u,rfl,t2,rfl⟩:=rv.one;exact SC.stripChars (λt' k=>⟨.str ⟨(uM z y).toArray⟩,H,I.tok _,⟨_,by rw[aYa]⟩,q⟩) (by rw[str_len];exact hz)
end
end Pu
namespace Pu
open PySem PySem.Spec PyProof.Rows L2 PySem.SeqAt
section
variable{X:Cx}{B:List Addr}{a b e o:Expr}{f g:Ex}{pos:Pos}{r:Exs}{es:List Expr}{apos cpos:Pos}
theorem bFz(ho:PE X o (tP X.K B f))(ha:PA X (e::es) (tA X.K B r))(hbase:attributeBase o "find" X.env (eval o X.env)=eval o X.env:=by rfl)
  (hfew:((backTo cpos (starEach (e::es) X.env)).all (λx=>!x.1)&&(backToKw cpos (keywordEach [] X.env)).all (λx=>x.1.isSome)
   && decide ((e::es).length+([]:List Keyword).length+(if ([]:List Keyword).isEmpty then 0 else 1)<30))=true:=by rfl)
  (hline:(apos.endLine==cpos.line)=true:=by rfl) (hs:starEach (e::es) X.env=(false,eval e X.env)::starEach es X.env:=by rfl) (hplain:(backTo cpos (starEach es X.env)).any (·.1)=false:=by rfl) :
  PE X (.Call (.Attribute o "find" apos) (e::es) [] cpos) (tI X.K B (eMt aN1 f r)):=by
 refine bBq (m:=aN1) PySem.F.slot_str_find PySem.F.type_str_find bBr (λx xs d h=>?_) (λA H x d xs v vs Q w rx rxs h k=>?_) ho ha hbase hfew hline hs hplain
 .cases x<;>first|exact⟨_,rfl⟩|exact nomatch h
 .unfold aN1 at h;split at h
  .cases h;obtain⟨u,rfl,ru⟩:=aKf rxs;exact⟨_,rx.str,.inl ⟨_,by rw[dH.mp ru],k _ H (bF.refl _) (bO.mpr rfl)⟩⟩
  .obtain⟨c,h⟩:=aJ h;cases h;obtain⟨u,u2,rfl,ru,ru2⟩:=bIr rxs;exact⟨_,rx.str,.inr ⟨_,_,by rw[dH.mp ru,bO.mp ru2],c,k _ H (bF.refl _) (bO.mpr rfl)⟩⟩
  .cases h
theorem aSk(ho:PE X o (tP X.K B f))(ha:PA X (e::es) (tA X.K B r))(hbase:attributeBase o "index" X.env (eval o X.env)=eval o X.env:=by rfl)
  (hfew:((backTo cpos (starEach (e::es) X.env)).all (λx=>!x.1)&&(backToKw cpos (keywordEach [] X.env)).all (λx=>x.1.isSome)
   && decide ((e::es).length+([]:List Keyword).length+(if ([]:List Keyword).isEmpty then 0 else 1)<30))=true:=by rfl)
  (hline:(apos.endLine==cpos.line)=true:=by rfl) (hs:starEach (e::es) X.env=(false,eval e X.env)::starEach es X.env:=by rfl) (hplain:(backTo cpos (starEach es X.env)).any (·.1)=false:=by rfl) :
  PE X (.Call (.Attribute o "index" apos) (e::es) [] cpos) (tI X.K B (eMt aBs f r)):=by
 refine bBq (m:=aBs) PySem.F.slot_str_index PySem.F.type_str_index aYb (λx xs d h=>?_) (λA H x d xs v vs Q w rx rxs h k=>?_) ho ha hbase hfew hline hs hplain
 .cases x<;>first|exact⟨_,rfl⟩|exact nomatch h
 .unfold aBs at h;split at h
  .obtain⟨i,hi,h⟩:=R.ok_of h;cases h;obtain⟨u,rfl,ru⟩:=aKf rxs;exact⟨_,_,i,rx.str,by rw[dH.mp ru],zR hi,k _ H (bF.refl _) (bO.mpr rfl)⟩
  .cases h
theorem bBs(ho:PE X o (tP X.K B f))(ha:PA X (e::es) (tA X.K B r))(hbase:attributeBase o "strip" X.env (eval o X.env)=eval o X.env:=by rfl)
  (hfew:((backTo cpos (starEach (e::es) X.env)).all (λx=>!x.1)&&(backToKw cpos (keywordEach [] X.env)).all (λx=>x.1.isSome)
   && decide ((e::es).length+([]:List Keyword).length+(if ([]:List Keyword).isEmpty then 0 else 1)<30))=true:=by rfl)
  (hline:(apos.endLine==cpos.line)=true:=by rfl) (hs:starEach (e::es) X.env=(false,eval e X.env)::starEach es X.env:=by rfl) (hplain:(backTo cpos (starEach es X.env)).any (·.1)=false:=by rfl) :
  PE X (.Call (.Attribute o "strip" apos) (e::es) [] cpos) (tI X.K B (eMt aGs f r)):=by
 refine bBq (m:=aGs) PySem.F.slot_str_strip PySem.F.type_str_strip aYc (λx xs d h=>?_) (λA H x d xs v vs Q w rx rxs h k=>?_) ho ha hbase hfew hline hs hplain
 .cases x<;>first|exact⟨_,rfl⟩|exact nomatch h
 .unfold aGs at h;split at h
  .obtain⟨c,h⟩:=aJ h;cases h;obtain⟨u,rfl,ru⟩:=aKf rxs;exact⟨_,_,rx.str,by rw[dH.mp ru],lim c,k _ H (bF.refl _) (dH.mpr rfl)⟩
  .cases h
theorem aYd(hm:X.mg "max"=none)(hc:X.calm=true)(ha:PE X a (tP X.K B f))(hb:PE X b (tP X.K B g))(hg:Gl X "max":=by rfl)(hs:starEach [a,b] X.env=(false,eval a X.env)::starEach [b] X.env:=by rfl)
  (hs2:starEach [b] X.env=(false,eval b X.env)::starEach [] X.env:=by rfl) (hpl:(backTo pos (starEach [b] X.env)).any (·.1)=false:=by rfl):PE X (.Call (.Name "max" p0) [a,b] [] pos) (tI X.K B (e2 aN2 f g)):=by
 refine cN (qG (aTb hc) hg hm (by rfl) (eE ha (eE hb jG hs2) hs) (he:=hs) (hpl:=hpl)) ?_
 rintro σ H Q ⟨A,st,d,rs,hd,q⟩;obtain⟨x,hx,h2⟩:=R.ok_of hd;obtain⟨y,hy,h3⟩:=R.ok_of h2;refine⟨A,st,x,rs,hx,λv H1 s1 r1=>⟨A,st,y,rs.mono s1,hy,λu H2 s2 r2=>?_⟩⟩
 unfold aN2 at h3;split at h3
 case h_2=>cases h3
 cases h3;exact⟨_,_,by rw[r1.int,r2.int],q _ H2 (s1.trans s2) (bO.mpr rfl)⟩
theorem xX(ha:PE X a (tP X.K B f)):PE X (.UnaryOp .USub a pos) (tI X.K B (e1 rE f)):=by
 refine cN (bH5 bE3 ha) ?_
 rintro σ H Q ⟨A,st,d,rs,hd,q⟩;obtain⟨x,hx,h2⟩:=R.ok_of hd;refine⟨A,st,x,rs,hx,λv H1 s1 r1=>?_⟩
 cases x<;>first|(cases h2;done)|skip
 cases h2;exact⟨_,r1.int,q _ H1 s1 (bO.mpr rfl)⟩
def bIs(neg:Bool):R2:=λx y H Q=>(y=.non/\Q (.bl (if neg then !decide (x=.non) else decide (x=.non))) H)\/∃c d,x=.bl c/\y=.bl d/\Q (.bl (if neg then !(c==d) else (c==d))) H
theorem aEp:OpR X (compareOp .IsNot) (bIs true):=by
 intro pins s σ H x y v u Q I rx ry h;rcases h with h|⟨c,d,rfl,rfl,q⟩
 .exact aZj pins s σ H x y v u Q I rx ry h
 .cases rx;cases ry;exact isnot_bool ⟨.bl (!(c==d)),H,I,rfl,q⟩
theorem aEq{K:Frag}:vN K (bIs true) aGt:=by
 intro A H x y d v u Q w rx ry e q;cases y<;>first|(cases x<;>(cases e;done))|skip
 .cases e;exact .inl ⟨ry.non,q _ H (bF.refl _) (cV.mpr (by rw[<-bBc rx];rfl))⟩
 .cases x<;>first|(cases e;done)|skip
  cases e;exact .inr ⟨_,_,rx.bl,ry.bl,q _ H (bF.refl _) (cV.mpr rfl)⟩
open Classical in
noncomputable def aB0(K:Frag)(H:Hp)(x:D)(u:Value):Bool:=if ∃d z,Rep K H d z/\RelV z u/\plain d=true/\eqD d x=true then true else false
theorem aSl(I:Inv X pins σ H s){x:D}{z:V} (r:Rep X.K H d z) (rz:RelV z u) (pd:plain d=true):aB0 X.K H x u=eqD d x:=by
 unfold aB0;split
 .rename_i h;obtain⟨d',z',r',rz',pd',e⟩:=h;have:=RelV.inj rz rz';subst this;rw[Rep.inj I pd pd' r r',e]
 .rename_i h;cases hb:eqD d x with
  |false=>rfl
  |true=>exact(h ⟨d,z,r,rz,pd,hb⟩).elim
theorem aI9{pins:List (Addr×Obj)}{σ:LSt}{H:Hp}{s:Shared}(I:Inv X pins σ H s){x:D}:∀{ds:List D}{zs:List V}{us:List Value},bH X.K H ds zs->Vals zs us->gF ds=true->us.any (aB0 X.K H x)=inD x ds
 |[],zs,us,r,v,_=>by
  have e:=dC.mp r;subst e;cases v;rfl
 |d::ds,zs,us,r,v,p=>by
  obtain⟨z,r',e,h1,h2⟩:=bU.mp r;subst e;simp only[qI,and_eq_true]at p;cases v with
  |cons v vs=>
   rw[any_cons,aSl I h1 v p.1,aI9 I h2 vs p.2];unfold inD;rw[any_cons]
theorem aIa{pins:List (Addr×Obj)}{σ:LSt}{H:Hp}{s:Shared}(I:Inv X pins σ H s){A:Around}{x:D}{zx:V}{ux:Value}(rx:Rep X.K H x zx)(vx:RelV zx ux)(px:plain x=true):∀{ds:List D}{zs:List V}{us:List Value},bH X.K H ds zs->Vals zs us->gF ds=true->A.units+oX ds<cLine->∀u∈us,EqAt A s u ux (aB0 X.K H x u)
 |[],zs,us,r,v,_,_=>by
  have e:=dC.mp r;subst e;cases v;exact λu hu=>nomatch hu
 |d::ds,zs,us,r,v,p,hd=>by
  obtain⟨z,r',e,h1,h2⟩:=bU.mp r;subst e;simp only[qI,and_eq_true]at p;rw[aTs]at hd;cases v with
  |cons v vs=>
   intro u hu;rcases List.mem_cons.mp hu with rfl|hu
   .rw[aSl I h1 v p.1];exact aY3 I d x A z zx _ ux h1 rx v vx (by omega) p.1 px
   .exact aIa I rx vx px h2 vs p.2 (by omega) u hu
def bBt(K:Frag)(neg:Bool):R2:=λv u H Q=>(∃a o,u=.ref a/\aAw H a v o/\Q (.bl (if neg then !o.isSome else o.isSome)) H)\/(∃x ds zs p,u=.ref p/\(SqL K H p zs\/SqT K H p zs)/\Rep K H x v/\bH K H ds zs/\oX ds<=60/\plain x=true/\gF ds=true/\Q (.bl (if neg then !inD x ds else inD x ds)) H)\/
 ∃i j:List Nat,v=.str ⟨i.toArray⟩/\u=.str ⟨j.toArray⟩/\Q (.bl (if neg then !(lV j i 0).isSome else (lV j i 0).isSome)) H
theorem some_of(x y:List Nat):(!(Builtin.Str.occurrences ⟨x.toArray⟩ ⟨y.toArray⟩ 0 (⟨x.toArray⟩:Str).length 1).isEmpty)=(lV x y 0).isSome:=by
 rw[aAn];cases lV x y 0<;>rfl
theorem aYe(hu:X.A.units+64<cLine):OpR X (compareOp .In) (bBt X.K false):=by
 intro pins s σ H v u a b Q I ra rb h;rcases h with ⟨p,o,rfl,g,q⟩|⟨x,ds,zs,p,rfl,hq,rx,rds,hd,px,pd,q⟩|⟨i,j,rfl,rfl,q⟩
 .cases rb;exact bJy (by omega) I g ra λs' I'=>⟨.bl _,H,I',rfl,q⟩
 .cases rb;have hin:X.A.in1.units+oX ds<cLine:=by show X.A.units+1+oX ds<cLine;omega
  rcases hq with hq|hq
  .obtain⟨its,r,pl,hz⟩:=I.list hq;refine SeqAt.in_listAt (aB0 X.K H x) pl.isList (λw hw=>aIa I rx ra px rds r pd hin w (by simpa using hw)) ⟨.bl _,H,I,rfl,?_⟩
   rw[show its.toArray.any (aB0 X.K H x)=its.any (aB0 X.K H x) by simp,aI9 I rds r pd]
   exact q
  .obtain⟨its,r,pl,hz⟩:=I.tuple hq;refine SeqAt.in_tupleAt (aB0 X.K H x) pl (λw hw=>aIa I rx ra px rds r pd hin w (by simpa using hw)) ⟨.bl _,H,I,rfl,?_⟩
   rw[show its.toArray.any (aB0 X.K H x)=its.any (aB0 X.K H x) by simp,aI9 I rds r pd]
   exact q
 .refine aTa pins s σ H _ _ a b Q I ra rb ⟨_,_,rfl,rfl,?_⟩;rw[some_of];exact q
theorem aAo(hu:X.A.units+64<cLine):OpR X (compareOp .NotIn) (bBt X.K true):=by
 intro pins s σ H v u a b Q I ra rb h;rcases h with ⟨p,o,rfl,g,q⟩|⟨x,ds,zs,p,rfl,hq,rx,rds,hd,px,pd,q⟩|⟨i,j,rfl,rfl,q⟩
 .cases rb;exact aZx (by omega) I g ra λs' I'=>⟨.bl _,H,I',rfl,q⟩
 .cases rb;have hin:X.A.in1.units+oX ds<cLine:=by show X.A.units+1+oX ds<cLine;omega
  rcases hq with hq|hq
  .obtain⟨its,r,pl,hz⟩:=I.list hq;refine SeqAt.notIn_listAt (aB0 X.K H x) pl.isList (λw hw=>aIa I rx ra px rds r pd hin w (by simpa using hw)) ⟨.bl _,H,I,rfl,?_⟩
   rw[show its.toArray.any (aB0 X.K H x)=its.any (aB0 X.K H x) by simp,aI9 I rds r pd]
   exact q
  .obtain⟨its,r,pl,hz⟩:=I.tuple hq;refine SeqAt.notIn_tupleAt (aB0 X.K H x) pl (λw hw=>aIa I rx ra px rds r pd hin w (by simpa using hw)) ⟨.bl _,H,I,rfl,?_⟩
   rw[show its.toArray.any (aB0 X.K H x)=its.any (aB0 X.K H x) by simp,aI9 I rds r pd]
   exact q
 .refine aKu pins s σ H _ _ a b Q I ra rb ⟨_,_,rfl,rfl,?_⟩;rw[some_of];exact q
theorem aYf{K:Frag}:vN K (bBt K false) dIn:=by
 intro A H x y d v u Q w rx ry e q;unfold dIn at e;split at e
 .obtain⟨c,e⟩:=aJ e;cases e;rename_i t ks ds;have rxr:Rep K H x v:=rx.rep;obtain⟨a,o,e1,g,g1,_⟩:=aGe ry rxr c;exact .inl ⟨a,o,e1,g,by rw[g1];exact q _ H (bF.refl _) (cV.mpr rfl)⟩
 .obtain⟨c,e⟩:=aJ e;cases e;obtain⟨p,zs,h1,h2,h3⟩:=ry.lst;exact .inr (.inl ⟨_,_,zs,p,h1,.inl h2,rx.rep,h3.mono (bN _ _),c.1,c.2.1,c.2.2,q _ H (bF.refl _) (cV.mpr rfl)⟩)
 .obtain⟨c,e⟩:=aJ e;cases e;obtain⟨p,zs,h1,h2,h3⟩:=ry.tup;exact .inr (.inl ⟨_,_,zs,p,h1,.inr h2,rx.rep,h3.mono (bN _ _),c.1,c.2.1,c.2.2,q _ H (bF.refl _) (cV.mpr rfl)⟩)
 .cases e;exact .inr (.inr ⟨_,_,rx.str,ry.str,q _ H (bF.refl _) (cV.mpr rfl)⟩)
 .cases e
theorem aAp{K:Frag}:vN K (bBt K true) wB:=by
 intro A H x y d v u Q w rx ry e q;unfold wB at e;split at e
 .obtain⟨c,e⟩:=aJ e;cases e;rename_i t ks ds;have rxr:Rep K H x v:=rx.rep;obtain⟨a,o,e1,g,g1,_⟩:=aGe ry rxr c;exact .inl ⟨a,o,e1,g,by rw[g1];exact q _ H (bF.refl _) (cV.mpr rfl)⟩
 .obtain⟨c,e⟩:=aJ e;cases e;obtain⟨p,zs,h1,h2,h3⟩:=ry.lst;exact .inr (.inl ⟨_,_,zs,p,h1,.inl h2,rx.rep,h3.mono (bN _ _),c.1,c.2.1,c.2.2,q _ H (bF.refl _) (cV.mpr rfl)⟩)
 .obtain⟨c,e⟩:=aJ e;cases e;obtain⟨p,zs,h1,h2,h3⟩:=ry.tup;exact .inr (.inl ⟨_,_,zs,p,h1,.inr h2,rx.rep,h3.mono (bN _ _),c.1,c.2.1,c.2.2,q _ H (bF.refl _) (cV.mpr rfl)⟩)
 .cases e;exact .inr (.inr ⟨_,_,rx.str,ry.str,q _ H (bF.refl _) (cV.mpr rfl)⟩)
 .cases e
end
end Pu
namespace Pu
open PySem PySem.Spec PyProof.Rows L2
section
variable{X:Cx}{B:List Addr}{a b e:Expr}{f g:Ex}{pos:Pos}
theorem aIb(i:Nat){x:Str} (he:PE X e (tI X.K B f)) (hN:X.N[i]?=some x:=by rfl) (hv:Vis X.env.scope x:=by first|exact Or.inl rfl|exact Or.inr (Or.inl rfl)|exact Or.inr (Or.inr rfl)) (hd:(x==("__debug__":Str))=false:=by decide)
  (hcd:(x==("__classdict__":Str))=false:=by decide) (hbase:attributeBase (.Name x p1) "append" X.env (eval (.Name x p1) X.env)=eval (.Name x p1) X.env:=by rfl)
  (hfew:((backTo cpos (starEach [e] X.env)).all (λx=>!x.1)&&(backToKw cpos (keywordEach [] X.env)).all (λx=>x.1.isSome)
   && decide (([e]:List Expr).length+([]:List Keyword).length+(if ([]:List Keyword).isEmpty then 0 else 1)<30))=true:=by rfl)
  (hline:(apos.endLine==cpos.line)=true:=by rfl) (hs:starEach [e] X.env=(false,eval e X.env)::starEach [] X.env:=by rfl)
  (hsw:swapsWith (.Call (.Attribute (.Name x p1) "append" apos) [e] [] cpos) none pos.line X.env=pure false:=by rfl) :
  PS X (.Expr (.Call (.Attribute (.Name x p1) "append" apos) [e] [] cpos) pos) (tS X.K B (aJ3 i f)):=by
 refine nG (aKr (aR1 PySem.F.plainAttrs_list PySem.F.slot_list_append PySem.F.type_list_append aTj (yL hN hv hd hcd) (eE he jG hs) hbase hfew hline hs rfl) hsw) ?_
 rintro Dn σ H ⟨A,st,r,rs,hr,p⟩;obtain⟨d,hd,h3⟩:=R.ok_of hr;split at h3
 .rename_i xs e1;obtain⟨c,h4⟩:=aJ h3;cases h4;obtain⟨l,o,vs,e2,m,h1,ko,q,u⟩:=rs.lst i _ xs e1;have eo:o=.lst vs:=ko;subst eo;refine⟨.ref l,e2,.inl ⟨rfl,vs,SqL.of h1⟩,A,st,d,rs,hd,λv H' s rv=>?_⟩
  have ql:=q.length;refine⟨l,vs,v,rfl,rfl,s _ _ h1,by rw[ql];rw[pC]at c;exact Nat.lt_of_lt_of_le c (by decide),?_⟩
  obtain⟨w1,w2⟩:=(rs.mono s).write e1 e2 (k1:=.l) (ds:=xs++[d]) (vs':=vs++[v]) rfl ((q.mono (bF.hide s)).append (.cons rv .nil));exact p A _ _ ((Le.of s).trans w2) w1
 .cases h3
theorem aSm(i:Nat) {dp:Pos} (hN:X.N.Nodup) (hi:X.N[i]?=some x:=by rfl) (hx:Loc X.env.scope x:=by first|exact Or.inl rfl|exact Or.inr rfl) (hs:swapsWith (.Dict [] [] dp) (some (.Name x pos')) pos.line X.env=pure false:=by rfl)
  (hf:X.fn x=true\/X.env.scope.names.lookup x=some .local:=by first|exact .inl rfl|exact .inr rfl|assumption):PS X (.Assign [.Name x pos'] (.Dict [] [] dp) pos) (tS X.K B (aW1 i false)):=nG (aKs hN hi hx aVw hs hf) (by
 rintro Dn σ H ⟨A,st,r,rs,hr,p⟩;cases hr;exact λa ha=>p (a::A) _ _ (aM0 ha) (rs.setO (kk:=.d false []) i ha (.inl ⟨rfl,[],rfl,rfl,rfl⟩) .nil))
def bIt:V->V->V->Hp->(Hp->Prop)->Prop:=λo i v H Q=>∃p H',o=.ref p/\aKz H p i v H'/\Q H'
theorem set_dict(hu:X.A.units+64<cLine):bH1 X bIt:=by
 intro pins s σ H o i v ov iv u Q I ro ri rv h;obtain⟨p,H',rfl,g,q⟩:=h;cases ro;exact aTo (by omega) I g ri rv λs' I'=>⟨H',I',q⟩
theorem aM6(hu:X.A.units+64<cLine)(i:Nat) {j:Expr} (hj:PE X j (tI X.K B g)) (he:PE X e (tI X.K B f)) (hN:X.N[i]?=some x:=by rfl) (hv:Vis X.env.scope x:=by first|exact Or.inl rfl|exact Or.inr (Or.inl rfl)|exact Or.inr (Or.inr rfl)) (hd:(x==("__debug__":Str))=false:=by decide)
  (hcd:(x==("__classdict__":Str))=false:=by decide)
  (ha:∀v,assign (.Subscript (.Name x p1) j p2) X.env v=(do
   let ov <- holding [v] (eval (.Name x p1) X.env);let iv <- holding [v,ov] (eval j X.env)
   standAt p2
   holding [v,ov,iv] (setItem ov iv v)
   release [v,ov,iv] []):=by intro _;rfl)
  (hs:swapsWithSole [.Subscript (.Name x p1) j p2] e pos.line X.env=pure false:=by rfl) (hw:swappedStores [.Subscript (.Name x p1) j p2] e X.env=pure none:=by rfl)
  (h1:(assignEach [.Subscript (.Name x p1) j p2] X.env).map (·.2)=[assign (.Subscript (.Name x p1) j p2) X.env]:=by rfl) :
  PS X (.Assign [.Subscript (.Name x p1) j p2] e pos) (tS X.K B (sDPut i g f)):=by
 refine nG (aVf he (bDr (yL hN hv hd hcd) hj (set_dict hu) ha) hs hw h1) ?_
 rintro Dn σ H ⟨A,st,r,rs,hr,p⟩;obtain⟨d,hd,h3⟩:=R.ok_of hr;obtain⟨k,hk,h5⟩:=R.ok_of h3;split at h5
 .rename_i t ks ds e1;obtain⟨c,h6⟩:=aJ h5;cases h6;obtain⟨l,o,vs,e2,m,h1,ko,q,u⟩:=rs.lst i _ _ e1;refine⟨A,st,d,rs,hd,λv H' s rv=>⟨.ref l,e2,A,st,k,rs.mono s,hk,λw H2 s2 rk=>?_⟩⟩
  have hl:H2 l=some o:=(s.trans s2) _ _ h1;have q2:=q.mono (bF.hide (s.trans s2));have rv2:=rv.mono (bF.hide s2);have rk2:Rep X.K H2 k w:=rk.mono (bN _ _);have hlen:ds.length<sizeLine:=by have:=c.2;rw[pC]at this;exact Nat.lt_of_lt_of_le this (by decide)
  have ql:=q.length;rcases ko with ⟨rfl,kvs,rfl,rfl,rfl⟩|⟨rfl,kvs,rfl,rfl,rfl⟩
  .obtain⟨k',e3,e4⟩:=aC5 rk2 c.1;subst e3 e4;obtain⟨z1,z2⟩:=aSf aLy k' v d rv2 kvs ds q2;refine⟨l,_,rfl,aKz.k hl (by rw[length_map]at ql;omega),?_⟩
   obtain⟨w1,w2⟩:=(rs.mono (s.trans s2)).write e1 e2 (k1:=.d false (tL (kvs.map λp=>oK p.1) (oK k'))) (.inl ⟨rfl,putK kvs k' v,rfl,z1,rfl⟩) z2
   exact p A _ _ ((Le.of (s.trans s2)).trans w2) w1
  .obtain⟨k',b,e3,e4,e5⟩:=aFg rk2 c.1;subst e3 e4;obtain⟨z1,z2⟩:=aSf (E:=λl=>D.tup (l.map oK)) aO4 k' v d rv2 kvs ds q2
   refine⟨l,_,rfl,aKz.t hl e5 (by rw[length_map]at ql;omega),?_⟩
   obtain⟨w1,w2⟩:=(rs.mono (s.trans s2)).write e1 e2 (k1:=.d true (tL (kvs.map λp=>D.tup (p.1.map oK)) (.tup (k'.map oK)))) (.inr ⟨rfl,putK kvs k' v,rfl,z1,rfl⟩) z2
   exact p A _ _ ((Le.of (s.trans s2)).trans w2) w1
 .cases h5
theorem bK8{lo hi:Option Expr}{l u:ExO} (ha:PE X a (tP X.K B f)) (hl:PO X lo (tO X.K B l)) (hu:PO X hi (tO X.K B u)):PE X (.Subscript a (.Slice lo hi none p2) pos) (tF X.K B (eSl f l u)):=by
 refine cN (aMu aR0 ha hl hu) ?_
 rintro σ H Q ⟨A,st,d,rs,hd,q⟩;obtain⟨x,hx,h2⟩:=R.ok_of hd;obtain⟨l',hl',h3⟩:=R.ok_of h2;obtain⟨u',hu',h4⟩:=R.ok_of h3;refine⟨A,st,x,rs,hx,λv H1 s1 r1=>⟨A,st,l',rs.mono s1,hl',λH2 s2=>⟨A,st,u',rs.mono (s1.trans s2),hu',λH3 s3=>?_⟩⟩⟩
 have r3:=r1.mono (s2.trans s3);cases x<;>first|(cases h4;done)|skip
 .obtain⟨c,h5⟩:=aJ h4;cases h5
 .cases h4;obtain⟨p,vs,e,h6,r6⟩:=r3.lst;exact⟨p,vs,e,h6,λn hn=>q n _ H3 (s1.trans (s2.trans s3)) hn (aO6 _ _ r6)⟩
theorem bDd(i:Nat){x:Str} (he:PE X e (tF X.K B f)) (hN:X.N[i]?=some x:=by rfl) (hv:Vis X.env.scope x:=by first|exact Or.inl rfl|exact Or.inr (Or.inl rfl)|exact Or.inr (Or.inr rfl)) (hd:(x==("__debug__":Str))=false:=by decide)
  (hcd:(x==("__classdict__":Str))=false:=by decide) (hbase:attributeBase (.Name x p1) "extend" X.env (eval (.Name x p1) X.env)=eval (.Name x p1) X.env:=by rfl)
  (hfew:((backTo cpos (starEach [e] X.env)).all (λx=>!x.1)&&(backToKw cpos (keywordEach [] X.env)).all (λx=>x.1.isSome)
   && decide (([e]:List Expr).length+([]:List Keyword).length+(if ([]:List Keyword).isEmpty then 0 else 1)<30))=true:=by rfl)
  (hline:(apos.endLine==cpos.line)=true:=by rfl) (hs:starEach [e] X.env=(false,eval e X.env)::starEach [] X.env:=by rfl)
  (hsw:swapsWith (.Call (.Attribute (.Name x p1) "extend" apos) [e] [] cpos) none pos.line X.env=pure false:=by rfl) :
  PS X (.Expr (.Call (.Attribute (.Name x p1) "extend" apos) [e] [] cpos) pos) (tS X.K B (aW0 i f)):=by
 refine nG (aKr (aR1 PySem.F.plainAttrs_list PySem.F.slot_list_extend PySem.F.type_list_extend aTk (yL hN hv hd hcd) (eE he jG hs) hbase hfew hline hs rfl) hsw) ?_
 rintro Dn σ H ⟨A,st,r,rs,hr,p⟩;obtain⟨d,hd,h3⟩:=R.ok_of hr;cases d<;>first|(cases h3;done)|skip
 rename_i ys;have h3':(match st[i]? with|some (some (.o .l xs))=>aY (xs.length+ys.length<=big) (R.ok (Fl.nx (st.set i (some (.o .l (xs++ys))))))|_=>.bad)=.ok r:=h3
 split at h3'
 .rename_i xs e1;obtain⟨c,h4⟩:=aJ h3';cases h4;obtain⟨l,o,vs,e2,m,h1,ko,q,u⟩:=rs.lst i _ xs e1;have eo:o=.lst vs:=ko;subst eo;refine⟨.ref l,e2,.inl ⟨rfl,vs,SqL.of h1⟩,A,st,ys,rs,hd,λn zs H' s hn rz=>?_⟩
  have ql:=q.length;have zl:=rz.length;have hl:H' l=some (.lst vs):=s _ _ h1;have ne:l≠n:=bC hl hn;refine⟨l,n,vs,zs,rfl,rfl,by rw[bQ ne];exact hl,bZ,by rw[ql,zl];exact lim c,?_⟩
  have s2:=s.trans (cH (o:=HO.lst zs) hn);obtain⟨w1,w2⟩:=(rs.mono s2).write e1 e2 (k1:=.l) (ds:=xs++ys) (vs':=vs++zs) rfl ((q.mono (bF.hide s2)).append (rz.mono (bF.hide (cH hn))));exact p A _ _ ((Le.of s2).trans w2) w1
 .cases h3'
end
section
open PySem.SeqAt
open PySem.AutoSeq1 (wpAny_loadPart')
open PySem.MeetsSeq PySem.MeetsSeq2 PySem.MeetsSeq3
inductive LexV (A:Around) (s:Shared):List Value->List Value->Bool->Prop where
 |nn:LexV A s [] [] false
 |nc {w:Value} {ws:List Value}:LexV A s [] (w::ws) true
 |cn {v:Value} {vs:List Value}:LexV A s (v::vs) [] false
 |eq {v w:Value} {vs ws:List Value} {b:Bool}:EqAt A s v w true->LexV A s vs ws b->LexV A s (v::vs) (w::ws) b
 |lt {v w:Value} {vs ws:List Value} {b:Bool}:EqAt A s v w false->(∀(prog:Program)(wd:World)(E Q:Value->Shared->Prop),Q (.bool b) s->wpAny (model prog wd) A (richCompare .Lt v w) Q E s)->LexV A s (v::vs) (w::ws) b
end
structure ClsAt(K:Frag)(c:String)(C:Addr):Prop where
 ns:nsIn K mainGlobals (Str.ofString c)=some (some (.ref C))
 cl:Cls K C
theorem wO{a b:String}(h:Str.ofString a=Str.ofString b):a=b:=by
 have h1:(Str.ofString a).cps=(Str.ofString b).cps:=by rw[h]
 rw[Str.ofString_eq_toList,Str.ofString_eq_toList]at h1;have h2:a.toList.map Char.toNat=b.toList.map Char.toNat:=by
  have:=congrArg Array.toList h1;simpa using this
 have inj:∀(x y:List Char),x.map Char.toNat=y.map Char.toNat->x=y:=by
  intro x
  induction x with
  |nil=>intro y h;cases y with|nil=>rfl|cons _ _=>simp at h
  |cons a x ih=>
   intro y h;cases y with
   |nil=>simp at h
   |cons b y=>
    rw[map_cons,map_cons]at h;injection h with h3 h4
    rw[ih y h4];congr 1;exact Char.ext (UInt32.toNat_inj.mp h3)
 exact String.toList_inj.mp (inj _ _ h2)
section
variable{K:Frag}
theorem aIc{f:String}:∀{ns:List String}{ds:List D} {fs:List (Str×V)} {d:D},fs.map (·.1)=ns.map Str.ofString->bH K H ds (fs.map (·.2))->(ns.zip ds).lookup f=some d->∃v,fs.lookup (Str.ofString f)=some v/\Rep K H d v
 |[],ds,fs,d,_,_,h=>by simp at h
 |n::ns,[],fs,d,_,_,h=>by simp at h
 |n::ns,d0::ds,[],d,e,_,h=>by simp at e
 |n::ns,d0::ds,(g,w)::fs,d,e,r,h=>by
  rw[map_cons,map_cons]at e;injection e with e1 e2
  obtain⟨v,r',e3,h1,h2⟩:=bU.mp r;rw[map_cons]at e3;injection e3 with e4 e5
  subst e4 e5;have e1':g=Str.ofString n:=e1;subst e1';rw[zip_cons_cons,lookup_cons]at h;rw[lookup_cons]
  by_cases hf:f=n
  .subst hf;simp only[beq_self_eq_true]at h ⊢;cases h;exact⟨_,rfl,h1⟩
  .have hb:(f==n)=false:=beq_eq_false_iff_ne.mpr hf;have hb2:(Str.ofString f==Str.ofString n)=false:=beq_eq_false_iff_ne.mpr λz=>hf (wO z)
   rw[hb]at h;rw[hb2];exact aIc e2 h2 h
theorem lookup_none{f:String}:∀{ns:List String} {fs:List (Str×V)},fs.map (·.1)=ns.map Str.ofString->f∉ns->fs.lookup (Str.ofString f)=none
 |[],fs,e,_=>by cases fs with|nil=>rfl|cons _ _=>simp at e
 |n::ns,[],e,_=>rfl
 |n::ns,(g,w)::fs,e,h=>by
  rw[map_cons,map_cons]at e;injection e with e1 e2
  have e1':g=Str.ofString n:=e1;subst e1';rw[lookup_cons];have hb2:(Str.ofString f==Str.ofString n)=false:=beq_eq_false_iff_ne.mpr λz=>h (by rw[wO z];exact mem_cons_self)
  rw[hb2];exact lookup_none e2 λz=>h (mem_cons_of_mem _ z)
theorem aOg{f:String}{v:V}:∀{ns:List String} {fs:List (Str×V)},fs.map (·.1)=ns.map Str.ofString->f∉ns->yF (Str.ofString f) v fs=fs++[(Str.ofString f,v)]
 |[],fs,e,_=>by cases fs with|nil=>rfl|cons _ _=>simp at e
 |n::ns,[],e,_=>by simp at e
 |n::ns,(g,w)::fs,e,h=>by
  rw[map_cons,map_cons]at e;injection e with e1 e2
  have e1':g=Str.ofString n:=e1;subst e1';unfold yF;rw[if_neg (λz=>h (by rw[wO z];exact mem_cons_self)),aOg e2 λz=>h (mem_cons_of_mem _ z)]
  rfl
end
section
variable{X:Cx}{B:List Addr}{a b e o:Expr}{f g:Ex}{pos:Pos}
theorem lD.ins{K:Frag}{A:List Addr}{H:Hp}{c:String}{ns:List String}{ds:List D}{v:V}(h:lD K A H (.ins c ns ds) v):∃p C dx fs,v=.ref p/\H p=some (.ins C dx fs)/\nsIn K mainGlobals (Str.ofString c)=some (some (.ref C))/\fs.map (·.1)=ns.map Str.ofString/\bH K (hide A H) ds (fs.map (·.2)):=by
 rcases h with h|⟨p,kk,o,ds',vs,e,e2,h,ko,r⟩
 .obtain⟨p,C,dx,fs,vs,e,q1,q2,q3,q4,r⟩:=aGd.mp h;subst q4;exact⟨p,C,dx,fs,e,bN _ _ _ _ q1,q2,q3,r⟩
 .cases kk<;>cases e;obtain⟨_,C,dx,fs,rfl,q2,q3,rfl⟩:=ko;exact⟨p,C,dx,fs,e2,h,q2,q3,r⟩
theorem mO{f':String} (hc:ClsAt X.K c C) (hn:lX X.K C (Str.ofString f')) (ho:PE X o (tP X.K B f)) (hb:attributeBase o (Str.ofString f') X.env (eval o X.env)=eval o X.env:=by rfl) :
  PE X (.Attribute o (Str.ofString f') pos) (tI X.K B (e1 (fD c f') f)):=by
 refine cN (bE4 ho hb) ?_
 rintro σ H Q ⟨A,st,d,rs,hd,q⟩;obtain⟨x,hx,h2⟩:=R.ok_of hd;refine⟨A,st,x,rs,hx,λv H1 s1 r1=>?_⟩
 cases x<;>first|(cases h2;done)|skip
 obtain⟨e1,h3⟩:=aJ h2;subst e1;obtain⟨p,C',dx,fs,e2,h4,h5,h6,h7⟩:=r1.ins;have:C'=C:=by have z:=h5.symm.trans hc.ns;injection z with z;injection z with z;injection z
 subst this;obtain⟨w,h8,h9⟩:=aIc h6 h7 (zR h3);exact⟨p,C',dx,fs,w,e2,h4,hc.cl,hn,h8,q w H1 s1 h9⟩
structure MethOk(P:Program)(w:World)(K:Frag)(mg:Str->Option Value)(base:Heap)(c m:String)(k np:Nat)(dv:List D)(p:List D->R D):Prop where
 ex:∃(C fa:Addr)(fd:FuncData)(ps:List Str)(dvs:List V)(ds:List Value),ClsAt K c C/\Meth K C (Str.ofString m) fa/\FnOk P w K mg base CX0 k fa fd ps (spI K np p)/\Binds K fd ps ds/\Vals dvs ds/\∀H,bH K H dv dvs
 len:∀ds d,p ds=.ok d->ds.length=np
theorem iZ{m:String}{k:Nat} {r:Exs} (h:MethOk X.prog X.w X.K X.mg X.base c m k np dv p) (hr:Room j X.A) (hk:k<=j) (ho:PE X o (tI X.K B f)) (ha:PA X (e::es) (tA X.K B r))
  (hst:starEach (e::es) X.env=(false,eval e X.env)::starEach es X.env:=by rfl) (hpl:(backTo pos (starEach es X.env)).any (·.1)=false:=by rfl)
  (ht:eval (.Call (.Attribute o (Str.ofString m) apos) (e::es) [] pos) X.env=(do
   let ov <- eval o X.env
   standAt apos.atName
   let (f,first) <- holding [ov] (getMethod ov (Str.ofString m) pl)
   callWith pos f first (backTo pos (starEach (e::es) X.env)) (backToKw pos (keywordEach [] X.env))):=by rfl) :
  PE X (.Call (.Attribute o (Str.ofString m) apos) (e::es) [] pos) (tI X.K B (dU c m p dv f r)):=by
 obtain⟨C,fa,fd,ps,dvs,ds,hc,hm,F,bd,vd,rd⟩:=h.ex;refine cN (aQy (pl:=pl) ho hc.cl hm F (hr.mono hk) bd vd aMx ha hst hpl ht) ?_
 rintro σ H Q ⟨A,st,d,rs,hd,q⟩;obtain⟨x,hx,h2⟩:=R.ok_of hd;obtain⟨xs,hxs,h3⟩:=R.ok_of h2;refine⟨A,st,x,rs,hx,λv H1 s1 r1=>?_⟩
 cases x<;>first|(cases h3;done)|skip
 obtain⟨⟨e1,hn⟩,h4⟩:=aJ h3;subst e1;obtain⟨p',C',dx,fs,e2,h5,h6,h7,h8⟩:=lD.ins (.inl r1);have:C'=C:=by have z:=h6.symm.trans hc.ns;injection z with z;injection z with z;injection z
 subst this;refine⟨p',dx,fs,e2,h5,lookup_none h7 hn,A,st,xs,rs.mono s1,hxs,λvs H2 s2 r2=>?_⟩
 exact⟨A++B,_,d,rs.own.mono (s1.trans s2),.cons (r1.mono (bF.hide s2)) (r2.append (rd _)),h.len _ _ h4,h4,λw H' s' r'=>q w H' (s1.trans (s2.trans s')) r'⟩
def spM(K:Frag)(c:String)(np:Nat)(p:List D->R D):Sp:=λvs H Q _=>∃x ws A C dx ds d,vs=.ref x::ws/\H x=some (.ins C dx [])/\nsIn K mainGlobals (Str.ofString c)=some (some (.ref C))/\Own A H/\x∉A/\bH K (hide (x::A) H) ds ws/\ds.length=np/\p ds=.ok d/\
 ∀H',bF (hide [x] H) H'->Rep K (hide A H') d (.ref x)->Q .non H'
structure MakeOk(P:Program)(w:World)(K:Frag)(mg:Str->Option Value)(base:Heap)(c:String)(k np:Nat)(p:List D->R D):Prop where
 ex:∃(C fa:Addr)(fd:FuncData)(ps:List Str),ClsAt K c C/\Mk K C fa/\FnOk P w K mg base CX0 k fa fd ps (spM K c np p)/\Binds K fd ps []/\mg (Str.ofString c)=some (.ref C)
 len:∀ds d,p ds=.ok d->ds.length=np
theorem aYg{k:Nat} {r:Exs} (h:MakeOk X.prog X.w X.K X.mg X.base c k np p) (hr:Room j X.A) (hk:k+1<=j) (ha:PA X (e::es) (tA X.K B r)) (hg:Gl X (Str.ofString c):=by rfl) (hdb:(Str.ofString c==("__debug__":Str))=false:=by decide)
  (he:starEach (e::es) X.env=(false,eval e X.env)::starEach es X.env:=by rfl) (hpl:(backTo pos (starEach es X.env)).any (·.1)=false:=by rfl):PE X (.Call (.Name (Str.ofString c) p0) (e::es) [] pos) (tI X.K B (aW p r)):=by
 obtain⟨C,fa,fd,ps,hc,M,F,bd,hm⟩:=h.ex;refine cN (aZp M F (hr.mono hk) hg hm bd .nil aMx ha hdb he hpl) ?_
 rintro σ H Q ⟨A,st,d,rs,hd,q⟩;obtain⟨xs,hx,h2⟩:=R.ok_of hd;refine⟨A,st,xs,rs,hx,λvs H1 s1 r1 x dx hx0 hdx hne=>?_⟩
 have w1:=rs.own.mono s1;have hxA:x∉A++B:=w1.free hx0;have e0:∀b u,H1 b=some u->upd (upd H1 dx (.own x)) x (.ins C dx []) b=some u:=λb u z=>by
  rw[bQ (bC z hx0),bQ (bC z hdx)];exact z
 refine⟨x,vs++[],A++B,C,dx,xs,d,rfl,bZ,hc.ns,λb hb=>?_,hxA,?_,h.len _ _ h2,h2,λH' sm rd=>⟨rfl,q _ H' (λb u z=>?_) rd⟩⟩
 .obtain⟨u,z⟩:=Option.isSome_iff_exists.mp (w1 b hb);rw[e0 b u z];rfl
 .rw[append_nil];refine r1.mono λb u z=>?_
  have z1:=bN _ _ _ _ z;have hb:b∉A++B:=λy=>by rw[iH y]at z;cases z
  rw[cB (λy=>(List.mem_cons.mp y).elim (bC z1 hx0) hb)]
  exact e0 b u z1
 .have z1:=s1 _ _ z;exact sm b u (by rw[cB (by simpa using bC z1 hx0)];exact e0 b u z1)
theorem aUk{K:Frag} {ws:List V} {x dx:Addr} (w:Own A H) (hxA:x∉A) (hx:H x=some (.ins C dx [])) (hns:nsIn K mainGlobals (Str.ofString c)=some (some (.ref C))) (r:bH K (hide (x::A) H) ds ws) :
  RS K A [x] H (some (Sl.o (.i x c []) [])::(ds.map (λd=>some (Sl.v d))++List.replicate (N.length-ds.length-1) none)) (L2.start N (.ref x::ws)):=by
 have hl:=r.length;have sh:L2.start N (.ref x::ws)=some (.ref x)::(ws.map some++List.replicate (N.length-ds.length-1) none):=by
  unfold L2.start;rw[map_cons,cons_append,length_cons,hl];congr 2
 rw[sh];have nov:∀(i:Nat)(s:Sl),(ds.map (λd=>some (Sl.v d))++List.replicate (N.length-ds.length-1) none)[i]?=some (some s)->∃d,ds[i]?=some d/\s=.v d:=λi s e=>by
  by_cases hi:i<ds.length
  .rw[List.getElem?_append_left (by simpa using hi),List.getElem?_map,List.getElem?_eq_getElem hi]at e
   simp at e;exact⟨ds[i],List.getElem?_eq_getElem hi,e.symm⟩
  .rw[List.getElem?_append_right (by simpa using hi),List.getElem?_replicate]at e
   split at e<;>simp at e
 refine⟨by simp[hl],λb hb=>?_,λb hb=>by rw[List.mem_singleton.mp hb];exact hxA,λi d e=>?_,λi k xs e=>?_⟩
 .rcases List.mem_append.mp hb with hb|hb
  .rw[List.mem_singleton.mp hb,hx];rfl
  .exact w b hb
 .cases i with
  |zero=>simp at e
  |succ i=>
   rw[getElem?_cons_succ]at e;obtain⟨d',e1,e2⟩:=nov i _ e;cases e2;obtain⟨v,hv,rv⟩:=r.get e1;refine⟨v,?_,rv⟩;have hi:i<ws.length:=(List.getElem?_eq_some_iff.mp hv).1;rw[getElem?_cons_succ,List.getElem?_append_left (by simpa using hi),List.getElem?_map,hv]
   rfl
 .cases i with
  |zero=>
   simp at e;obtain⟨rfl,rfl⟩:=e;refine⟨x,_,[],rfl,List.mem_singleton.mpr rfl,hx,⟨rfl,C,dx,[],rfl,hns,rfl,rfl⟩,.nil,λj k' ys ej _=>?_⟩
   cases j with
   |zero=>rfl
   |succ j=>
    rw[getElem?_cons_succ]at ej;obtain⟨_,_,e2⟩:=nov j _ ej;cases e2
  |succ i=>
   rw[getElem?_cons_succ]at e;obtain⟨_,_,e2⟩:=nov i _ e;cases e2
theorem bBu{K:Frag} {st:Stmt} {f:Addr} {k:Nat} (F:Fun K x qual st f fd) (S:FnScope N ps (aG st)) (c:String) (np n:Nat) (bd:Bd) (hnp:ps.length=np+1) (hn:N.length=n)
  (hb:∀(cdv:Value)(A:Around)(outer:List Env)(s:Shared)(H:Hp)(E:XK)(B:List Addr),Room k (A.deeper (envOfC qual (aG st) s.heap.objs.size f cdv))->
   PSs (aGm CX0 P w K mg base N qual (aG st) f cdv A outer s H E).nox (dO st) (tS K B bd)):FnOk P w K mg base CX0 (k+1) f fd ps (spM K c np (aL3 c np n bd)):=by
 refine F.ok S (λvs H Q E h=>?_) (λcdv A outer s H vs Q E hr h=>?_)
 .obtain⟨y,ws,A,C,dx,ds,d,rfl,_,_,_,_,r,hl,_⟩:=h;rw[length_cons,r.length,hl,hnp]
 .obtain⟨y,ws,A',C,dx,ds,d,rfl,hy,hns,own,hyA,r,hl,hp,q⟩:=h;refine⟨tS K A' bd,hb cdv A outer s H E A' hr,?_⟩;obtain⟨_,h2⟩:=aJ (aR3 hp y);obtain⟨fl,hfl,h3⟩:=R.ok_of h2;have rs:=aUk (N:=N) (c:=c) own hyA hy hns r;rw[hl,hn]at rs;refine⟨[y],_,fl,rs,hfl,?_⟩;cases fl with
  |nx s1=>
   intro A1 σ1 H1 l rs1;have h3':(match (s1[0]?:Option (Option Sl)) with|some (some (.o (.i y' c' ns) xs))=>aY (y'=y) (R.ok (D.ins c' ns xs))|_=>.bad)=.ok d:=h3
   split at h3'
   .rename_i y' c' ns xs e1;obtain⟨rfl,h4⟩:=aJ h3';cases h4;obtain⟨a,o,vs,e2,m,h5,ko,r5,_⟩:=rs1.lst 0 _ _ e1;have ea:a=y':=ko.1;subst ea;refine q H1 (bF.trans (show bF (hide [a] H) (hide A1 H1) from l) (bN _ _)) ?_
    have:=ko.rep (H:=hide A' H1) (ds:=xs) (by rw[cB (rs1.dis a m)];exact h5) (r5.mono (lO λb hb=>List.mem_append_right _ hb))
    exact this
   .cases h3'
  |rt d'=>cases h3
  |bk s1=>cases h3
  |ct s1=>cases h3
theorem aYh(ds:List D)(d:D)(h:aL3 c np n bd ds=.ok d):ds.length=np:=(aJ (aR3 h 0)).1
theorem aM7(i:Nat) {f':String} {value:Expr} (hc:ClsAt X.K c C) (hn:lX X.K C (Str.ofString f')) (he:PE X value (tI X.K B f)) (hN:X.N[i]?=some x:=by rfl) (hv:Vis X.env.scope x:=by first|exact Or.inl rfl|exact Or.inr (Or.inl rfl)|exact Or.inr (Or.inr rfl)) (hd:(x==("__debug__":Str))=false:=by decide)
  (hcd:(x==("__classdict__":Str))=false:=by decide) (hs:swapsWith value (some (.Attribute (.Name x p1) (Str.ofString f') p2)) pos.line X.env=pure false:=by rfl) :
  PS X (.Assign [.Attribute (.Name x p1) (Str.ofString f') p2] value pos) (tS X.K B (aJh i c f' f)):=by
 refine nG (bE5 (yL hN hv hd hcd) he hs) ?_
 rintro Dn σ H ⟨A,st,r,rs,hr,p⟩;obtain⟨d,hd,h3⟩:=R.ok_of hr;split at h3
 .rename_i n c' ns xs e1;obtain⟨⟨ec,hf,hlen⟩,h4⟩:=aJ h3;subst ec;cases h4;obtain⟨l,o,vs,e2,m,h1,ko,q,u⟩:=rs.lst i _ _ e1;obtain⟨el,C',dx,fs,rfl,k1,k2,rfl⟩:=ko;have:C'=C:=by have z:=k1.symm.trans hc.ns;injection z with z;injection z with z;injection z
  subst this;refine⟨A,st,d,rs,hd,λy H1 s1 r1=>⟨.ref l,e2,l,C',dx,fs,rfl,s1 _ _ h1,hc.cl,hn,?_,?_⟩⟩
  .have:=congrArg List.length k2;rw[length_map,length_map]at this;omega
  .rw[aOg k2 hf];obtain⟨w1,w2⟩:=(rs.mono s1).write e1 e2 (k1:=.i n c' (ns++[f'])) (o':=.ins C' dx (fs++[(Str.ofString f',y)])) (ds:=xs++[d]) (vs':=fs.map (·.2)++[y]) ⟨el,C',dx,_,rfl,k1,by rw[List.map_append,List.map_append,k2];rfl,by rw[List.map_append];rfl⟩ ((q.mono (bF.hide s1)).append (.cons r1 .nil))
   exact p A _ _ ((Le.of s1).trans w2) w1
 .cases h3
theorem rN:PS X sm (tS X.K B qQ):=λ_ _ _ _ _ _ ⟨_,_,_,_,h,_⟩=>nomatch h
end
section
variable {iter c:Expr} {t:Tg} {u:Ex}
theorem aKg{H3 H5:Hp}{s3 s5:Shared}{fp:List Addr}{p:Addr}{m5:Str->Option Value} (hN:X.N.Nodup) (hi:X.N[i]?=some x) (hx:Loc X.env.scope x)
  (hf:X.fn x=true\/X.env.scope.names.lookup x=some .local) (hC:s3.heap.objs.size<=C) (I3:Inv X pins σ H3 s3) (hfp:∀b∈fp,aCh X pins H3 b) (I5:Inv (cR X scope C s3 H3 fp) [] τ H5 s5) (hn5:s5.heap.Ns C m5)
  (hQ:∀s',Inv X pins (σ.set i (some (.ref p))) H5 s'->Qf .none s'):compPost (model X.prog X.w) X.A X.xe (some (assign (.Name x px) X.env)) Qf (.ref p) C (.ok .next) s5:=by
 have I5':Inv X pins σ H5 {s5 with heap:=s5.heap}:=aGf I3 hfp hC I5 (.refl ..)
 have lt:∀b o,s3.heap.get? b=some o->C≠b:=λb o e z=>Nat.lt_irrefl _ (Nat.lt_of_lt_of_le (Heap.lt_size (z ▸ e)) hC)
 have hL:C≠X.env.locals:=λz=>Nat.lt_irrefl _ (Nat.lt_of_lt_of_le (z ▸ I3.lt) hC)
 have hc:∀y c,X.env.cells.lookup y=some c->c≠C:=λy c e=>by
  obtain⟨v,o,ho,_⟩:=I3.cell y c e;exact(lt c o ho).symm
 have hp:∀q∈X.pn++pins,q.1≠C:=λq hq=>(lt q.1 q.2 (I3.pin q hq).1).symm
 show wpAny _ X.A (assign (.Name x px) X.env (.ref p)) _ _ _;refine wpAny_assign_Name (aJb (v:=.ref p) I5' hN hi hx rfl (λs6 I6 ⟨a,hs,ha⟩=>?_) hf)
 have hCa:C≠a:=by
  rcases ha with z|z
  .rw[z];exact hL
  .exact(hc x a z).symm
 refine⟨m5,hn5.sameBut hs hCa,λh' hs'=>hQ _ ?_⟩
 exact I6.turned (t':=s6.toks) (λb o hb e=>(hs'.2 b hb).trans e) (show H5 C=none from I5.free) hL (.inr (Nat.le_trans I3.sz hC)) hc hp
theorem aYi(i:Nat){x:Str}{spos:Pos}(is:List Nat)(hsub:aI7 is t)(S:CScope X scope is)(hi:L2.PI X tg iter (tIt X.K B it))(hg:∀(B:List Addr)(C:Addr)(s₀:Shared)(H₀:Hp)(fp:List Addr),PG (cR X scope C s₀ H₀ fp) tg (tG X.K B t))
  (he:∀(B:List Addr)(C:Addr)(s₀:Shared)(H₀:Hp)(fp:List Addr),PE (cR X scope C s₀ H₀ fp) elt (tI X.K B f)) (hc:X.calm=true) (hN:X.N.Nodup) (hi':X.N[i]?=some x:=by rfl) (hx:Loc X.env.scope x:=by first|exact Or.inl rfl|exact Or.inr rfl)
  (hsw:swapsWith (.ListComp elt [⟨tg,iter,[],0⟩] scope pos) (some (.Name x px)) spos.line X.env=pure true:=by rfl)
  (hf:X.fn x=true\/X.env.scope.names.lookup x=some .local:=by first|exact .inl rfl|exact .inr rfl|assumption) (hs:∀x,foldedSetIterable iter X.env x=pure x:=by intro _;rfl) :
  PS X (.Assign [.Name x px] (.ListComp elt [⟨tg,iter,[],0⟩] scope pos) spos) (tS X.K B (cL i (dF is t it dG f))):=by
 intro pins s σ H Dn I h;obtain⟨A,st,r,rs,hr,q⟩:=h;obtain⟨d,hd,h3⟩:=R.ok_of hr;cases h3;obtain⟨xs,hx',h2⟩:=R.ok_of hd;obtain⟨hl,h3⟩:=aJ h2;obtain⟨ys,hy,h4⟩:=R.ok_of h3;cases h4;rw[exec_Assign_Name_used _ _ _ _ hsw];refine wpAny_bind (wpAny_standAt (wpAny_bind ?_));show wpAny _ X.A (do let _ <- comprehension (.ListComp elt [⟨tg,iter,[],0⟩] scope pos) scope X.env _ (newList []) false (eval iter X.env) (some (assign (.Name x px) X.env))) _ _ s
 refine wpAny_bind (wpAny_mono (Q:=λ_ s'=>SP X pins Dn .next s') ?_ (λ_ s' hq=>wpAny_pure (wpAny_pure hq)) λ_ _ e=>e)
 refine vO (use:=some (assign (.Name x px) X.env)) (Qf:=λ_ s'=>SP X pins Dn .next s') (Q:=λv H'=>Dn.nx (σ.set i (some v)) H') (tt:=aM3) (te:=tIx X.K f) (rest:=λenv it p=>eval elt env >>= λx=>call (.builtin "list.append") [p,x] >>= λ_=>again (.compLoop (.ListComp elt [⟨tg,iter,[],0⟩] scope pos) 0 it p env)) S hc hi (λC s₀ H₀ fp=>aY0 λB=>hg B C s₀ H₀ fp) (λ_ _ _=>sV)
  (λC s₀ H₀ fp it p s Q h=>bIm (Y:=cR X scope C s₀ H₀ fp) h) (λC s₀ H₀ fp it p τ H s pins vs N Q I h q=>bDb (Y:=cR X scope C s₀ H₀ fp) rfl (aXz λB=>he B C s₀ H₀ fp) τ H s pins vs N Q I h (λQ Q' m h=>zU Q Q' m h) q) hs I
  (aOa hsub (λτ H Q ⟨B,A,st,k,rs,hk,q⟩=>?_) rs hx' hl hy λp vs H1 H' s1 hp s2 hv r=>aM4 (Q:=λv H'=>Dn.nx (σ.set i (some v)) H') rs (λv H' sm rv=>q A _ H' (Le.of sm) ((rs.mono sm).set i rv)) s1 hp s2 hv r) λC p H5 s5 m5 s3 H3 fp τ hC I3 hfp I5 hn5 q5=>aKg hN hi' hx hf hC I3 hfp I5 hn5 λs' I'=>⟨_,_,I',q5⟩
 cases hk;exact q H (bF.refl _)
theorem aYj(i:Nat){x:Str}{spos:Pos}(is:List Nat)(hsub:aI7 is t)(S:CScope X scope is)(hi:L2.PI X tg iter (tIt X.K B it))(hg:∀(B:List Addr)(C:Addr)(s₀:Shared)(H₀:Hp)(fp:List Addr),PG (cR X scope C s₀ H₀ fp) tg (tG X.K B t))
  (ht:∀(B:List Addr)(C:Addr)(s₀:Shared)(H₀:Hp)(fp:List Addr),PT (cR X scope C s₀ H₀ fp) c (tT X.K B u))
  (he:∀(B:List Addr)(C:Addr)(s₀:Shared)(H₀:Hp)(fp:List Addr),PE (cR X scope C s₀ H₀ fp) elt (tI X.K B f)) (hc:X.calm=true) (hN:X.N.Nodup) (hi':X.N[i]?=some x:=by rfl) (hx:Loc X.env.scope x:=by first|exact Or.inl rfl|exact Or.inr rfl)
  (hsw:swapsWith (.ListComp elt [⟨tg,iter,[c],0⟩] scope pos) (some (.Name x px)) spos.line X.env=pure true:=by rfl)
  (hf:X.fn x=true\/X.env.scope.names.lookup x=some .local:=by first|exact .inl rfl|exact .inr rfl|assumption) (hs:∀x,foldedSetIterable iter X.env x=pure x:=by intro _;rfl) :
  PS X (.Assign [.Name x px] (.ListComp elt [⟨tg,iter,[c],0⟩] scope pos) spos) (tS X.K B (cL i (dF is t it u f))):=by
 intro pins s σ H Dn I h;obtain⟨A,st,r,rs,hr,q⟩:=h;obtain⟨d,hd,h3⟩:=R.ok_of hr;cases h3;obtain⟨xs,hx',h2⟩:=R.ok_of hd;obtain⟨hl,h3⟩:=aJ h2;obtain⟨ys,hy,h4⟩:=R.ok_of h3;cases h4;rw[exec_Assign_Name_used _ _ _ _ hsw];refine wpAny_bind (wpAny_standAt (wpAny_bind ?_));show wpAny _ X.A (do let _ <- comprehension (.ListComp elt [⟨tg,iter,[c],0⟩] scope pos) scope X.env _ (newList []) false (eval iter X.env) (some (assign (.Name x px) X.env))) _ _ s
 refine wpAny_bind (wpAny_mono (Q:=λ_ s'=>SP X pins Dn .next s') ?_ (λ_ s' hq=>wpAny_pure (wpAny_pure hq)) λ_ _ e=>e)
 exact vO (use:=some (assign (.Name x px) X.env)) (Qf:=λ_ s'=>SP X pins Dn .next s') (Q:=λv H'=>Dn.nx (σ.set i (some v)) H') (tt:=tTx X.K u) (te:=tIx X.K f) (rest:=λenv it p=>isTrue c env (eval c env) >>= λok=>if ok=true then (eval elt env >>= λx=>call (.builtin "list.append") [p,x] >>= λ_=>again (.compLoop (.ListComp elt [⟨tg,iter,[c],0⟩] scope pos) 0 it p env)) else again (.compLoop (.ListComp elt [⟨tg,iter,[c],0⟩] scope pos) 0 it p env)) S hc hi (λC s₀ H₀ fp=>aY0 λB=>hg B C s₀ H₀ fp) (λ_ _ _=>sV)
  (λC s₀ H₀ fp it p s Q h=>bFx (Y:=cR X scope C s₀ H₀ fp) h) (λC s₀ H₀ fp it p τ H s pins vs N Q I h q=>aY1 (Y:=cR X scope C s₀ H₀ fp) rfl (aXz λB=>he B C s₀ H₀ fp) (bFy λB=>ht B C s₀ H₀ fp) τ H s pins vs N Q I h (λ_ Q Q' m h=>zU Q Q' m h) q) hs I
  (aOa hsub (λτ H Q h=>h) rs hx' hl hy λp vs H1 H' s1 hp s2 hv r=>aM4 (Q:=λv H'=>Dn.nx (σ.set i (some v)) H') rs (λv H' sm rv=>q A _ H' (Le.of sm) ((rs.mono sm).set i rv)) s1 hp s2 hv r) λC p H5 s5 m5 s3 H3 fp τ hC I3 hfp I5 hn5 q5=>aKg hN hi' hx hf hC I3 hfp I5 hn5 λs' I'=>⟨_,_,I',q5⟩
end
structure FunD(K:Frag)(x qual:Str)(st:Stmt)(dV:Value)(f:Addr)(fd:FuncData):Prop where
 ex:∃(oc:Value)(od:Option Addr)(kV doc pm:Value)(an:Option Addr)(cdv ct:Value) (osl:Array (Option Value)),
  fd=fnOf x qual (fX st) (dO st) (aG st) dV kV doc pm an cdv ct/\K.lookup f=some ⟨oc,od,.func fd,osl⟩/\codeIn K cdv qual=true
 kp:keepIn K (.ref f)=true
section
variable {K:Frag} {st:Stmt} {f:Addr} {k:Nat}
theorem aAq{od an:Option Addr} {kV doc pm cdv ct:Value} (l:K.lookup f=some ⟨oc,od,.func (fnOf x qual (fX st) (dO st) (aG st) dV kV doc pm an cdv ct),osl⟩)
  (c:codeIn K cdv qual=true) (k:keepIn K (.ref f)=true):FunD K x qual st dV f (fnOf x qual (fX st) (dO st) (aG st) dV kV doc pm an cdv ct):=⟨⟨oc,od,kV,doc,pm,an,cdv,ct,osl,rfl,l,c⟩,k⟩
theorem FunD.binds0(F:FunD K x qual st .none f fd)
  (h:∀(kV doc pm:Value)(an:Option Addr)(cdv ct:Value)(us:List Value),us.length=ps.length->bindArgs (fnOf x qual (fX st) (dO st) (aG st) .none kV doc pm an cdv ct) ⟨us,[]⟩=pure (ps.zip us)):Binds K fd ps []:=by
 obtain⟨oc,od,kV,doc,pm,an,cdv,ct,osl,rfl,lk,hcd⟩:=F.ex;exact .all (h kV doc pm an cdv ct)
theorem FunD.binds{o:Obj} {ds:List Value} (F:FunD K x qual st (.ref T) f fd) (hT:K.lookup T=some o) (hd:o.data=.seq items n) (hm:m+ds.length=ps.length)
  (h:∀(kV doc pm:Value)(an:Option Addr)(cdv ct:Value)(us:List Value),us.length=m->∃k:Option (Array Value)->Sem (List (Str×Value)),bindArgs (fnOf x qual (fX st) (dO st) (aG st) (.ref T) kV doc pm an cdv ct) ⟨us,[]⟩=seqItems? (.ref T) >>= k/\k (some items)=pure (ps.zip (us++ds))):Binds K fd ps ds:=by
 obtain⟨oc,od,kV,doc,pm,an,cdv,ct,osl,rfl,lk,hcd⟩:=F.ex;intro s us KX hl;obtain⟨k,h1,h2⟩:=h kV doc pm an cdv ct us (by rw[length_append]at hl;omega)
 exact .of_defaults rfl (KX _ _ hT) hd h1 h2
theorem FunD.okX{sp:Sp}(F:FunD K x qual st dV f fd)(S:FnScope N ps (aG st))(len:∀vs H Q E,sp vs H Q E->vs.length=ps.length)
  (hbody:∀(cdv:Value)(A:Around)(outer:List Env)(s:Shared)(H:Hp)(vs:List V)(Q:VK)(E:XK),Room k (A.deeper (envOfC qual (aG st) s.heap.objs.size f cdv))->sp vs H Q E->
   ∃t,PSs (aGm CX0 P w K mg base N qual (aG st) f cdv A outer s H E).nox (dO st) t/\t {nx:=λ_ H'=>Q .non H',rt:=Q} (L2.start N vs) H):FnOk P w K mg base CX0 (k+1) f fd ps sp:=by
 obtain⟨oc,od,kV,doc,pm,an,cdv,ct,osl,rfl,lk,hcd⟩:=F.ex;refine bCq lk hcd S len λA outer s H vs Q E hr hsp=>?_
 obtain⟨t,h,q⟩:=hbody cdv A outer s H vs Q E hr hsp;exact⟨t,h.nox,q⟩
theorem cQ(F:FunD K x qual st dV f fd)(S:FnScope N ps (aG st))(np n:Nat)(bd:Bd)(hnp:ps.length=np)(hn:N.length=n)
  (hb:∀(cdv:Value)(A:Around)(outer:List Env)(s:Shared)(H:Hp)(E:XK)(B:List Addr),Room k (A.deeper (envOfC qual (aG st) s.heap.objs.size f cdv))->
   PSs (aGm CX0 P w K mg base N qual (aG st) f cdv A outer s H E).nox (dO st) (tS K B bd)):FnOk P w K mg base CX0 (k+1) f fd ps (spI K np (cT np n bd)):=by
 refine F.okX S (λvs H Q E h=>?_) (λcdv A outer s H vs Q E hr h=>?_)
 .obtain⟨A,ds,d,own,r,hl,_⟩:=h;rw[r.length,hl,hnp]
 .obtain⟨B,ds,d,own,r,hl,hp,q⟩:=h;refine⟨tS K B bd,hb cdv A outer s H E B hr,?_⟩;obtain⟨_,h2⟩:=aJ hp;obtain⟨fl,hfl,h3⟩:=R.ok_of h2;have rs:=aI3 (N:=N) own r;rw[hl,hn]at rs;refine⟨[],_,fl,rs,hfl,?_⟩;have fin:∀{A':List Addr}{H':Hp},Le [] H A' H'->bF H H':=λ{A' H'} l=>by
   unfold Le at l;rw[vM]at l;exact l.trans (bN _ _)
  cases fl with
  |nx s1=>
   cases h3;exact λA' σ' H' l rs'=>q _ H' (fin l) (rM.mpr rfl)
  |rt d'=>
   cases h3;exact λA' v H' l rv=>q v H' (fin l) (rv.mono (lO λa ha=>List.mem_append_right _ ha))
  |bk s1=>exact nomatch h3
  |ct s1=>exact nomatch h3
theorem MethOk.of{m:String} {ds:List Value} (hc:ClsAt K c C) (hm:Meth K C (Str.ofString m) f) (F:FnOk P w K mg base CX0 k f fd ps (spI K np (cT np n bd))) (b:Binds K fd ps ds) (v:Vals dvs ds) (r:∀H,bH K H dv dvs):MethOk P w K mg base c m k np dv (cT np n bd):=
 ⟨⟨C,f,fd,ps,dvs,ds,hc,hm,F,b,v,r⟩,aDm⟩
end
end Pu
namespace Pu
open PySem PySem.Spec PyProof.Rows L2 PySem.SeqAt
section
variable {a b:Expr} {r:Exs}
theorem aQd:mG X (.type "list") (λvs H Q=>∃l xs,vs=[.ref l]/\(SqL X.K H l xs\/SqT X.K H l xs)/\∀n,H n=none->Q (.ref n) (upd H n (.lst xs))):=by
 intro pins s σ H vs us Q I r h;obtain⟨l,xs,rfl,hl,q⟩:=h;obtain⟨u,rfl,ru⟩:=r.one;obtain rfl:u=Value.ref l:=ru;rcases hl with hl|hl
 .obtain⟨its,rv,⟨ob,n,e,hc,_,hd⟩,hz⟩:=I.list hl;refine call_list_seq l (T:="list") (.inl rfl) e hc hd (λh' c' k hn=>?_) (by rw[rv.length]at hz;simpa using hz)
  exact⟨.ref s.heap.objs.size,_,I.laid (o:=.lst xs) (t':=s.toks) k (Nat.le_refl _) ⟨hz,its,c',rv,hn⟩,rfl,q _ (I.hok.fresh (Nat.le_refl _))⟩
 .obtain⟨its,rv,⟨ob,e,hc,n,hd⟩,hz⟩:=I.tuple hl;refine call_list_seq l (T:="tuple") (.inr rfl) e hc hd (λh' c' k hn=>?_) (by rw[rv.length]at hz;simpa using hz)
  exact⟨.ref s.heap.objs.size,_,I.laid (o:=.lst xs) (t':=s.toks) k (Nat.le_refl _) ⟨hz,its,c',rv,hn⟩,rfl,q _ (I.hok.fresh (Nat.le_refl _))⟩
theorem aYk(hm:X.mg "list"=none)(ha:PE X a (tP X.K B f))(hg:Gl X "list":=by rfl)(hs:starEach [a] X.env=(false,eval a X.env)::starEach [] X.env:=by rfl):PE X (.Call (.Name "list" p0) [a] [] pos) (tI X.K B (e1 aRb f)):=by
 refine cN (vA aQd hg hm (by rfl) (eE ha jG hs) (he:=hs)) ?_
 rintro σ H Q ⟨A,st,d,rs,hd,q⟩;obtain⟨x,hx,h2⟩:=R.ok_of hd;refine⟨A,st,x,rs,hx,λv H1 s1 r1=>?_⟩
 cases x<;>first|(cases h2;done)|skip
 .cases h2;obtain⟨l,vs,e,h3,r3⟩:=r1.tup;exact⟨l,vs,by rw[e],.inr h3,λn hn=>q _ _ (s1.trans (cH hn)) (iI (rs.own.mono s1) hn r3)⟩
 .cases h2;obtain⟨l,vs,e,h3,r3⟩:=r1.lst;exact⟨l,vs,by rw[e],.inl h3,λn hn=>q _ _ (s1.trans (cH hn)) (iI (rs.own.mono s1) hn r3)⟩
theorem aSn:∀{l:List Bool}{us:List Value},Vals (l.map V.bl) us->us=l.map Value.bool
 |[],_,.nil=>rfl
 |b::l,_,.cons r t=>by
  rw[aSn t];cases r;rfl
theorem aUl(hc:X.calm=true):mG X (.builtin "all") (λvs H Q=>∃(l:Addr)(bs:List Bool),vs=[.ref l]/\SqL X.K H l (bs.map V.bl)/\Q (.bl (bs.all id)) H):=by
 intro pins s σ H vs us Q I r h;obtain⟨l,bs,rfl,hl,q⟩:=h;obtain⟨u,rfl,ru⟩:=r.one;obtain rfl:u=Value.ref l:=ru;obtain⟨its,rv,⟨ob,n,e,hcl,_,hd⟩,hz⟩:=I.list hl;have ei:=aSn rv;have isl:s.heap.IsList l its.toArray:=⟨ob,e,hcl,n,hd⟩;have hlt:l<s.heap.objs.size:=Heap.lt_size e;refine call_all_walk (wpAny_pyIter_list isl ⟨s.heap.objs.size,_,_,_,_,_,λi=>bs[i]?.getD false,rfl,Walks.list (A:=X.A.in1) (I.ok.hd hc) _ l (Nat.ne_of_lt hlt) its.toArray,⟨⟨_,Heap.get?_push_size _ rfl,rfl,rfl⟩,isl.push _⟩,?_,λh' tk k=>?_⟩)
 .intro i v s' Q' E' hv hq;rw[ei]at hv;simp only[List.getElem?_toArray,List.getElem?_map,Option.map_eq_some_iff]at hv;obtain⟨b,hb,rfl⟩:=hv;have hq':Q' (bs[i]?.getD false) s':=hq;rw[hb]at hq';exact wpAny_pure hq'
 .refine⟨.bl (bs.all id),H,I.kept (λb u z=>k b u (λhb=>?_) (Heap.get?_push_of_some _ z)),?_,q⟩
  .have:=List.mem_singleton.mp hb;exact Nat.lt_irrefl _ (this ▸ Heap.lt_size z)
  .show Value.bool _=Value.bool _;congr 1;rw[Bool.eq_iff_iff,List.all_eq_true,List.all_eq_true];have hsz:its.toArray.size=bs.length:=by rw[ei];simp
   rw[hsz];constructor
   .intro h x hx;obtain⟨i,hi,rfl⟩:=List.mem_iff_getElem.mp hx;have:=h i (List.mem_range.mpr hi);rw[List.getElem?_eq_getElem hi]at this;exact this
   .intro h i hi;have hi':=List.mem_range.mp hi;rw[List.getElem?_eq_getElem hi'];exact h _ (List.getElem_mem hi')
theorem aSo{K:Frag}{H:Hp}:∀{l:List Bool}{vs:List V},bH K H (l.map D.bl) vs->vs=l.map V.bl
 |[],vs,h=>dC.mp h
 |b::l,vs,h=>by
  obtain⟨v,r,rfl,h1,h2⟩:=bU.mp h;rw[aSo h2,cV.mp h1];rfl
theorem aSp(hm:X.mg "all"=none)(hc:X.calm=true)(ha:PE X a (tP X.K B f))(hg:Gl X "all":=by rfl)(hs:starEach [a] X.env=(false,eval a X.env)::starEach [] X.env:=by rfl):PE X (.Call (.Name "all" p0) [a] [] pos) (tI X.K B (e1 aFr f)):=by
 refine cN (qG (aUl hc) hg hm (by rfl) (eE ha jG hs) (he:=hs)) ?_
 rintro σ H Q ⟨A,st,d,rs,hd,q⟩;obtain⟨x,hx,h2⟩:=R.ok_of hd;refine⟨A,st,x,rs,hx,λv H1 s1 r1=>?_⟩
 cases x<;>first|(cases h2;done)|skip
 obtain⟨bs,h3,h4⟩:=R.ok_of h2;cases h4;obtain⟨l,vs,e,h5,r5⟩:=r1.lst;rw[aW7 h3]at r5;rw[aSo r5]at h5;exact⟨l,bs,by rw[e],h5,q _ H1 s1 (cV.mpr rfl)⟩
theorem aOh:∀{l:List Int}{us:List Value},Vals (l.map V.int) us->∃ps:List (Int×Tok),us=ps.map (λp=>Value.int p.1 p.2)/\ps.map (·.1)=l
 |[],_,.nil=>⟨[],rfl,rfl⟩
 |b::l,_,.cons r t=>by
  obtain⟨ps,e,e2⟩:=aOh t;obtain⟨t,rfl⟩:=r;exact⟨(b,t)::ps,by rw[e];rfl,by rw[map_cons,e2]⟩
theorem aOi{ps:List (Int×Tok)} (hi:i<ps.length):numAt ps.toArray i=(ps.map (·.1))[i]'(by simpa using hi):=by
 unfold numAt;rw[List.getElem?_toArray,List.getElem?_eq_getElem hi];simp
theorem aUm(hc:X.calm=true):mG X (.builtin "max") (λvs H Q=>∃(l:Addr)(is:List Int),vs=[.ref l]/\SqL X.K H l (is.map V.int)/\0<is.length/\Q (.int (aE9 is)) H):=by
 intro pins s σ H vs us Q I r h;obtain⟨l,is,rfl,hl,hp,q⟩:=h;obtain⟨u,rfl,ru⟩:=r.one;obtain rfl:u=Value.ref l:=ru;obtain⟨its,rv,⟨ob,n,e,hcl,_,hd⟩,hz⟩:=I.list hl;obtain⟨ps,ei,e2⟩:=aOh rv;have hlen:ps.length=is.length:=by rw[<-e2,length_map]
 have isl:s.heap.IsList l (intItems ps.toArray):=⟨ob,e,hcl,n,by rw[hd,ei];simp[intItems]⟩
 refine max_intList (I.ok.hd hc) isl (by simpa [hlen] using hp) λv h' tk hv k=>?_
 obtain⟨t,rfl⟩:=intItems_at hv;refine⟨.int (aE9 is),H,I.kept k,⟨t,?_⟩,q⟩;congr 1;have hs:ps.toArray.size=ps.length:=rfl;rw[hs];obtain⟨h1,h2⟩:=argBest_gt (numAt ps.toArray) (ps.length-1);have hb:argBest (λi j=>decide (numAt ps.toArray i>numAt ps.toArray j)) (ps.length-1)<ps.length:=by omega
 refine(aL4 ?_ λx hx=>?_).symm
 .rw[aOi hb,<-e2];exact List.getElem_mem _
 .rw[<-e2]at hx;obtain⟨i,hi,rfl⟩:=List.mem_iff_getElem.mp hx;have hi':i<ps.length:=by simpa using hi
  rw[<-aOi hi'];exact h2 i (by omega)
theorem aOj{K:Frag}{H:Hp}:∀{l:List Int}{vs:List V},bH K H (l.map D.int) vs->vs=l.map V.int
 |[],vs,h=>dC.mp h
 |b::l,vs,h=>by
  obtain⟨v,r,rfl,h1,h2⟩:=bU.mp h;rw[aOj h2,bO.mp h1];rfl
theorem bDe(hm:X.mg "max"=none)(hc:X.calm=true)(ha:PE X a (tP X.K B f))(hg:Gl X "max":=by rfl)(hs:starEach [a] X.env=(false,eval a X.env)::starEach [] X.env:=by rfl):PE X (.Call (.Name "max" p0) [a] [] pos) (tI X.K B (e1 aGw f)):=by
 refine cN (qG (aUm hc) hg hm (by rfl) (eE ha jG hs) (he:=hs)) ?_
 rintro σ H Q ⟨A,st,d,rs,hd,q⟩;obtain⟨x,hx,h2⟩:=R.ok_of hd;refine⟨A,st,x,rs,hx,λv H1 s1 r1=>?_⟩
 cases x<;>first|(cases h2;done)|skip
 obtain⟨is,h3,h4⟩:=R.ok_of h2;obtain⟨c,h4⟩:=aJ h4;cases h4;obtain⟨l,vs,e,h5,r5⟩:=r1.lst;rw[yR h3]at r5;rw[aOj r5]at h5;exact⟨l,is,by rw[e],h5,c,q _ H1 s1 (bO.mpr rfl)⟩
theorem aOk:∀{l:List (List Nat)} {us:List Value},Vals (l.map λt=>V.str ⟨t.toArray⟩) us->∃ps:List (Str×Tok),us=strValues ps/\ps.map (·.1)=l.map λt=>(⟨t.toArray⟩:Str)
 |[],_,.nil=>⟨[],rfl,rfl⟩
 |b::l,_,.cons r t=>by
  obtain⟨ps,e,e2⟩:=aOk t;obtain⟨t,rfl⟩:=r;exact⟨(⟨b.toArray⟩,t)::ps,by rw[e];rfl,by rw[map_cons,e2];rfl⟩
theorem aSq(x:List Nat):∀(l:List (List Nat)),Str.join ⟨x.toArray⟩ (l.map λt=>(⟨t.toArray⟩:Str))=⟨(aCk x l).toArray⟩
 |[]=>rfl
 |[a]=>rfl
 |a::b::l=>by
  show (⟨a.toArray⟩:Str)++⟨x.toArray⟩++Str.join ⟨x.toArray⟩ ((b::l).map λt=>(⟨t.toArray⟩:Str))=_
  rw[aSq x (b::l)];show (⟨a.toArray++x.toArray++(aCk x (b::l)).toArray⟩:Str)=⟨(a++x++aCk x (b::l)).toArray⟩;simp
theorem bBv:MtR X "str.join" (λx vs H Q=>∃(z:List Nat)(l:Addr) (ts:List (List Nat)),x=.str ⟨z.toArray⟩/\vs=[.ref l]/\SqL X.K H l (ts.map λt=>V.str ⟨t.toArray⟩)/\(ts.map List.length).sum+ts.length*z.length<=sizeLine/\Q (.str ⟨(aCk z ts).toArray⟩) H):=by
 intro pins s σ H x vs v us Q I rx rv h;obtain⟨z,l,ts,rfl,rfl,hl,hz,q⟩:=h;obtain⟨t,rfl⟩:=rx;obtain⟨u,rfl,ru⟩:=rv.one;obtain rfl:u=Value.ref l:=ru;obtain⟨its,rv,⟨ob,n,e,hcl,_,hd⟩,_⟩:=I.list hl;obtain⟨ps,ei,e2⟩:=aOk rv;refine SC.join (l:=ps) ⟨ob,e,hcl,n,by rw[hd,ei]⟩ e2 ?_ λt' k=>⟨.str ⟨(aCk z ts).toArray⟩,H,I.tok _,⟨t',?_⟩,q⟩
 .unfold JoinOk;rw[not_eq_true'];show Builtin.Str.tooLong _=false;rw[StrLaws.joinTotal];unfold Builtin.Str.tooLong;refine decide_eq_false (Nat.not_lt.mpr ?_);rw[List.map_map,length_map,str_len];have:(ts.map ((λx:Str=>x.length) ∘ λt=>(⟨t.toArray⟩:Str)))=ts.map List.length:=List.map_congr_left λt _=>str_len t
  rw[this];exact hz
 .rw[<-aSq,<-StrLaws.glued_eq_join];rfl
theorem aOl{K:Frag}{H:Hp}:∀{l:List (List Nat)} {vs:List V},bH K H (l.map D.str) vs->vs=l.map λt=>V.str ⟨t.toArray⟩
 |[],vs,h=>dC.mp h
 |b::l,vs,h=>by
  obtain⟨v,r,rfl,h1,h2⟩:=bU.mp h;rw[aOl h2,dH.mp h1];rfl
theorem aYl(ho:PE X o (tP X.K B f))(ha:PA X (e::es) (tA X.K B r))(hbase:attributeBase o "join" X.env (eval o X.env)=eval o X.env:=by rfl)
  (hfew:((backTo cpos (starEach (e::es) X.env)).all (λx=>!x.1)&&(backToKw cpos (keywordEach [] X.env)).all (λx=>x.1.isSome)
   && decide ((e::es).length+([]:List Keyword).length+(if ([]:List Keyword).isEmpty then 0 else 1)<30))=true:=by rfl)
  (hline:(apos.endLine==cpos.line)=true:=by rfl) (hs:starEach (e::es) X.env=(false,eval e X.env)::starEach es X.env:=by rfl) (hplain:(backTo cpos (starEach es X.env)).any (·.1)=false:=by rfl) :
  PE X (.Call (.Attribute o "join" apos) (e::es) [] cpos) (tI X.K B (eMt aGx f r)):=by
 refine bBq (m:=aGx) PySem.F.slot_str_join PySem.F.type_str_join bBv (λx xs d h=>?_) (λA H x d xs v vs Q w rx rxs h k=>?_) ho ha hbase hfew hline hs hplain
 .cases x<;>first|exact⟨_,rfl⟩|exact nomatch h
 .unfold aGx at h;split at h
  .obtain⟨ts,h1,h2⟩:=R.ok_of h;obtain⟨c,h2⟩:=aJ h2;cases h2;obtain⟨u,rfl,ru⟩:=aKf rxs;obtain⟨l,ws,e,h5,r5⟩:=lD.lst (.inl ru);rw[aN6 h1]at r5;rw[aOl r5]at h5;exact⟨_,l,ts,rx.str,by rw[e],h5,lim c,k _ H (bF.refl _) (dH.mpr rfl)⟩
  .cases h
end
end Pu
namespace Pu
open PySem PySem.Spec PyProof.Rows L2
abbrev XW:=D->L2.St->Hp->Prop
end Pu
namespace Pu
open PySem PySem.Spec PyProof.Rows L2
section
variable {K:Frag} {f:Addr} {k:Nat}
theorem MakeOk.of(hc:ClsAt K c C)(hm:Mk K C f)(F:FnOk P w K mg base CX0 k f fd ps (spM K c np (aL3 c np n bd)))(b:Binds K fd ps [])(m:mg (Str.ofString c)=some (.ref C)):MakeOk P w K mg base c k np (aL3 c np n bd):=
 ⟨⟨C,f,fd,ps,hc,hm,F,b,m⟩,aYh⟩
end
section
variable{P:List α->Prop}
theorem aSr(h:P [])(us:List α)(hl:us.length=0):P us:=by rw[List.length_eq_zero_iff.mp hl];exact h
theorem aAr(h:∀a us,us.length=n->P (a::us))(us:List α)(hl:us.length=n+1):P us:=by
 cases us with
 |nil=>cases hl
 |cons a us=>exact h a us (Nat.succ.inj hl)
theorem aM8(h:∀a,P [a])(us:List α)(hl:us.length=1):P us:=aAr (λa=>aSr (h a)) us hl
theorem aM9(h:∀a b,P [a,b])(us:List α)(hl:us.length=2):P us:=aAr (λa=>aM8 (P:=λus=>P (a::us)) (h a)) us hl
theorem aAs(h:∀a b c,P [a,b,c])(us:List α)(hl:us.length=3):P us:=aAr (λa=>aM9 (P:=λus=>P (a::us)) (h a)) us hl
theorem aSs(h:∀a b c d,P [a,b,c,d])(us:List α)(hl:us.length=4):P us:=aAr (λa=>aAs (P:=λus=>P (a::us)) (h a)) us hl
theorem aSt(h:∀a b c d e,P [a,b,c,d,e])(us:List α)(hl:us.length=5):P us:=aAr (λa=>aSs (P:=λus=>P (a::us)) (h a)) us hl
theorem bBw(h:∀a b c d e f,P [a,b,c,d,e,f])(us:List α)(hl:us.length=6):P us:=aAr (λa=>aSt (P:=λus=>P (a::us)) (h a)) us hl
end
def Inn(K:Frag)(G H:Hp):List (List D)->List Addr->Prop
 |[],ps=>ps=[]
 |xs::xss,ps=>∃p r vs,ps=p::r/\H p=some (.lst vs)/\bH K G xs vs/\Inn K G H xss r
def tSF(K:Frag)(B:List Addr)(i:Nat)(b:Bd):TS:=λDn σ H=>∃A st st' xs,RS K B A H st σ/\b st=.ok (.nx st')/\st'[i]?=some (some (.o .l xs))/\∀A' a vs H',Le A H A' H'->a∈A'->H' a=some (.lst vs)->bH K (hide (A'++B) H') xs vs->Dn.rt (.ref a) H'
def spF(K:Frag)(np:Nat)(p:List D->R D):Sp:=λvs H Q _=>∃A ds xs,Own A H/\bH K (hide A H) ds vs/\ds.length=np/\p ds=.ok (.lst xs)/\∀a ws H',bF H H'->H a=none->H' a=some (.lst ws)->bH K (hide (a::A) H') xs ws->Q (.ref a) H'
section
variable {rest:List Stmt}
theorem aSu(h1:PS X sm (tS X.K B bd))(h2:PSs X rest (tSF X.K B i bd')):PSs X (sm::rest) (tSF X.K B i (bG bd bd')):=aAl (aGk h1 h2) (by
 rintro Dn σ H ⟨A,st,st',xs,rs,hb,hi,q⟩;unfold bG aJ2 at hb;obtain⟨fl,hfl,h3⟩:=R.ok_of hb;refine⟨A,st,fl,rs,hfl,?_⟩;cases fl with
 |nx s1=>exact λA' σ' H' l rs'=>⟨A',s1,st',xs,rs',h3,hi,λA2 a vs H2 l2=>q A2 a vs H2 (l.trans l2)⟩
 |rt d=>cases h3
 |bk s1=>cases h3
 |ct s1=>cases h3)
theorem bG0(hN:X.N[i]?=some x:=by rfl)(hv:Vis X.env.scope x:=by first|exact Or.inl rfl|exact Or.inr (Or.inl rfl)|exact Or.inr (Or.inr rfl))(hd:(x==("__debug__":Str))=false:=by decide)(hcd:(x==("__classdict__":Str))=false:=by decide) :
  PSs X [.Return (some (.Name x p1)) pos] (tSF X.K B i dM):=aAl (aKq (aP9 (yL hN hv hd hcd))) (by
 rintro Dn σ H ⟨A,st,st',xs,rs,hb,hi,q⟩;cases hb;obtain⟨a,o,vs,e1,m,h1,ko,r,_⟩:=rs.lst i .l xs hi;have eo:o=.lst vs:=ko;subst eo;exact⟨.ref a,e1,q A a vs H Le.refl m h1 r⟩)
end
section
variable {K:Frag} {st:Stmt} {f:Addr} {k:Nat}
theorem bK9(F:FunD K x qual st dV f fd)(S:FnScope N ps (aG st))(np n i:Nat)(bd:Bd)(hnp:ps.length=np)(hn:N.length=n)
  (hb:∀(cdv:Value)(A:Around)(outer:List Env)(s:Shared)(H:Hp)(E:XK)(B:List Addr),Room k (A.deeper (envOfC qual (aG st) s.heap.objs.size f cdv))->
   PSs (aGm CX0 P w K mg base N qual (aG st) f cdv A outer s H E).nox (dO st) (tSF K B i bd)):FnOk P w K mg base CX0 (k+1) f fd ps (spF K np (cT np n (aCl bd i))):=by
 refine F.okX S (λvs H Q E h=>?_) (λcdv A outer s H vs Q E hr h=>?_)
 .obtain⟨A,ds,d,own,r,hl,_⟩:=h;rw[r.length,hl,hnp]
 .obtain⟨B,ds,xs,own,r,hl,hp,q⟩:=h;refine⟨tSF K B i bd,hb cdv A outer s H E B hr,?_⟩;obtain⟨_,h2⟩:=aJ hp;obtain⟨fl,hfl,h3⟩:=R.ok_of h2;have rs:=aI3 (N:=N) own r;rw[hl,hn]at rs;unfold aCl at hfl;split at hfl
  .rename_i s1 hf1;unfold aW8 at hfl;split at hfl
   .rename_i e1;cases hfl;cases h3;refine⟨[],_,s1,_,rs,hf1,e1,λA' a vs' H' l ha hv rv=>?_⟩
    have sm:bF H H':=by
     unfold Le at l;rw[vM]at l;exact l.trans (bN _ _)
    refine q a vs' H' sm ?_ hv (rv.mono (lO λb hb=>?_))
    .cases hH:H a with
     |none=>rfl
     |some o=>
      have z:=l a o (by rw[vM];exact hH)
      rw[iH ha]at z;cases z
    .rcases List.mem_cons.mp hb with rfl|hb
     .exact List.mem_append_left _ ha
     .exact List.mem_append_right _ hb
   .cases hfl
  .cases hfl
theorem aUn(h:cT np n (aCl bd i) ds=.ok d):∃xs,d=.lst xs:=by
 obtain⟨_,h2⟩:=aJ h;obtain⟨fl,hfl,h3⟩:=R.ok_of h2;unfold aCl at hfl;split at hfl
 .unfold aW8 at hfl;split at hfl
  .cases hfl;cases h3;exact⟨_,rfl⟩
  .cases hfl
 .cases hfl
theorem aKh(hp:∀ds d,p ds=.ok d->∃xs,d=.lst xs) (F:FnOk P w K mg base CX0 k f fd ps (spF K np p)):FnOk P w K mg base CX0 k f fd ps (spI K np p):=by
 have up:∀vs H Q E,spI K np p vs H Q E->spF K np p vs H Q E:=by
  rintro vs H Q E ⟨A,ds,d,own,r,hl,he,q⟩;obtain⟨xs,rfl⟩:=hp ds d he;refine⟨A,ds,xs,own,r,hl,he,λa ws H' sm ha hv rv=>q _ H' sm (iG.mpr ⟨a,ws,rfl,SqL.of (by rw[cB (own.free ha)];exact hv),rv.mono (lO λb hb=>mem_cons_of_mem _ hb)⟩)⟩
 exact⟨λvs H Q E h=>F.len vs H Q E (up vs H Q E h),λA outer s H args us vs Q E hr e0 hb hv h=>F.run A outer s H args us vs Q E hr e0 hb hv (up vs H Q E h)⟩
end
structure MethOkF(P:Program)(w:World)(K:Frag)(mg:Str->Option Value)(base:Heap)(c m:String)(k np:Nat)(dv:List D)(p:List D->R D):Prop where
 ex:∃(C fa:Addr)(fd:FuncData)(ps:List Str)(dvs:List V)(ds:List Value),ClsAt K c C/\Meth K C (Str.ofString m) fa/\FnOk P w K mg base CX0 k fa fd ps (spF K np p)/\Binds K fd ps ds/\Vals dvs ds/\∀H,bH K H dv dvs
 len:∀ds d,p ds=.ok d->ds.length=np
 lst:∀ds d,p ds=.ok d->∃xs,d=.lst xs
theorem MethOkF.of{K:Frag} {k:Nat} {f:Addr} {m:String} {ds:List Value} (hc:ClsAt K c C) (hm:Meth K C (Str.ofString m) f) (F:FnOk P w K mg base CX0 k f fd ps (spF K np (cT np n (aCl bd i)))) (b:Binds K fd ps ds) (v:Vals dvs ds) (r:∀H,bH K H dv dvs):MethOkF P w K mg base c m k np dv (cT np n (aCl bd i)):=
 ⟨⟨C,f,fd,ps,dvs,ds,hc,hm,F,b,v,r⟩,aDm,λ_ _ h=>aUn h⟩
theorem MethOkF.plain{K:Frag} {m:String} {k:Nat} (h:MethOkF P w K mg base c m k np dv p):MethOk P w K mg base c m k np dv p:=by
 obtain⟨C,fa,fd,ps,dvs,ds,hc,hm,F,b,v,r⟩:=h.ex;exact⟨⟨C,fa,fd,ps,dvs,ds,hc,hm,aKh h.lst F,b,v,r⟩,h.len⟩
section
theorem bG1{m:String}{k:Nat} {r:Exs} (h:MethOkF X.prog X.w X.K X.mg X.base c m k np dv p) (hr:Room j X.A) (hk:k<=j) (ho:PE X o (tI X.K B f)) (ha:PA X (e::es) (tA X.K B r))
  (hst:starEach (e::es) X.env=(false,eval e X.env)::starEach es X.env:=by rfl) (hpl:(backTo pos (starEach es X.env)).any (·.1)=false:=by rfl)
  (ht:eval (.Call (.Attribute o (Str.ofString m) apos) (e::es) [] pos) X.env=(do
   let ov <- eval o X.env
   standAt apos.atName
   let (f,first) <- holding [ov] (getMethod ov (Str.ofString m) pl)
   callWith pos f first (backTo pos (starEach (e::es) X.env)) (backToKw pos (keywordEach [] X.env))):=by rfl) :
  PE X (.Call (.Attribute o (Str.ofString m) apos) (e::es) [] pos) (tF X.K B (dU c m p dv f r)):=by
 obtain⟨C,fa,fd,ps,dvs,ds,hc,hm,F,bd,vd,rd⟩:=h.ex;refine cN (aQy (pl:=pl) ho hc.cl hm F (hr.mono hk) bd vd aMx ha hst hpl ht) ?_
 rintro σ H Q ⟨A,st,xs,rs,hd,q⟩;obtain⟨x,hx,h2⟩:=R.ok_of hd;obtain⟨ys,hxs,h3⟩:=R.ok_of h2;refine⟨A,st,x,rs,hx,λv H1 s1 r1=>?_⟩
 cases x<;>first|(cases h3;done)|skip
 obtain⟨⟨e1,hn⟩,h4⟩:=aJ h3;subst e1;obtain⟨p',C',dx,fs,e2,h5,h6,h7,h8⟩:=lD.ins (.inl r1);have:C'=C:=by have z:=h6.symm.trans hc.ns;injection z with z;injection z with z;injection z
 subst this;refine⟨p',dx,fs,e2,h5,lookup_none h7 hn,A,st,ys,rs.mono s1,hxs,λvs H2 s2 r2=>?_⟩
 refine⟨A++B,_,xs,rs.own.mono (s1.trans s2),.cons (r1.mono (bF.hide s2)) (r2.append (rd _)),h.len _ _ h4,h4,λa ws H' s' ha' hv rv=>?_⟩
 have e0:upd (hide [a] H') a (.lst ws)=H':=by
  funext b
  by_cases hb:b=a
  .subst hb;rw[bZ];exact hv.symm
  .rw[bQ hb,cB (by simpa using hb)]
 have z:=q a ws (hide [a] H') (λb u hz=>?_) (iH (by simp)) ?_
 .rw[e0]at z;exact z
 .have hz2:=s2 _ _ (s1 _ _ hz);rw[cB (by simpa using bC hz2 ha')]
  exact s' _ _ hz2
 .refine rv.mono λb u hz=>?_
  have hb:b∉a::(A++B):=λy=>by rw[iH y]at hz;cases hz
  rw[cB λy=>hb (mem_cons_of_mem _ y),cB (by simpa using λy=>hb (by rw[y];exact mem_cons_self))]
  exact bN _ _ _ _ hz
end
section
variable {a b:Expr}
theorem aIe:∀{ns:List Int}{us:List Value},Vals (ns.map V.int) us->IntsAre us ns
 |[],us,h=>by rw[h.zero];exact .nil
 |n::ns,us,h=>by
  cases h with
  |cons r t=>
   obtain⟨k,rfl⟩:=r;exact .cons n k (aIe t)
theorem aEr{K:Frag}{H:Hp}:∀{l:List Int}{vs:List V},bH K H (l.map D.int) vs->vs=l.map V.int
 |[],vs,h=>dC.mp h
 |i::l,vs,h=>by
  obtain⟨v,r,rfl,h1,h2⟩:=bU.mp h;rw[bO.mp h1,aEr h2];rfl
end
def noH:Hp:=λ_=>none
theorem bBx:bF noH H:=λ_ _ h=>nomatch h
theorem aYm{K:Frag} (h:atom d=true) (r:Rep K H d v):Rep K noH d v:=by
 cases d<;>first|(cases h;done)|skip
 .exact rM.mpr (rM.mp r)
 .exact cV.mpr (cV.mp r)
 .exact bO.mpr (bO.mp r)
 .exact dH.mpr (dH.mp r)
def tC(K:Frag)(B:List Addr)(f:Ex):TE:=λσ H Q=>∃A st d xs,RS K B A H st σ/\f st=.ok d/\bEn d=.ok (.lst xs)/\∀P ps H',bF H H'->(∀p∈P::ps,H p=none)->(P::ps).Nodup->H' P=some (.lst (ps.map V.ref))->Inn K noH H' (xs.map unL) ps->Q (.ref P) H'
open Builtin
section
variable{prog:Program}{w:World}{A:Around}{E:Value->Shared->Prop}{s:Shared}
variable{z TI TO i1 i2 l:Addr}{fp:List Addr}{n k1 k2:Nat}{P:Nat->Value->Prop}{St:Nat->Heap->Prop}{ys:Array Value}{y a b:Value}
structure ZApart(z TI TO i1 i2 l:Addr)(fp:List Addr):Prop where
 TIz:TI≠z
 TOz:TO≠z
 i1z:i1≠z
 i2z:i2≠z
 TITO:TI≠TO
 TIi1:TI≠i1
 TIi2:TI≠i2
 TOi1:TO≠i1
 TOi2:TO≠i2
 i12:i1≠i2
 lz:l≠z
 lTO:l≠TO
 li1:l≠i1
 li2:l≠i2
 zf:z∉fp
 Tf:TO∉fp
 i2f:i2∉fp
theorem aQe{n l:Nat}(h:l<n):ZApart (n+4) (n+2) (n+3) n (n+1) l [n]:=by
 constructor
 .show n+2≠n+4;omega
 .show n+3≠n+4;omega
 .show n≠n+4;omega
 .show n+1≠n+4;omega
 .show n+2≠n+3;omega
 .show n+2≠n;omega
 .show n+2≠n+1;omega
 .show n+3≠n;omega
 .show n+3≠n+1;omega
 .show n≠n+1;omega
 .show l≠n+4;omega
 .show l≠n+3;omega
 .show l≠n;omega
 .show l≠n+1;omega
 .intro z;have:n+4=n:=List.mem_singleton.mp z;omega
 .intro z;have:n+3=n:=List.mem_singleton.mp z;omega
 .intro z;have:n+1=n:=List.mem_singleton.mp z;omega
theorem aYn(D1:Draws prog w A i1 fp n P St)(D:ZApart z TI TO i1 i2 l fp)
  (hz:IsZip s.heap z TI TO .none) (hTI:IsPair s.heap TI (.ref i1) (.ref i2)) (hTO:IsPair s.heap TO a b)
  (h1:St k1 s.heap) (hk1:k1<n) (h2:s.heap.IsListIter i2 l k2) (hl:s.heap.IsList l ys) (hy:ys[k2]?=some y)
  (hQ:∀h' tk x,P k1 x->IsZip h' z TI TO (rawInt s.heap.objs.size)->IsPair h' TO x y->St (k1+1) h'->h'.IsListIter i2 l (k2+1)->IsPair h' s.heap.objs.size x y->h'.objs.size=s.heap.objs.size+1->
   (∀c o,c≠z->c≠TO->c≠i1->c≠i2->s.heap.get? c=some o->h'.get? c=some o)->Q (.ref s.heap.objs.size) {s with heap:=h',toks:=tk}) :
  wpAny (model prog w) A (Builtin.«zip.__next__» ⟨[.ref z],[]⟩) (λfin s'=>∃v,fin=.done (.ret v)/\Q v s') E s:=by
 show wpAny _ _ (field (.ref z) 2 >>= _) _ _ _;refine wpAny_bind (wpAny_field hz rfl (x:=.bool false) rfl ?_);show wpAny _ _ (field (.ref z) 3 >>= _) _ _ _;refine wpAny_bind (wpAny_field hz rfl (x:=.ref TI) rfl ?_);refine wpAny_bind (wpAny_seqItems hTI rfl ?_);show wpAny _ _ (Builtin.SmallTypes.ownedTupleIsFree (.ref z) >>= _) _ _ _;refine wpAny_bind ?_
 unfold Builtin.SmallTypes.ownedTupleIsFree;refine wpAny_bind (wpAny_field hz rfl (x:=.none) rfl (wpAny_pure ?_));simp only[if_true];refine wpAny_bind (wpAny_rule ?_);refine wpAny_bind (wpAny_field hz rfl (x:=.ref TO) rfl ?_);refine wpAny_bind (wpAny_setField_rec hz (by simp) λh₁ hz₁ hs₁=>?_)
 replace hz₁:IsZip h₁ z TI TO .ellipsis:=hz₁
 refine wpAny_bind ?_
 simp only[List.zipIdx_cons,List.zipIdx_nil,forIn_cons,forIn_nil];refine wpAny_bind (wpAny_bind (wpAny_onRaise ?_));show wpAny _ _ (Builtin.SmallTypes.nextOf (.ref i1) >>= _) _ _ _;refine wpAny_bind (D1.item k1 {s with heap:=h₁} _ _ hk1 (D1.frame k1 s.heap h₁ h1 λb hb o e=>hs₁.extBut _ _ (λx=>D.zf (x ▸ hb)) e) λx h₂ tk hP h1₂ hs₂=>wpAny_pure ?_)
 have hs₂:Heap.SameBut i1 h₁ h₂:=hs₂;have hTO₂:IsPair h₂ TO a b:=hs₂.extBut _ _ D.TOi1 (hs₁.extBut _ _ D.TOz hTO);refine wpAny_bind (wpAny_seqItems hTO₂ rfl ?_);refine wpAny_bind (wpAny_updateSeq_pair hTO₂ λh₃ hTO₃ hs₃=>?_)
 replace hTO₃:IsPair h₃ TO x b:=hTO₃
 refine wpAny_bind (wpAny_letGo (wpAny_pure ?_));refine wpAny_bind (wpAny_bind (wpAny_onRaise ?_));show wpAny _ _ (Builtin.SmallTypes.nextOf (.ref i2) >>= _) _ _ _;refine wpAny_bind (wpAny_nextOf_list_item (((h2.extBut hs₁.extBut D.i2z).extBut hs₂.extBut D.i12.symm).extBut hs₃.extBut D.TOi2.symm)
  (((hl.extBut hs₁.extBut D.lz).extBut hs₂.extBut D.li1).extBut hs₃.extBut D.lTO) hy λh₄ h2₄ hs₄=>wpAny_pure ?_)
 have hTO₄:IsPair h₄ TO x b:=hs₄.extBut _ _ D.TOi2 hTO₃;refine wpAny_bind (wpAny_seqItems hTO₄ rfl ?_);refine wpAny_bind (wpAny_updateSeq_pair hTO₄ λh₅ hTO₅ hs₅=>?_)
 replace hTO₅:IsPair h₅ TO x y:=hTO₅
 refine wpAny_bind (wpAny_letGo (wpAny_pure (wpAny_pure ?_)));refine wpAny_bind (wpAny_seqItems hTO₅ rfl ?_);refine wpAny_bind (wpAny_newTuple ?_);have hs₃':Heap.SameBut TO h₂ h₃:=hs₃;have hs₄':Heap.SameBut i2 h₃ h₄:=hs₄;have hs₅':Heap.SameBut TO h₄ h₅:=hs₅;have hsz:h₅.objs.size=s.heap.objs.size:=by rw[hs₅'.1,hs₄'.1,hs₃'.1,hs₂.1,hs₁.1]
 have hz₅:IsZip h₅ z TI TO .ellipsis:=hs₅'.extBut _ _ D.TOz.symm (hs₄'.extBut _ _ D.i2z.symm (hs₃'.extBut _ _ D.TOz.symm (hs₂.extBut _ _ D.i1z.symm hz₁)));have hk₅:∀c o,c≠z->c≠TO->c≠i1->c≠i2->s.heap.get? c=some o->h₅.get? c=some o:=λc o c1 c2 c3 c4 e=>
  hs₅'.extBut _ _ c2 (hs₄'.extBut _ _ c4 (hs₃'.extBut _ _ c2 (hs₂.extBut _ _ c3 (hs₁.extBut _ _ c1 e))))
 have h1₅:St (k1+1) h₅:=D1.frame _ h₂ h₅ h1₂ λb hb o e=>hs₅'.extBut _ _ (λx=>D.Tf (x ▸ hb)) (hs₄'.extBut _ _ (λx=>D.i2f (x ▸ hb)) (hs₃'.extBut _ _ (λx=>D.Tf (x ▸ hb)) e))
 have h2₅:h₅.IsListIter i2 l (k2+1):=h2₄.extBut hs₅'.extBut D.TOi2.symm;have hzlt:z<h₅.objs.size:=Heap.lt_size hz₅;show wpAny _ _ (Builtin.SmallTypes.ownedTupleHandOut (.ref z) (.ref h₅.objs.size) >>= _) _ _ _;refine wpAny_bind ?_
 unfold Builtin.SmallTypes.ownedTupleHandOut;have hz₆:IsZip (h₅.push {cls:=.type "tuple",data:=.seq #[x,y]}) z TI TO .ellipsis:=Heap.get?_push_of_some _ hz₅;refine wpAny_bind (wpAny_setField_rec hz₆ (by simp) λh₇ hz₇ hs₇=>?_)
 replace hz₇:IsZip h₇ z TI TO (rawInt h₅.objs.size):=hz₇
 refine wpAny_setField_rec hz₇ (by simp) λh₈ hz₈ hs₈=>?_
 replace hz₈:IsZip h₈ z TI TO (rawInt h₅.objs.size):=hz₈
 have up:∀c o,c≠z->h₅.get? c=some o->h₈.get? c=some o:=λc o c1 e=>hs₈.extBut _ _ c1 (hs₇.extBut _ _ c1 (Heap.get?_push_of_some _ e))
 have hT₈:IsPair h₈ h₅.objs.size x y:=hs₈.extBut _ _ (Nat.ne_of_gt hzlt) (hs₇.extBut _ _ (Nat.ne_of_gt hzlt) (Heap.get?_push_size _ rfl));have hz8:h₈.objs.size=h₅.objs.size+1:=by rw[hs₈.1,hs₇.1,Heap.size_push]
 rw[hsz]at hz₈ hT₈ hz8;refine wpAny_pure ⟨_,rfl,?_⟩;show Q (.ref h₅.objs.size) _;rw[hsz];exact hQ h₈ _ x hP hz₈ (up _ _ D.TOz hTO₅) (D1.frame _ h₅ h₈ h1₅ λb hb o e=>up b o (λx=>D.zf (x ▸ hb)) e) (h2₅.at λo e=>up _ o D.i2z e) hT₈ hz8 λc o c1 c2 c3 c4 e=>up c o c1 (hk₅ c o c1 c2 c3 c4 e)
theorem bBy(D1:Draws prog w A i1 fp n P St)(hh:A.handled=none)(D:ZApart z TI TO i1 i2 l fp)
  (hz:IsZip s.heap z TI TO .none) (hTI:IsPair s.heap TI (.ref i1) (.ref i2)) (hTO:IsPair s.heap TO a b)
  (h1:St k1 s.heap) (h2:s.heap.IsListIter i2 l k2) (hl:s.heap.IsList l ys)
  (hend:(∀(s:Shared)(Q:Value->Shared->Prop)(E:Value->Shared->Prop),St k1 s.heap->(∀h' e,Heap.ExtBut i1 s.heap h'->(∃o,h'.get? e=some o/\o.cls=.type "StopIteration")->E (.ref e) {s with heap:=h'})->wpAny (model prog w) A (Builtin.SmallTypes.nextOf (.ref i1)) Q E s)\/(k1<n/\ys[k2]?=none)) {Q:Fin->Shared->Prop}
  (hE:∀h' e tk,(∀c o,c≠z->c≠TO->c≠i1->c≠i2->s.heap.get? c=some o->h'.get? c=some o)->(∃o,h'.get? e=some o/\o.cls=.type "StopIteration")->E (.ref e) {s with heap:=h',toks:=tk}) :
  wpAny (model prog w) A (Builtin.«zip.__next__» ⟨[.ref z],[]⟩) Q E s:=by
 show wpAny _ _ (field (.ref z) 2 >>= _) _ _ _;refine wpAny_bind (wpAny_field hz rfl (x:=.bool false) rfl ?_);show wpAny _ _ (field (.ref z) 3 >>= _) _ _ _;refine wpAny_bind (wpAny_field hz rfl (x:=.ref TI) rfl ?_);refine wpAny_bind (wpAny_seqItems hTI rfl ?_);show wpAny _ _ (Builtin.SmallTypes.ownedTupleIsFree (.ref z) >>= _) _ _ _;refine wpAny_bind ?_
 unfold Builtin.SmallTypes.ownedTupleIsFree;refine wpAny_bind (wpAny_field hz rfl (x:=.none) rfl (wpAny_pure ?_));simp only[if_true];refine wpAny_bind (wpAny_rule ?_);refine wpAny_bind (wpAny_field hz rfl (x:=.ref TO) rfl ?_);refine wpAny_bind (wpAny_setField_rec hz (by simp) λh₁ hz₁ hs₁=>?_)
 replace hz₁:IsZip h₁ z TI TO .ellipsis:=hz₁
 refine wpAny_bind ?_
 simp only[List.zipIdx_cons,List.zipIdx_nil,forIn_cons,forIn_nil];refine wpAny_bind (wpAny_bind (wpAny_onRaise ?_));show wpAny _ _ (Builtin.SmallTypes.nextOf (.ref i1) >>= _) _ _ _;have fr1:St k1 h₁:=D1.frame k1 s.heap h₁ h1 λb hb o e=>hs₁.extBut _ _ (λx=>D.zf (x ▸ hb)) e
 rcases hend with hend|⟨hkn,hy⟩
 .refine wpAny_bind (hend {s with heap:=h₁} _ _ fr1 λh₂ e hs₂ he=>?_)
  have hs₂:Heap.ExtBut i1 h₁ h₂:=hs₂;obtain⟨oe,hoe,hce⟩:=he;have hz₂:IsZip h₂ z TI TO .ellipsis:=hs₂ _ _ D.i1z.symm hz₁;have hez:e≠z:=λx=>by subst x;rw[hz₂]at hoe;cases hoe;simp at hce
  refine wpAny_setField_rec hz₂ (by simp) λh₃ _ hs₃=>hE h₃ e _ (λc o c1 _ c3 _ x=>hs₃.extBut _ _ c1 (hs₂ _ _ c3 (hs₁.extBut _ _ c1 x))) ⟨oe,hs₃.extBut _ _ hez hoe,hce⟩
 .refine wpAny_bind (D1.item k1 {s with heap:=h₁} _ _ hkn fr1 λx h₂ tk hP h1₂ hs₂=>wpAny_pure ?_)
  have hs₂:Heap.SameBut i1 h₁ h₂:=hs₂;have hTO₂:IsPair h₂ TO a b:=hs₂.extBut _ _ D.TOi1 (hs₁.extBut _ _ D.TOz hTO);refine wpAny_bind (wpAny_seqItems hTO₂ rfl ?_);refine wpAny_bind (wpAny_updateSeq_pair hTO₂ λh₃ hTO₃ hs₃=>?_)
  have hs₃':Heap.SameBut TO h₂ h₃:=hs₃;refine wpAny_bind (wpAny_letGo (wpAny_pure ?_));refine wpAny_bind (wpAny_bind (wpAny_onRaise ?_));show wpAny _ _ (Builtin.SmallTypes.nextOf (.ref i2) >>= _) _ _ _;refine wpAny_bind (wpAny_nextOf_list_end hh (((h2.extBut hs₁.extBut D.i2z).extBut hs₂.extBut D.i12.symm).extBut hs₃'.extBut D.TOi2.symm)
   (((hl.extBut hs₁.extBut D.lz).extBut hs₂.extBut D.li1).extBut hs₃'.extBut D.lTO) hy λh₄ e hs₄ he=>?_)
  have hs₄:Heap.ExtBut i2 h₃ h₄:=hs₄;obtain⟨oe,hoe,hce⟩:=he;have hz₄:IsZip h₄ z TI TO .ellipsis:=hs₄ _ _ D.i2z.symm (hs₃'.extBut _ _ D.TOz.symm (hs₂.extBut _ _ D.i1z.symm hz₁));have hez:e≠z:=λx=>by subst x;rw[hz₄]at hoe;cases hoe;simp at hce
  refine wpAny_setField_rec hz₄ (by simp) λh₅ _ hs₅=>hE h₅ e _ (λc o c1 c2 c3 c4 x=>hs₅.extBut _ _ c1 (hs₄ _ _ c4 (hs₃'.extBut _ _ c2 (hs₂.extBut _ _ c3 (hs₁.extBut _ _ c1 x))))) ⟨oe,hs₅.extBut _ _ hez hoe,hce⟩
end
section
variable{prog:Program}{w:World}{A:Around}{E:Value->Shared->Prop}{s:Shared}
abbrev zH1(h:Heap)(x:Str)(t:Tok):Heap:=h.push {cls:=.type (strIterType x),data:=.fields #[.str x t,.int 0 0]}
abbrev zH2(h:Heap)(x:Str)(t:Tok)(l:Addr):Heap:=(zH1 h x t).push {cls:=.type "list_iterator",data:=.fields #[.ref l,.int 0 0]}
abbrev zH3(h:Heap)(x:Str)(t:Tok)(l:Addr):Heap:=(zH2 h x t l).push {cls:=.type "tuple",data:=.seq #[.ref h.objs.size,.ref (zH1 h x t).objs.size]}
abbrev zH4(h:Heap)(x:Str)(t:Tok)(l:Addr):Heap:=(zH3 h x t l).push {cls:=.type "tuple",data:=.seq #[.none,.none]}
abbrev zH5(h:Heap)(x:Str)(t:Tok)(l:Addr):Heap:=(zH4 h x t l).push {cls:=.type "zip",data:=.fields #[.none,.bool false,.bool false,.ref (zH2 h x t l).objs.size,.ref (zH3 h x t l).objs.size]}
theorem aQf(x:Str)(t:Tok)(l:Addr)(ys:Array Value) :
  Meets (Builtin.«zip.__new__» ⟨[.type "zip",.str x t,.ref l],[]⟩) (λ_ R s=>s.heap.IsList l ys/\
   R (.ok (.ret (.ref (zH4 s.heap x t l).objs.size))) {s with heap:=zH5 s.heap x t l}):=
 .of_wp λprog w A R s h=>by
  obtain⟨hp,g,d,tk,os⟩:=s;obtain⟨hl,h⟩:=h;have hsub:=sub_zip;have hL:Heap.IsList (Shared.heap ⟨hp.push {cls:=.type (strIterType x),data:=.fields #[.str x t,.int 0 0]},g,d,tk,os⟩) l ys:=Heap.IsList.push hl _
  wp_walk using wpAny_pyIter_strU,wpAny_pyIter_list hL
  exact⟨_,rfl,h⟩
theorem aUo{t:Tok}{l:Addr}{ys:Array Value} (hl:s.heap.IsList l ys)
  (h:∀h',IsZip h' (s.heap.objs.size+4) (s.heap.objs.size+2) (s.heap.objs.size+3) .none->IsPair h' (s.heap.objs.size+2) (.ref s.heap.objs.size) (.ref (s.heap.objs.size+1))->
   IsPair h' (s.heap.objs.size+3) .none .none->h'.IsStrIter s.heap.objs.size (strIterType x) x t 0->h'.IsListIter (s.heap.objs.size+1) l 0->h'.objs.size=s.heap.objs.size+5->
   (∀c o,s.heap.get? c=some o->h'.get? c=some o)->Q (.ref (s.heap.objs.size+4)) {s with heap:=h'}) :
  wpAny (model prog w) A (call (.type "zip") [.str x t,.ref l]) Q E s:=by
 refine callType_new PySem.F.called_zip (by decide) (PySem.F.typeCall_zip_2 _ _) (PySem.F.newCall_zip_2 _ _) (λobj=>PySem.F.args_object_init_3 obj _ _) PySem.F.entry_zip_new
  (aQf x t l ys) ⟨hl,?_⟩
 have z1:(zH1 s.heap x t).objs.size=s.heap.objs.size+1:=Heap.size_push ..;have z2:(zH2 s.heap x t l).objs.size=s.heap.objs.size+2:=by rw[Heap.size_push,z1]
 have z3:(zH3 s.heap x t l).objs.size=s.heap.objs.size+3:=by rw[Heap.size_push,z2]
 have z4:(zH4 s.heap x t l).objs.size=s.heap.objs.size+4:=by rw[Heap.size_push,z3]
 have z5:(zH5 s.heap x t l).objs.size=s.heap.objs.size+5:=by rw[Heap.size_push,z4]
 have g5:(zH5 s.heap x t l).get? (zH4 s.heap x t l).objs.size=some _:=Heap.get?_push_size _ rfl;have g4:(zH5 s.heap x t l).get? (zH3 s.heap x t l).objs.size=some _:=Heap.get?_push_of_some _ (Heap.get?_push_size _ rfl);have g3:(zH5 s.heap x t l).get? (zH2 s.heap x t l).objs.size=some _:=Heap.get?_push_of_some _ (Heap.get?_push_of_some _ (Heap.get?_push_size _ rfl));have g2:(zH5 s.heap x t l).get? (zH1 s.heap x t).objs.size=some _:=Heap.get?_push_of_some _ (Heap.get?_push_of_some _ (Heap.get?_push_of_some _ (Heap.get?_push_size _ rfl)));have g1:(zH5 s.heap x t l).get? s.heap.objs.size=some _:=Heap.get?_push_of_some _ (Heap.get?_push_of_some _ (Heap.get?_push_of_some _ (Heap.get?_push_of_some _ (Heap.get?_push_size _ rfl))));show _/\_;rw[z2,z3,z4]at g5;rw[z1,z2]at g3;rw[z3]at g4;rw[z1]at g2;rw[z4];exact⟨⟨_,g5,rfl⟩,h _ g5 g3 g4 ⟨_,g1,rfl,rfl⟩ ⟨_,g2,rfl,rfl⟩ z5 λc o x=>
  Heap.get?_push_of_some _ (Heap.get?_push_of_some _ (Heap.get?_push_of_some _ (Heap.get?_push_of_some _ (Heap.get?_push_of_some _ x))))⟩
theorem aKi(hh:A.handled=none)(it:Addr)(x:Str)(t:Tok){n:String}(hn:n="str_ascii_iterator"\/n="str_iterator") :
  Draws prog w A it [it] x.cps.size (λi v=>∃c u,x.cps[i]?=some c/\v=.str ⟨#[c]⟩ u) (λi h=>h.IsStrIter it n x t i):=by
 rcases hn with rfl|rfl
 .exact Draws.strAscii hh it x t
 .exact Draws.strWide hh it x t
theorem bBz(hh:A.handled=none){it:Addr} {t:Tok} {n:String} (hn:n="str_ascii_iterator"\/n="str_iterator") (st:s.heap.IsStrIter it n x t i) (hx:x.cps[i]?=none)
  (hE:∀h' e,Heap.ExtBut it s.heap h'->(∃o,h'.get? e=some o/\o.cls=.type "StopIteration")->E (.ref e) {s with heap:=h'}):wpAny (model prog w) A (Builtin.SmallTypes.nextOf (.ref it)) Q E s:=by
 rcases hn with rfl|rfl
 .exact wpAny_nextOf_ascii_end hh st hx hE
 .exact wpAny_nextOf_wide_end hh st hx hE
theorem aJ6(x:Str):strIterType x="str_ascii_iterator"\/strIterType x="str_iterator":=by
 unfold strIterType;split<;>simp
end
def Itz(K:Frag)(z:List Nat)(a:Addr):It:=
 ⟨λi H=>i<z.length/\∃xs x,SqL K H a xs/\xs[i]?=some x,λi H x H'=>∃T c v,x=V.ref T/\H T=none/\z[i]?=some c/\H'=upd H T (.tup [.str ⟨#[c]⟩,v])/\∀xs,SqL K H a xs->xs[i]?=some v,λi H=>∃xs,SqL K H a xs/\(z.length<=i\/xs.length<=i)⟩
theorem aYo{K:Frag} {x1} {tp:Pos} {zs:List Nat} {t:Tok} {n:String} (hn:n="str_ascii_iterator"\/n="str_iterator") (a z TI TO i1 i2:Addr) (D:∀l,l=a->ZApart z TI TO i1 i2 l [i1]) :
  Turn P w K (.Tuple elts x1 tp) (Itz K zs a) [z,TI,TO,i1,i2] z (λi h=>IsZip h z TI TO .none/\IsPair h TI (.ref i1) (.ref i2)/\(∃u v,IsPair h TO u v)/\h.IsStrIter i1 n ⟨zs.toArray⟩ t i/\h.IsListIter i2 a i) where
 mem:=by simp
 obj:=λi h st b hb=>by
  obtain⟨hz,hTI,⟨u,v,hTO⟩,⟨o1,q1,c1,d1⟩,⟨o2,q2,c2,d2⟩⟩:=st;simp only[mem_cons,not_mem_nil,or_false]at hb;rcases hb with rfl|rfl|rfl|rfl|rfl
  .exact⟨_,hz,λv z=>by cases z⟩
  .exact⟨_,hTI,λv z=>by cases z⟩
  .exact⟨_,hTO,λv z=>by cases z⟩
  .exact⟨o1,q1,λv z=>by rw[d1]at z;cases z⟩
  .exact⟨o2,q2,λv z=>by rw[d2]at z;cases z⟩
 keep:=λi h h' st k=>by
  obtain⟨hz,hTI,⟨u,v,hTO⟩,⟨o1,q1,r1⟩,h2⟩:=st;exact⟨k z (by simp) _ hz,k TI (by simp) _ hTI,⟨u,v,k TO (by simp) _ hTO⟩,⟨o1,k i1 (by simp) _ q1,r1⟩,h2.at λo x=>k i2 (by simp) o x⟩
 item:=by
  intro X hP hw hK hc i pins s σ H E I hf st hg;subst hP hw hK;obtain⟨hz,hTI,⟨u0,v0,hTO⟩,h1,h2⟩:=st;obtain⟨hi,xs,x,hq,hx⟩:=hg;obtain⟨its,rv,p,_⟩:=I.list hq;obtain⟨u,hu,ru⟩:=rv.get hx;have D:=D a rfl;have fo:∀b∈[z,TI,TO,i1,i2],H b=none:=λb hb=>(hf b hb).1
  have hT:H s.heap.objs.size=none:=I.hok.fresh (Nat.le_refl _);have hzt:s.TypeIs (.ref z) "zip":=⟨_,hz,rfl⟩;have hh:=I.ok.hd hc;unfold pyNext;refine wpAny_bind (wpAny_attempt (wpAny_callSpecial?_slot (name:=Str.ofString "__next__") hzt PySem.F.slot_zip_next
   (wpAny_call_entry PySem.F.slot_zip_next hzt PySem.F.entry_zip_next
    (aYn (aKi (A:=X.A.in1) hh i1 ⟨zs.toArray⟩ t hn) D hz hTI hTO h1 (by simpa using hi) h2 p.isList (y:=u) (by simpa using hu) λh' tk v hP a1 a2 a3 a4 a5 a6 hk=>wpAny_pure ?_) (PySem.F.args_zip_next_1 _))))
  obtain⟨c,uu,hcc,rfl⟩:=hP;refine⟨_,rfl,wpAny_letOwnedTupleGo_zip (s:={s with heap:=h',toks:=tk}) a1 λh9 hz9 sb=>?_⟩
  have hkeep:∀b o,b≠z->b≠TO->b≠i1->b≠i2->s.heap.get? b=some o->h9.get? b=some o:=λb o e1 e2 e3 e4 q=>(sb.2 b e1).trans (hk b o e1 e2 e3 e4 q)
  have zlt:z≠s.heap.objs.size:=Nat.ne_of_lt (Heap.lt_size hz);have htup:h9.get? s.heap.objs.size=some {cls:=.type "tuple",data:=.seq #[.str ⟨#[c]⟩ uu,u]}:=(sb.2 _ zlt.symm).trans a5;have nT:∀b u',H b=some u'->b≠s.heap.objs.size:=λb u' q=>bC q hT
  have nx:∀b u',H b=some u'->b≠z/\b≠TO/\b≠i1/\b≠i2:=λb u' q=>⟨bC q (fo z (by simp)),bC q (fo TO (by simp)),bC q (fo i1 (by simp)),bC q (fo i2 (by simp))⟩
  have mx:∀b:Addr,b∉[z,TI,TO,i1,i2]->b≠z/\b≠TO/\b≠i1/\b≠i2:=λb hb=>⟨λq=>hb (by simp[q]),λq=>hb (by simp[q]),λq=>hb (by simp[q]),λq=>hb (by simp[q])⟩
  have inL:∀b o,s.heap.get? b=some o->b≠s.heap.objs.size:=λb o q=>Nat.ne_of_lt (Heap.lt_size q)
  have kp:∀b o,b∉[z,TI,TO,i1,i2]->s.heap.get? b=some o->h9.get? b=some o:=λb o hb q=>hkeep b o (mx b hb).1 (mx b hb).2.1 (mx b hb).2.2.1 (mx b hb).2.2.2 q
  have un:Un (frs X.stack) [z,TI,TO,i1,i2] H (upd H s.heap.objs.size (.tup [.str ⟨#[c]⟩,x])) s.heap h9:=by
   refine⟨λb o q n hb hx=>kp b o hx q,λb o q n hb hx=>⟨o.slots,kp b o hx q⟩,λb o q n hx=>by rw[bQ (inL b o q)];exact n,λb o q hx=>⟨o,kp b o hx q⟩,λb ys q=>by rw[bQ (nT b _ q)];exact q,λb o u' q=>by rw[bQ (nT b _ q)];exact q,λb ps q=>⟨#[],by rw[bQ (nT b _ q),Array.append_empty];exact q⟩⟩
  have hok:HOk X.prog X.w (upd H s.heap.objs.size (.tup [.str ⟨#[c]⟩,x])) h9:=λb u' q=>by
   by_cases hb:b=s.heap.objs.size
   .subst hb;rw[bZ]at q;cases q;exact⟨show 2<=sizeLine by decide,[.str ⟨#[c]⟩ uu,u],.cons ⟨_,rfl⟩ (.cons ru .nil),_,htup,rfl,_,rfl⟩
   .rw[bQ hb]at q;refine(I.hok b u' q).stay (λc v hc' q'=>?_) (λc q'=>by rw[bQ (nT c _ q')];exact q') λc ys q'=>by rw[bQ (nT c _ q')];exact q'
    have:∃u'',H c=some u'':=by
     rcases hc' with z|z
     .exact⟨u',by rw[z];exact q⟩
     .exact⟨_,z⟩
    obtain⟨u'',hu''⟩:=this;obtain⟨e1,e2,e3,e4⟩:=nx c _ hu'';exact hkeep c v e1 e2 e3 e4 q'
  have I2:Inv X pins σ (upd H s.heap.objs.size (.tup [.str ⟨#[c]⟩,x])) {s with heap:=h9,toks:=tk}:=I.call (g':=s.gens) (t':=tk) (d':=s.drawn) (ch:=[z,TI,TO,i1,i2]) un hok I.bare λb hb=>by
   have fb:=hf b hb;exact⟨fb.2.2.2.1,fb.2.1,fb.2.2.2.2.1,fb.2.2.2.2.2⟩
  have up:∀b o,b≠z->h'.get? b=some o->h9.get? b=some o:=λb o e q=>(sb.2 b e).trans q
  refine⟨.ref s.heap.objs.size,_,I2,rfl,⟨_,c,x,rfl,hT,by simpa using hcc,rfl,λys hy=>by rw[I.list_inj hy hq];exact hx⟩,⟨hz9,up _ _ D.TIz (hk _ _ D.TIz D.TITO D.TIi1 D.TIi2 hTI),⟨_,_,up _ _ D.TOz a2⟩,?_,a4.at λo y=>up _ o D.i2z y⟩,λb hb=>?_⟩
  .obtain⟨o1,q1,r1⟩:=a3;exact⟨o1,up _ _ D.i1z q1,r1⟩
  .have hbs:∃o,s.heap.get? b=some o:=by
    simp only[mem_cons,not_mem_nil,or_false]at hb;obtain⟨o1,q1,_⟩:=h1;obtain⟨o2,q2,_⟩:=h2;rcases hb with rfl|rfl|rfl|rfl|rfl
    .exact⟨_,hz⟩
    .exact⟨_,hTI⟩
    .exact⟨_,hTO⟩
    .exact⟨_,q1⟩
    .exact⟨_,q2⟩
   obtain⟨o,q⟩:=hbs;rw[bQ (inL b o q)];exact fo b hb
 done:=by
  intro X hP hw hK hc i pins s σ H E I hf st hg;subst hP hw hK;obtain⟨hz,hTI,⟨u0,v0,hTO⟩,h1,h2⟩:=st;obtain⟨xs,hq,hx⟩:=hg;obtain⟨its,rv,p,_⟩:=I.list hq;have D:=D a rfl;have hzt:s.TypeIs (.ref z) "zip":=⟨_,hz,rfl⟩;have hh:=I.ok.hd hc;have hl:=rv.length;unfold pyNext;refine wpAny_bind (wpAny_attempt (wpAny_callSpecial?_slot (name:=Str.ofString "__next__") hzt PySem.F.slot_zip_next
   (wpAny_call_entry PySem.F.slot_zip_next hzt PySem.F.entry_zip_next
    (bBy (aKi (A:=X.A.in1) hh i1 ⟨zs.toArray⟩ t hn) hh D hz hTI hTO h1 h2 p.isList (by
     by_cases hi:zs.length<=i
     .refine .inl λs' Q E st hE=>bBz (A:=X.A.in1) hh hn st (by simpa using hi) hE
     .exact .inr ⟨by simpa using hi,by simp;omega⟩) λh' e tk hk he=>?_) (PySem.F.args_zip_next_1 _))))
  obtain⟨o,ho,hce⟩:=he;refine wpAny_bind (wpAny_isInstance (T:="StopIteration") (b:=true) ⟨o,ho,hce⟩ isSubtype_stop ?_);refine wpAny_pure ⟨rfl,?_⟩;have fo:∀b∈[z,TI,TO,i1,i2],H b=none:=λb hb=>(hf b hb).1
  have mx:∀b:Addr,b∉[z,TI,TO,i1,i2]->b≠z/\b≠TO/\b≠i1/\b≠i2:=λb hb=>⟨λq=>hb (by simp[q]),λq=>hb (by simp[q]),λq=>hb (by simp[q]),λq=>hb (by simp[q])⟩
  have kp:∀b o,b∉[z,TI,TO,i1,i2]->s.heap.get? b=some o->h'.get? b=some o:=λb o hb q=>hk b o (mx b hb).1 (mx b hb).2.1 (mx b hb).2.2.1 (mx b hb).2.2.2 q
  have un:Un (frs X.stack) [z,TI,TO,i1,i2] H H s.heap h':=
   ⟨λb o q n hb hx=>kp b o hx q,λb o q n hb hx=>⟨o.slots,kp b o hx q⟩,λb o q n hx=>n,λb o q hx=>⟨o,kp b o hx q⟩,λb ys q=>q,λb o u' q=>q,λb ps q=>⟨#[],by rw[Array.append_empty];exact q⟩⟩
  have hok:HOk X.prog X.w H h':=λb u' q=>by
   refine(I.hok b u' q).stay (λc v hc' q'=>?_) (λc q'=>q') λc ys q'=>q'
   have:∃u'',H c=some u'':=by
    rcases hc' with z|z
    .exact⟨u',by rw[z];exact q⟩
    .exact⟨_,z⟩
   obtain⟨u'',hu''⟩:=this;exact hk c v (bC hu'' (fo z (by simp))) (bC hu'' (fo TO (by simp))) (bC hu'' (fo i1 (by simp))) (bC hu'' (fo i2 (by simp))) q'
  exact I.call (g':=s.gens) (t':=tk) (d':=s.drawn) (ch:=[z,TI,TO,i1,i2]) un hok I.bare λb hb=>by
   have fb:=hf b hb;exact⟨fb.2.2.2.1,fb.2.1,fb.2.2.2.2.1,fb.2.2.2.2.2⟩
 self:=λ_ _ _ _ _ st h=>wpAny_pyIter_zip st.1 h
theorem aOm:∀(z:List Nat)(ds:List D),(aCm z ds).length=min z.length ds.length
 |[],ds=>by simp[aCm]
 |c::z,[]=>by simp[aCm]
 |c::z,d::ds=>by rw[aCm,length_cons,length_cons,length_cons,aOm];omega
theorem aOn:∀(z:List Nat)(ds:List D)(i:Nat)(d:D),(aCm z ds)[i]?=some d->∃c e,z[i]?=some c/\ds[i]?=some e/\d=.tup [.str [c],e]
 |[],ds,i,d,h=>by simp[aCm]at h
 |c::z,[],i,d,h=>by simp[aCm]at h
 |c::z,e::ds,0,d,h=>by
  rw[aCm]at h;simp at h;exact⟨c,e,rfl,rfl,h.symm⟩
 |c::z,e::ds,i+1,d,h=>by
  rw[aCm,getElem?_cons_succ]at h;obtain⟨c',e',h1,h2,h3⟩:=aOn z ds i d h;exact⟨c',e',by simpa using h1,by simpa using h2,h3⟩
section
variable {a b:Expr}
theorem bG2{K:Frag} {l:Addr} (hq:SqL K (hide (A++B) H) l vs) (r:bH K (hide (A++B) H) ds vs):aUd K B A H (Itz K z l) (aCm z ds):=by
 intro A' H' le own i;have hq':SqL K H' l vs:=(bN _ _).seq ((Le.app le).seq hq);refine⟨λd hd=>?_,λhl=>⟨vs,hq',?_⟩⟩
 .obtain⟨c,e,h1,h2,rfl⟩:=aOn z ds i d hd;obtain⟨v,hv,rv⟩:=r.get h2;refine⟨⟨(List.getElem?_eq_some_iff.mp h1).1,vs,v,hq',hv⟩,λx H3 y=>?_⟩
  obtain⟨T,c',v',rfl,hT,hc',rfl,h5⟩:=y;have hx:=h5 vs hq';rw[hv]at hx;cases hx;rw[h1]at hc';cases hc';exact⟨cH hT,aFf own hT (.cons (dH.mpr rfl) (.cons (rv.mono (Le.app le)) .nil))⟩
 .rw[aOm]at hl;rw[r.length];omega
theorem bG3{x1}{tp p:Pos}(hm:X.mg "zip"=none)(ha:PE X a (tI X.K B f))(hb:PE X b (tI X.K B g))(hg:Gl X "zip":=by rfl)(hs:starEach [a,b] X.env=(false,eval a X.env)::starEach [b] X.env:=by rfl)(hs2:starEach [b] X.env=[(false,eval b X.env)]:=by rfl):L2.PI X (.Tuple elts x1 tp) (.Call (.Name "zip" p) [a,b] [] pos) (tIt X.K B (bCw f g)):=by
 intro pins s σ H Rq I ⟨A,st,ds,rs,hd,q⟩;obtain⟨x,hx,h2⟩:=R.ok_of hd;obtain⟨y,hy,h3⟩:=R.ok_of h2;split at h3
 rotate_left
 .cases h3
 rename_i zs ws;cases h3;refine Call_ (aE4 I hg hm boot_zip (PyProof.Rows.callWith_type1 (thn ((eE ha (eE hb jG hs2) hs) pos pins s σ H (λvs H1=>∃v w,vs=[v,w]/\bF H H1/\Rep X.K (hide (A++B) H1) (.str zs) v/\Rep X.K (hide (A++B) H1) (.lst ws) w) I ⟨A,st,_,rs,hx,λv H1 s1 r1=>⟨A,st,_,rs.mono s1,hy,λw H2 s2 r2=>⟨v,w,rfl,s1.trans s2,r1.mono (bF.hide s2),r2⟩⟩⟩) λus s1 ⟨vs,H1,I1,r1,v,w,hv,sm,rv,rw'⟩=>?_) hs (by rw[hs2];rfl)))
 subst hv;obtain⟨u1,u2,rfl,ra,rb⟩:∃u1 u2,us=[u1,u2]/\L2.RelV v u1/\L2.RelV w u2:=by
  cases r1 with
  |cons ra rb=>
   cases rb with
   |cons rb rc=>
    cases rc;exact⟨_,_,rfl,ra,rb⟩
 obtain⟨l,ts,rfl,hq,rr⟩:=iG.mp rw';have ev:=dH.mp rv;subst ev;obtain⟨t,rfl⟩:=(show ∃t,u1=Value.str ⟨zs.toArray⟩ t from ra)
 have eu:u2=Value.ref l:=rb;subst eu;obtain⟨its,rvv,pl,hz⟩:=I1.list ((bN _ _).seq hq);have hlt:l<s1.heap.objs.size:=by
  obtain⟨o,e,_⟩:=pl.isList;exact Heap.lt_size e
 refine aUo pl.isList λh' hz' hTI hTO hit1 hit2 hsz hk=>?_
 refine wpAny_pyIter_zip hz' ⟨s1.heap.objs.size+4,[s1.heap.objs.size+4,s1.heap.objs.size+2,s1.heap.objs.size+3,s1.heap.objs.size,s1.heap.objs.size+1],_,Itz X.K zs l,H1,rfl,I1.kept (t':=s1.toks) hk,aYo (t:=t) (aJ6 ⟨zs.toArray⟩) l (s1.heap.objs.size+4) (s1.heap.objs.size+2) (s1.heap.objs.size+3) s1.heap.objs.size (s1.heap.objs.size+1) (λl' e=>?_),⟨hz',hTI,⟨_,_,hTO⟩,hit1,hit2⟩,λb hb=>?_,q _ H1 sm (bG2 hq rr)⟩
 .subst e;exact aQe hlt
 .simp only[mem_cons,not_mem_nil,or_false]at hb;rcases hb with rfl|rfl|rfl|rfl|rfl<;>exact I1.fpOk (by simp) (I1.hok.fresh (by simp))
end
section
variable {a b:Expr} {q:Pos}
theorem bG4{ta:TA}(hm:X.mg "range"=none)(ha:PA X [a] ta)(hg:Gl X "range":=by rfl)(hs:starEach [a] X.env=[(false,eval a X.env)]:=by rfl) :
  PE X (.Call (.Name "range" p1) [a] [] q) (λσ H Q=>ta σ H λvs H1=>∃j:Int,vs=[.int j]/\∀r,H1 r=none->Q (.ref r) (upd H1 r (.rng 0 j))):=by
 intro pins s σ H Q I h;refine Call_ (aE4 I hg hm boot_range (PyProof.Rows.callWith_type1 (thn (ha q pins s σ H _ I h) λus s1 ⟨vs,H1,I1,r1,j,e,qq⟩=>?_) hs rfl))
 subst e;cases r1 with
 |cons r rr=>
  cases rr;obtain⟨t,rfl⟩:=r;exact call_range_1 ⟨.ref s1.heap.objs.size,_,I1.laid (a:=s1.heap.objs.size) (o:=.rng 0 j) (λb o e=>Heap.get?_push_of_some _ e) (Nat.le_refl _) ⟨_,_,_,Heap.get?_push_size _ rfl⟩,rfl,qq _ (I1.hok.fresh (Nat.le_refl _))⟩
theorem aMa(hc:X.calm=true):mG X (.type "list") (λvs H Q=>∃r,∃j:Int,vs=[.ref r]/\H r=some (.rng 0 j)/\-10000000<=j/\j<=10000000/\∀n,H n=none->Q (.ref n) (upd H n (.lst ((List.range j.toNat).map λ(k:Nat)=>V.int (k:Int))))):=by
 intro pins s σ H vs us Q I r h;obtain⟨l,j,rfl,hl,h1,h2,q⟩:=h;obtain⟨u,rfl,ru⟩:=r.one;obtain rfl:u=Value.ref l:=ru;obtain⟨t,u,v,ho⟩:=(show ∃t u v,s.heap.get? l=some {cls:=.type "range",data:=.fields #[.int 0 t,.int j u,.int 1 v]} from I.hok l _ hl)
 have hn:Builtin.Range.rangeSize 0 j 1=(j.toNat:Nat):=by rw[rangeSize_one];split<;>omega
 refine call_list_range (I.ok.hd hc) ho (small_one (by omega) (by omega) (by omega) (by omega)) hn (by omega) λh' tk acc c' hk hs hi=>?_
 refine⟨.ref s.heap.objs.size,_,I.laid (o:=.lst ((List.range j.toNat).map λ(k:Nat)=>V.int (k:Int))) (t':=tk) hk (Nat.le_refl _) ⟨?_,acc.toList,c',?_,by simpa using hs⟩,rfl,q _ (I.hok.fresh (Nat.le_refl _))⟩
 .rw[length_map,length_range,sizeLine_eq];omega
 .obtain⟨h3,h4⟩:=hi;have key:∀(n:Nat)(xs:List Value),xs.length=n->(∀(k:Nat) w,xs[k]?=some w->∃t,w=.int (0+(k:Int)*1) t)->Vals ((List.range n).map λ(k:Nat)=>V.int (k:Int)) xs:=by
   intro n
   induction n with
   |zero=>intro xs hx _;rw[List.length_eq_zero_iff.mp hx];exact .nil
   |succ n ih=>
    intro xs hx hp;obtain⟨ys,y,rfl⟩:∃ys y,xs=ys++[y]:=by
     rcases List.eq_nil_or_concat xs with e|⟨ys,y,e⟩
     .rw[e]at hx;simp at hx
     .exact⟨ys,y,by rw[e,List.concat_eq_append]⟩
    have hy:ys.length=n:=by simpa using hx
    rw[List.range_succ,List.map_append];refine(ih ys hy λk w hk=>?_).append (.cons ?_ .nil)
    .exact hp k w (by rw[List.getElem?_append_left (List.getElem?_eq_some_iff.mp hk).1];exact hk)
    .obtain⟨t,e⟩:=hp n y (by rw[List.getElem?_append_right (by omega),hy];simp)
     exact⟨t,by rw[e];simp⟩
  exact key _ _ (by simpa using h3) λk w hk=>by
   obtain⟨t,e⟩:=h4 k w (by simpa using hk)
   exact⟨t,e⟩
theorem aQg{K:Frag} (n:Nat):bH K H (pF 0 n) ((List.range n).map λ(k:Nat)=>V.int (k:Int)):=by
 unfold pF;generalize List.range n=l
 induction l with
 |nil=>exact .nil
 |cons x l ih=>exact .cons (bO.mpr (by rw[Int.zero_add])) ih
theorem aOo(hm:X.mg "list"=none)(hr:X.mg "range"=none)(hc:X.calm=true)(ha:PE X a (tP X.K B f))(hg:Gl X "list":=by rfl)(hg2:Gl X "range":=by rfl)(hs:starEach [a] X.env=(false,eval a X.env)::starEach [] X.env:=by rfl)(hs2:starEach [Expr.Call (.Name "range" p1) [a] [] q] X.env=(false,eval (.Call (.Name "range" p1) [a] [] q) X.env)::starEach [] X.env:=by rfl) :
  PE X (.Call (.Name "list" p0) [.Call (.Name "range" p1) [a] [] q] [] pos) (tI X.K B (e1 aCn f)):=by
 refine cN (vA (aMa hc) hg hm (by rfl) (eE (bG4 hr (eE ha jG hs) hg2 hs) jG hs2) (he:=hs2)) ?_
 rintro σ H Q ⟨A,st,d,rs,hd,qq⟩;obtain⟨x,hx,h2⟩:=R.ok_of hd;refine⟨A,st,x,rs,hx,λv H1 s1 r1=>?_⟩
 cases x<;>first|(cases h2;done)|skip
 rename_i j;obtain⟨c,h3⟩:=aJ h2;cases h3;rw[pC]at c;refine⟨j,by rw[r1.int],λr hr=>⟨r,j,rfl,bZ,by omega,by omega,λn hn=>?_⟩⟩
 have w1:=rs.own.mono (s1.trans (cH (o:=.rng 0 j) hr));exact qq _ _ (s1.trans ((cH hr).trans (cH hn))) (iI w1 hn (aQg _))
theorem bC0(i:Nat) {dp:Pos} (hk:PE X a (tI X.K B g)) (hv:PE X b (tI X.K B f)) (hN:X.N.Nodup) (hi:X.N[i]?=some x:=by rfl) (hx:Loc X.env.scope x:=by first|exact Or.inl rfl|exact Or.inr rfl) (hs:swapsWith (.Dict [some a] [b] dp) (some (.Name x pos')) pos.line X.env=pure false:=by rfl)
  (hf:X.fn x=true\/X.env.scope.names.lookup x=some .local:=by first|exact .inl rfl|exact .inr rfl|assumption):PS X (.Assign [.Name x pos'] (.Dict [some a] [b] dp) pos) (tS X.K B (aPs i g f)):=nG (aKs hN hi hx (aZz (aVx hk hv aZy) rfl rfl (by simp) (show 1<=15 by omega)) hs hf) (by
 rintro Dn σ H ⟨A,st,r,rs,hr,p⟩;obtain⟨k,hk,h2⟩:=R.ok_of hr;obtain⟨d,hd,h3⟩:=R.ok_of h2;obtain⟨⟨c1,c2⟩,h4⟩:=aJ h3;cases h4;intro a ha;refine⟨A,st,k,rs.mono (cH ha),hk,λu H1 s1 r1=>⟨A,st,d,(rs.mono (cH ha)).mono s1,hd,λv H2 s2 r2=>?_⟩⟩
 have e2:H2 a=some (.dK []):=s2 _ _ (s1 _ _ bZ);obtain⟨kk,ek,ev⟩:∃kk:Key,oK kk=k/\u=kV kk:=by
  cases k<;>first|(cases c1;done)|skip
  .exact⟨.inl _,rfl,bO.mp r1⟩
  .refine⟨.inr ⟨_⟩,?_,dH.mp r1⟩;simp[oK]
 refine⟨e2,[(kk,v)],by rw[ev];rfl,(show 1<=15 by omega),?_⟩
 let G:Hp:=λb=>if b=a then none else H2 b
 have sG:bF H G:=λb o z=>by
  have hb:b≠a:=bC z ha;show (if b=a then none else H2 b)=_
  rw[if_neg hb];exact s2 _ _ (s1 _ _ (by rw[bQ hb];exact z))
 have gN:G a=none:=if_pos rfl;have eG:upd H2 a (.dK (aE8 [] [(kk,v)]))=upd G a (.dK [(kk,v)]):=by
  funext b
  by_cases hb:b=a
  .subst hb;rw[bZ,bZ];rfl
  .rw[bQ hb,bQ hb];exact(if_neg hb).symm
 rw[eG];exact p (a::A) _ _ ((Le.of sG).trans (aM0 gN)) ((rs.mono sG).setO (kk:=.d false [k]) i gN (.inl ⟨rfl,[(kk,v)],rfl,by rw[<-ek];rfl,rfl⟩) (.cons ((aYm c2 r2).mono bBx) .nil)))
end
theorem bitAnd_nn{i j:Int}(h1:0<=i)(h2:0<=j):Builtin.bitAnd i j=((i.toNat&&&j.toNat:Nat):Int):=by
 unfold Builtin.bitAnd;rw[decide_eq_true h1,decide_eq_true h2]
theorem aOp{i j:Int}(h1:0<=i)(h2:0<=j):Builtin.bitOr i j=((i.toNat|||j.toNat:Nat):Int):=by
 unfold Builtin.bitOr Builtin.bitAnd;have a1:¬ 0<=Builtin.bitNot i:=by unfold Builtin.bitNot;omega
 have a2:¬ 0<=Builtin.bitNot j:=by unfold Builtin.bitNot;omega
 rw[decide_eq_false a1,decide_eq_false a2];have e1:Builtin.bitNot (Builtin.bitNot i)=i:=by unfold Builtin.bitNot;omega
 have e2:Builtin.bitNot (Builtin.bitNot j)=j:=by unfold Builtin.bitNot;omega
 show Builtin.bitNot (Builtin.bitNot _)=_;rw[e1,e2];unfold Builtin.bitNot;omega
section
variable {a b:Expr}
theorem bDf(ha:PE X a (tP X.K B f))(hb:PE X b (tP X.K B g)):PE X (.BinOp a .LShift b pos) (tI X.K B (e2 aN7 f g)):=
 aFv bDz (aHx (g:=λi j=>.int (i*2^j.toNat)) (λ_ _ _=>bO.mpr rfl) λx y d e=>by
  unfold aN7 at e;split at e
  .obtain⟨c,e⟩:=aJ e;cases e;exact⟨_,_,rfl,rfl,c,rfl⟩
  .cases e) ha hb
theorem bIu(ha:PE X a (tP X.K B f))(hb:PE X b (tP X.K B g)):PE X (.BinOp a .RShift b pos) (tI X.K B (e2 aTt f g)):=
 aFv bE0 (aHx (g:=λi j=>.int (i/2^j.toNat)) (λ_ _ _=>bO.mpr rfl) λx y d e=>by
  unfold aTt at e;split at e
  .obtain⟨c,e⟩:=aJ e;cases e;exact⟨_,_,rfl,rfl,c,rfl⟩
  .cases e) ha hb
theorem aQh(ha:PE X a (tP X.K B f))(hb:PE X b (tP X.K B g)):PE X (.BinOp a .BitAnd b pos) (tI X.K B (e2 aL5 f g)):=
 aFv bE1 (uB (g:=λi j=>.int (Builtin.bitAnd i j)) (λ_ _ _=>bO.mpr rfl) λx y d e=>by
  unfold aL5 at e;split at e
  .obtain⟨c,e⟩:=aJ e;cases e;exact⟨_,_,rfl,rfl,by rw[bitAnd_nn c.1 c.2]⟩
  .cases e) ha hb
theorem aSv(ha:PE X a (tP X.K B f))(hb:PE X b (tP X.K B g)):PE X (.BinOp a .BitOr b pos) (tI X.K B (e2 dOr f g)):=
 aFv bH7 (uB (g:=λi j=>.int (Builtin.bitOr i j)) (λ_ _ _=>bO.mpr rfl) λx y d e=>by
  unfold dOr at e;split at e
  .obtain⟨c,e⟩:=aJ e;cases e;exact⟨_,_,rfl,rfl,by rw[aOp c.1 c.2]⟩
  .cases e) ha hb
theorem aIf{K:Frag}{H:Hp}:∀{l:List Int}{vs:List V},bH K H (l.map D.int) vs->vs=l.map V.int
 |[],vs,h=>dC.mp h
 |i::l,vs,h=>by
  obtain⟨v,r,rfl,h1,h2⟩:=bU.mp h;rw[bO.mp h1,aIf h2];rfl
theorem vals_ints:∀{l:List Int}{us:List Value},Vals (l.map V.int) us->∀(j:Nat)(h:j<us.length),∃i t,l[j]?=some i/\us[j]=.int i t
 |[],us,r,j,h=>by cases r;simp at h
 |i::l,us,r,j,h=>by
  cases r with
  |cons ra rb=>
   obtain⟨t,rfl⟩:=ra;cases j with
   |zero=>exact⟨i,t,rfl,rfl⟩
   |succ j=>
    obtain⟨i',t',h1,h2⟩:=vals_ints rb j (by simpa using h)
    exact⟨i',t',by simpa using h1,by simpa using h2⟩
theorem aUp:MtR X "list.index" (λx vs H Q=>∃(p:Addr)(l:List Int)(k:Int)(n:Nat),x=V.ref p/\vs=[.int k]/\SqL X.K H p (l.map V.int)/\l.findIdx? (λi=>i==k)=some n/\l.length<=10000000/\Q (.int (n:Int)) H):=by
 intro pins s σ H x vs v us Q I rx rv h;obtain⟨p,l,k,n,rfl,rfl,hq,hn,hl,q⟩:=h;obtain⟨u,rfl,ru⟩:=rv.one;obtain⟨t,rfl⟩:=(show ∃t,u=Value.int k t from ru)
 have ep:v=Value.ref p:=rx;subst ep;obtain⟨its,rr,⟨⟨cls,dd,data,sl⟩,n0,ho,hc,_,hd⟩,hz⟩:=I.list hq;have hlen:=rr.length;rw[length_map]at hlen;obtain⟨h1,h2,h3⟩:=List.findIdx?_eq_some_iff_getElem.mp hn;dsimp only at hc hd;subst hc hd;have hnu:n<its.length:=by omega
 refine call_meets PySem.F.slot_list_index ⟨_,ho,rfl⟩ PySem.F.entry_list_index (PySem.F.args_list_index_2 _ _) (PySem.SeqAt.list_indexAt p its.toArray n0 dd sl (.int k t) (λy=>match y with|.int i _=>i==k|_=>false) n (by simpa using hnu) (by omega) ?_ λm hm hmn=>?_) ⟨ho,λy hy=>?_,?_⟩
 .obtain⟨i,t',e1,e2⟩:=vals_ints rr n hnu;rw[List.getElem_toArray,e2];rw[List.getElem?_eq_getElem h1]at e1;cases e1;exact h2
 .have hm':m<its.length:=by simpa using hm
  obtain⟨i,t',e1,e2⟩:=vals_ints rr m hm';rw[List.getElem_toArray,e2];rw[List.getElem?_eq_getElem (by omega)]at e1
  cases e1;have:=h3 m hmn;simpa using this
 .obtain⟨m,hm,rfl⟩:=List.mem_iff_getElem.mp (show y∈its by simpa using hy)
  obtain⟨i,t',e1,e2⟩:=vals_ints rr m hm;rw[e2];exact(PySem.MeetsSeq.EqGives.int i k t' t).at _ _
 .exact⟨.int (n:Int),H,I.tok _,⟨_,rfl⟩,q⟩
theorem aYp{r:Exs}(ho:PE X o (tP X.K B f))(ha:PA X [e] (tA X.K B r))(hbase:attributeBase o "index" X.env (eval o X.env)=eval o X.env:=by rfl)
  (hfew:((backTo cpos (starEach [e] X.env)).all (λx=>!x.1)&&(backToKw cpos (keywordEach [] X.env)).all (λx=>x.1.isSome)
   && decide (([e]:List Expr).length+([]:List Keyword).length+(if ([]:List Keyword).isEmpty then 0 else 1)<30))=true:=by rfl)
  (hline:(apos.endLine==cpos.line)=true:=by rfl) (hs:starEach [e] X.env=(false,eval e X.env)::starEach [] X.env:=by rfl) :
  PE X (.Call (.Attribute o "index" apos) [e] [] cpos) (tI X.K B (eMt aRd f r)):=by
 refine cN (aR1 PySem.F.plainAttrs_list PySem.F.slot_list_index PySem.F.type_list_index aUp ho ha hbase hfew hline hs rfl) ?_
 rintro σ H Q ⟨A,st,d,rs,hd,k⟩;obtain⟨x,hx,h2⟩:=R.ok_of hd;obtain⟨xs,hxs,h3⟩:=R.ok_of h2;unfold aRd at h3;split at h3
 .rename_i ys j;obtain⟨l,hl,h4⟩:=R.ok_of h3;obtain⟨n,hn,h5⟩:=R.ok_of h4;obtain⟨c,h6⟩:=aJ h5;cases h6;have ey:=yR hl;subst ey;refine⟨A,st,_,rs,hx,λv H1 s1 r1=>?_⟩
  obtain⟨p,vs,e1,hq,rr⟩:=r1.lst;have ev:=aIf rr;subst ev;refine⟨by rw[e1];exact .inl ⟨rfl,_,hq⟩,A,st,_,rs.mono s1,hxs,λws H2 s2 r2=>?_⟩
  obtain⟨w,rfl,rw'⟩:=aKf r2;rw[pC,length_map]at c;exact⟨p,l,j,n,e1,by rw[bO.mp rw'],s2.seq hq,zR hn,c,k _ H2 (s1.trans s2) (bO.mpr rfl)⟩
 .cases h3
theorem bC1:MtR X "int.bit_length" (λx vs H Q=>∃i:Int,x=.int i/\vs=[]/\Q (.int ((Builtin.Int.intBits i:Nat):Int)) H):=by
 intro pins s σ H x vs v us Q I rx rv h;obtain⟨i,rfl,rfl,q⟩:=h;obtain⟨t,rfl⟩:=(show ∃t,v=Value.int i t from rx)
 have hus:=rv.zero;subst hus;exact call_int_bit_length ⟨.int _,H,I.tok _,⟨_,rfl⟩,q⟩
theorem bC2(i:Int):Builtin.Int.intBits i=vC i:=by
 unfold Builtin.Int.intBits vC
 by_cases h:i=0
 .rw[if_pos h,if_pos (by rw[h];rfl)]
 .rw[if_neg h,if_neg (by simpa using h)]
theorem bG5(ho:PE X o (tP X.K B f))(hbase:attributeBase o "bit_length" X.env (eval o X.env)=eval o X.env:=by rfl)(hline:(apos.endLine==cpos.line)=true:=by rfl) :
  PE X (.Call (.Attribute o "bit_length" apos) [] [] cpos) (tI X.K B (e1 aG4 f)):=by
 refine cN (aVt PySem.F.plainAttrs_int PySem.F.slot_int_bit_length PySem.F.type_int_bit_length bC1 ho hbase hline) ?_
 rintro σ H Q ⟨A,st,d,rs,hd,k⟩;obtain⟨x,hx,h2⟩:=R.ok_of hd;cases x<;>first|(cases h2;done)|skip
 cases h2;refine⟨A,st,_,rs,hx,λv H1 s1 r1=>⟨by rw[r1.int];rfl,_,r1.int,rfl,?_⟩⟩
 rw[bC2];exact k _ H1 s1 (bO.mpr rfl)
end
section
open PySem.SeqAt
open PySem.AutoSeq1 (wpAny_loadPart')
open PySem.MeetsSeq PySem.MeetsSeq2 PySem.MeetsSeq3
inductive LexW (A:Around) (s:Shared):List Value->List Value->Bool->Prop where
 |nn:LexW A s [] [] true
 |nc {w:Value} {ws:List Value}:LexW A s [] (w::ws) true
 |cn {v:Value} {vs:List Value}:LexW A s (v::vs) [] false
 |eq {v w:Value} {vs ws:List Value} {b:Bool}:EqAt A s v w true->LexW A s vs ws b->LexW A s (v::vs) (w::ws) b
 |lt {v w:Value} {vs ws:List Value} {b:Bool}:EqAt A s v w false->(∀(prog:Program)(wd:World)(E Q:Value->Shared->Prop),Q (.bool b) s->wpAny (model prog wd) A (richCompare .LtE v w) Q E s)->LexW A s (v::vs) (w::ws) b
end
theorem bG6{k:Key} (h:aGj k u=true):L2.RelV (kV k) u:=by
 rcases fZ h with ⟨i,t,rfl,rfl⟩|⟨x,t,rfl,rfl⟩
 .exact⟨t,rfl⟩
 .exact⟨t,rfl⟩
section
variable {a:Expr}
theorem bG7{kvs:List (Key×V)}{vs:List (Key×Value)}(r:KV kvs vs):vs.length=kvs.length:=by
 unfold KV at r
 induction r with
 |nil=>rfl
 |cons _ _ ih=>simp[ih]
end
end Pu
namespace Pu
section
open PySem PySem.Spec PyProof.Rows L2
variable {a b:Expr}
theorem aMb{K:Frag}:vN K (rI0 λi j=>.bl (decide (i<j))) aPt:=uB (g:=λi j=>.bl (decide (i<j))) (λ_ _ _=>cV.mpr rfl) λx y d e=>by
 unfold aPt at e;split at e
 .cases e;exact⟨_,_,rfl,rfl,rfl⟩
 .cases e
theorem aYq{i j:Int}(c:(-18446744073709551616<i/\i<18446744073709551616)\/(-18446744073709551616<j/\j<18446744073709551616)):aPc i j:=by
 unfold aPc;omega
theorem zV(ha:PE X a (tP X.K B f))(hb:PE X b (tP X.K B g)):PE X (.BinOp a .Mult b pos) (tI X.K B (e2 rZ f g)):=by
 refine aFv aVj ?_ ha hb;intro A H x y d v u Q w rx ry e q;unfold rZ at e;split at e
 .obtain⟨c,e⟩:=aJ e;cases e;exact⟨_,_,rx.int,ry.int,aYq c,q _ H (bF.refl _) (bO.mpr rfl)⟩
 .cases e
end
end Pu
namespace Pu
open PySem PySem.Spec PyProof.Rows L2
theorem bKa{K:Frag} {p:Addr} (s1:bF H H1) (hp:H1 p=none) (s2:bF H1 H') (hv:H' p=some (.lst vs)) (r:bH K (hide (A++p::B) H') ds vs):∃G,bF H G/\G p=none/\upd G p (.lst vs)=H'/\bH K (hide (A++B) G) ds vs:=by
 let G:Hp:=λb=>if b=p then none else H' b
 have gN:G p=none:=if_pos rfl;refine⟨G,λb o z=>?_,gN,?_,r.mono λb o z=>?_⟩
 .have hb:b≠p:=bC (s1 _ _ z) hp;show (if b=p then none else H' b)=_
  rw[if_neg hb];exact s2 _ _ (s1 _ _ z)
 .funext b
  by_cases hb:b=p
  .subst hb;rw[bZ,hv]
  .rw[bQ hb];exact if_neg hb
 .have hb:b∉A++p::B:=λw=>by rw[iH w]at z;cases z
  have z1:=bN _ _ _ _ z;rw[cB λw=>hb (mem_mid.mpr (.inr w))]
  show (if b=p then none else H' b)=_
  rw[if_neg λw=>hb (mem_mid.mpr (.inl w))]
  exact z1
def aOq(v d:Addr):HO:=.ext λh=>h.IsItemsView v d
section
variable {σ:List (Option V)}
theorem aYr(I:Inv X pins σ H s)(k:∀b u,s.heap.get? b=some u->h'.get? b=some u)(sm:bF H H')(hn:∀b,b<s.heap.objs.size->H' b=H b)(new:∀a o,H a=none->H' a=some o->iU X.prog X.w H' h' a o):Inv X pins σ H' {s with heap:=h',toks:=t'}:=by
 refine I.un ⟨λb u q _ _ _=>k b u q,λb u q _ _ _=>⟨u.slots,k b u q⟩,λb u q n _=>by rw[hn b (Heap.lt_size q)];exact n,λb u q _=>⟨u,k b u q⟩,λb xs q=>sm _ _ q,λb u xs q=>sm _ _ q,λb ps q=>⟨#[],by rw[sm _ _ q];simp⟩⟩ λa o e=>?_
 cases hH:H a with
 |none=>exact new a o hH e
 |some u=>
  have z:=sm a u hH;rw[e]at z;cases z;exact(I.hok a _ hH).stay (λb v _ q=>k b v q) (λb q=>sm _ _ q) λb xs q=>sm _ _ q
theorem aYs:MtR X "dict.items" (λx vs H Q=>∃(d:Addr) (kvs:List (Key×V)),x=.ref d/\vs=[]/\H d=some (.dK kvs)/\∀n,H n=none->Q (.ref n) (upd H n (aOq n d))):=by
 intro pins s σ H x vs v us Q I rx rv h;obtain⟨d,kvs,rfl,rfl,hd,q⟩:=h;cases rx;have hus:=rv.zero;subst hus;obtain⟨hz,hs,xs,kv,hD⟩:=aR2 I.hok hd;refine call_meetsIn PySem.F.slot_dict_items hD.typeIs PySem.F.entry_dict_items (PySem.F.args_dict_items_1 _) (meets_dict_items (fO X.prog X.w) d hs) ⟨⟨xs,hD⟩,?_⟩;have e:(s.heap.push {cls:=.type "dict_items",data:=.fields #[.ref d]}).get? s.heap.objs.size=some {cls:=.type "dict_items",data:=.fields #[.ref d]}:=Heap.get?_push_size _ rfl;exact⟨.ref s.heap.objs.size,_,I.laid (o:=aOq s.heap.objs.size d) (t':=s.toks) (λb u q=>Heap.get?_push_of_some _ q) (Nat.le_refl _) ⟨⟨_,e,rfl,rfl⟩,⟨_,e⟩,λh1 h2 ⟨o,ho,hc,hd⟩ k=>⟨o,k o ho,hc,hd⟩⟩,rfl,q _ (I.hok.fresh (Nat.le_refl _))⟩
theorem aQi:∀{kvs:List (Key×V)} {vs:List (Key×Value)} {j:Nat} {k:Key} {x:Value},KV kvs vs->vs[j]?=some (k,x)->∃p,kvs[j]?=some p/\p.1=k/\RelV p.2 x
 |_,_,j,k,x,.nil,e=>by simp at e
 |_,_,0,k,x,.cons h _,e=>by
  simp at e;subst e;exact⟨_,rfl,h.1,h.2⟩
 |_,_,j+1,k,x,.cons _ t,e=>by
  obtain⟨p,e1,e2⟩:=aQi (j:=j) (k:=k) (x:=x) t (by simpa using e)
  exact⟨p,by simpa using e1,e2⟩
theorem aQj(hc:X.calm=true):mG X (.type "list") (λvs H Q=>∃(v d:Addr) (kvs:List (Key×V)),vs=[.ref v]/\H v=some (aOq v d)/\H d=some (.dK kvs)/\
  ∀(n:Addr)(ps:List Addr)(H':Hp),bF H H'->H' n=none->ps.length=kvs.length->(∀a∈ps,H a=none)->(∀(j:Nat)(a:Addr),ps[j]?=some a->∃p,kvs[j]?=some p/\H' a=some (.tup [kV p.1,p.2]))->Q (.ref n) (upd H' n (.lst (ps.map V.ref)))):=by
 intro pins s σ H vs us Q I r h;obtain⟨v,d,kvs,rfl,hv,hd,q⟩:=h;obtain⟨u,rfl,ru⟩:=r.one;obtain rfl:u=Value.ref v:=ru;obtain⟨hz,hs,xs,kv,hD⟩:=aR2 I.hok hd;have hlen:=bG7 kv;obtain⟨ep,hat⟩:=hD.dictAt;obtain⟨hview,_,_⟩:=I.hok v _ hv;refine PySem.W.kdx_call (knd:=fO X.prog X.w) (I.ok.hd hc) hview hat (by omega) λh' tk acc c as hk hS hl hG hacc=>?_
 have nd:as.Nodup:=hG.rise.imp Nat.ne_of_lt;have lo:∀a∈as,s.heap.objs.size<a:=hG.above;have nn:∀a∈as,H a=none:=λa ha=>I.hok.fresh (Nat.le_of_lt (lo a ha))
 let G:Hp:=λb=>if b∈as then (kvs[as.idxOf b]?).map (λp=>.tup [kV p.1,p.2]) else H b
 have sG:bF H G:=λb o e=>by
  show (if b∈as then _ else H b)=_
  rw[if_neg λz=>by rw[nn b z]at e;cases e]
  exact e
 have gN:G s.heap.objs.size=none:=by
  show (if _∈as then _ else H _)=_
  rw[if_neg λz=>Nat.lt_irrefl _ (lo _ z)]
  exact I.hok.fresh (Nat.le_refl _)
 have gA:∀(j:Nat)(a:Addr),as[j]?=some a->∃p,kvs[j]?=some p/\G a=some (.tup [kV p.1,p.2]):=λj a e=>by
  obtain⟨key,k,x,e1,e2,e3⟩:=hG.pairs j a e;obtain⟨p,e4,e5,e6⟩:=aQi kv e1;refine⟨p,e4,?_⟩;show (if a∈as then _ else H a)=_
  rw[if_pos (List.mem_of_getElem? e)];obtain⟨hj,ej⟩:=List.getElem?_eq_some_iff.mp e;rw[<-ej,nd.idxOf_getElem j hj,e4];rfl
 refine⟨.ref s.heap.objs.size,_,aYr (H':=upd G s.heap.objs.size (.lst (as.map V.ref))) (t':=tk) I hk (sG.trans (cH gN)) (λb hb=>?_) (λa o ha e=>?_),rfl,q _ as G sG gN (by rw[hl];exact hlen) nn gA⟩
 .rw[bQ (Nat.ne_of_lt hb)];show (if b∈as then _ else H b)=_
  rw[if_neg λz=>Nat.lt_irrefl _ (Nat.lt_trans hb (lo _ z))]
 .by_cases hb:a=s.heap.objs.size
  .subst hb;rw[bZ]at e;cases e;refine⟨by rw[length_map,hl];omega,acc.toList,c,?_,by simpa using hS⟩
   rw[hacc];clear hacc hG nd lo nn gA sG gN hl G
   induction as with
   |nil=>exact .nil
   |cons a as ih=>exact .cons rfl ih
  .rw[bQ hb]at e;have ha':a∈as:=by
    refine Classical.byContradiction λz=>?_
    have e':(if a∈as then (kvs[as.idxOf a]?).map (λp=>HO.tup [kV p.1,p.2]) else H a)=some o:=e
    rw[if_neg z,ha]at e';cases e'
   obtain⟨j,hj⟩:=List.mem_iff_getElem?.mp ha';obtain⟨p,e1,e2⟩:=gA j a hj;obtain⟨key,k,x,f1,f2,f3⟩:=hG.pairs j a hj;obtain⟨p',g1,g2,g3⟩:=aQi kv f1;rw[e1]at g1;cases g1;rw[e2]at e;cases e;refine⟨by rw[sizeLine_eq];show 2<=16777216;decide,[key,x],.cons ?_ (.cons g3 .nil),_,f3,?_⟩
   .rw[g2];exact bG6 f2
   .exact⟨rfl,_,rfl⟩
theorem aIg{K:Frag}{H:Hp}:∀(kvs:List (Key×V)) (ds:List D) (ps:List Addr),bH K H ds (kvs.map (·.2))->ps.length=kvs.length->(∀(j:Nat)(a:Addr),ps[j]?=some a->∃p,kvs[j]?=some p/\H a=some (.tup [kV p.1,p.2]))->bH K H (List.zipWith (λk d=>.tup [k,d]) (kvs.map λp=>oK p.1) ds) (ps.map V.ref)
 |[],ds,ps,_,hl,_=>by
  rw[List.length_eq_zero_iff.mp hl];exact .nil
 |p::kvs,[],ps,r,_,_=>by
  have:=r.length;simp at this
 |p::kvs,d::ds,[],_,hl,_=>by simp at hl
 |p::kvs,d::ds,a::ps,r,hl,h=>by
  obtain⟨v,rest,e,r1,r2⟩:=bU.mp r;cases e;obtain⟨p',e1,e2⟩:=h 0 a rfl;cases e1;refine .cons (zQ.mpr ⟨a,_,rfl,e2,.cons ?_ (.cons r1 .nil)⟩) (aIg kvs ds ps r2 (by simpa using hl) λj b hj=>?_)
  .obtain⟨k,v⟩:=p;cases k with
   |inl i=>exact bO.mpr rfl
   |inr x=>exact dH.mpr (by simp[kV])
  .obtain⟨p',e1,e2⟩:=h (j+1) b (by simpa using hj)
   exact⟨p',by simpa using e1,e2⟩
end
section
variable{X:Cx}{B:List Addr}{a e:Expr}{es:List Expr}{f:Ex}{pos p0 apos cpos:Pos}{sm:Stmt}{rest:List Stmt}{bd bd':Bd}{r:Exs}
theorem bC3(hm:X.mg "list"=none)(hc:X.calm=true)(ha:PE X a (tI X.K B f))(hg:Gl X "list":=by rfl)(hbase:attributeBase a "items" X.env (eval a X.env)=eval a X.env:=by rfl)(hline:(apos.endLine==cpos.line)=true:=by rfl)
  (hs:starEach [.Call (.Attribute a "items" apos) [] [] cpos] X.env=(false,eval (.Call (.Attribute a "items" apos) [] [] cpos) X.env)::starEach [] X.env:=by rfl):PE X (.Call (.Name "list" p0) [.Call (.Attribute a "items" apos) [] [] cpos] [] pos) (tF X.K B (e1 aGy f)):=by
 refine cN (vA (aQj hc) hg hm (by rfl) (eE (aVt PySem.F.plainAttrs_dict PySem.F.slot_dict_items PySem.F.type_dict_items aYs ha hbase hline) jG hs) (he:=hs)) ?_
 rintro σ H Q ⟨A,st,ds,rs,hd,q⟩;obtain⟨x,hx,h2⟩:=R.ok_of hd;refine⟨A,st,x,rs,hx,λv H1 s1 r1=>?_⟩
 unfold aGy at h2;split at h2
 .obtain⟨c,h3⟩:=aJ h2;cases h3;obtain⟨p,vs,rfl,h4,r4⟩:=wL.mp r1;rcases h4 with ⟨_,kvs,h5,rfl,rfl⟩|⟨h5,_⟩
  .have h6:=bN _ _ _ _ h5;refine⟨.inr (.inr (.inl ⟨rfl,.inl ⟨kvs,h6⟩⟩)),p,kvs,rfl,rfl,h6,λn hn=>⟨n,p,kvs,rfl,bZ,by rw[bQ (bC h6 hn)];exact h6,λm ps H' s2 hm' hl hps hp=>?_⟩⟩
   have s3:=(cH (o:=aOq n p) hn).trans s2;refine q m _ H' (s1.trans s3) hm' (aIg kvs _ ps (r4.mono (bF.hide s3)) hl λj b hj=>?_)
   obtain⟨p',e1,e2⟩:=hp j b hj;have hb:=hps b (List.mem_of_getElem? hj);exact⟨p',e1,by rw[cB ((rs.own.mono (s1.trans (cH (o:=aOq n p) hn))).free hb)];exact e2⟩
  .cases h5
 .cases h2
def tSR(K:Frag)(B:List Addr)(b:Bd)(f:Ex):TS:=λDn σ H=>∃A st st' xs,RS K B A H st σ/\b st=.ok (.nx st')/\f st'=.ok (.lst xs)/\∀A' a vs H',Le A H A' H'->a∈A'->H' a=some (.lst vs)->bH K (hide (A'++B) H') xs vs->Dn.rt (.ref a) H'
theorem aSw(h1:PS X sm (tS X.K B bd))(h2:PSs X rest (tSR X.K B bd' f)):PSs X (sm::rest) (tSR X.K B (bG bd bd') f):=aAl (aGk h1 h2) (by
 rintro Dn σ H ⟨A,st,st',xs,rs,hb,hi,q⟩;unfold bG aJ2 at hb;obtain⟨fl,hfl,h3⟩:=R.ok_of hb;refine⟨A,st,fl,rs,hfl,?_⟩;cases fl with
 |nx s1=>exact λA' σ' H' l rs'=>⟨A',s1,st',xs,rs',h3,hi,λA2 a vs H2 l2=>q A2 a vs H2 (l.trans l2)⟩
 |rt d=>cases h3
 |bk s1=>cases h3
 |ct s1=>cases h3)
theorem aYt(he:PE X e (tF X.K B f)):PSs X [.Return (some e) pos] (tSR X.K B dM f):=aAl (aKq (aP9 he)) (by
 rintro Dn σ H ⟨A,st,st',xs,rs,hb,hf,q⟩;cases hb;exact⟨A,st,xs,rs,hf,λp vs H' s hp r=>q (p::A) p vs (upd H' p (.lst vs)) ((Le.of s).trans (aM0 hp)) mem_cons_self bZ (r.mono (aDj hp))⟩)
end
section
variable {K:Frag} {st:Stmt} {f:Addr} {k:Nat}
theorem bIv(F:FunD K x qual st dV f fd)(S:FnScope N ps (aG st))(np n:Nat)(bd:Bd)(g:Ex)(hnp:ps.length=np)(hn:N.length=n)
  (hb:∀(cdv:Value)(A:Around)(outer:List Env)(s:Shared)(H:Hp)(E:XK)(B:List Addr),Room k (A.deeper (envOfC qual (aG st) s.heap.objs.size f cdv))->
   PSs (aGm CX0 P w K mg base N qual (aG st) f cdv A outer s H E).nox (dO st) (tSR K B bd g)):FnOk P w K mg base CX0 (k+1) f fd ps (spF K np (cT np n (tQ bd g))):=by
 refine F.okX S (λvs H Q E h=>?_) (λcdv A outer s H vs Q E hr h=>?_)
 .obtain⟨A,ds,d,own,r,hl,_⟩:=h;rw[r.length,hl,hnp]
 .obtain⟨B,ds,xs,own,r,hl,hp,q⟩:=h;refine⟨tSR K B bd g,hb cdv A outer s H E B hr,?_⟩;obtain⟨_,h2⟩:=aJ hp;obtain⟨fl,hfl,h3⟩:=R.ok_of h2;have rs:=aI3 (N:=N) own r;rw[hl,hn]at rs;unfold tQ at hfl;split at hfl
  .rename_i s1 hf1;obtain⟨d,hd,h4⟩:=R.ok_of hfl;split at h4
   .cases h4;cases h3;refine⟨[],_,s1,_,rs,hf1,hd,λA' a vs' H' l ha hv rv=>?_⟩
    have sm:bF H H':=by
     unfold Le at l;rw[vM]at l;exact l.trans (bN _ _)
    refine q a vs' H' sm ?_ hv (rv.mono (lO λb hb=>?_))
    .cases hH:H a with
     |none=>rfl
     |some o=>
      have z:=l a o (by rw[vM];exact hH)
      rw[iH ha]at z;cases z
    .rcases List.mem_cons.mp hb with rfl|hb
     .exact List.mem_append_left _ ha
     .exact List.mem_append_right _ hb
   .cases h4
  .cases hfl
theorem aUq(ds:List D)(d:D)(h:cT np n (tQ bd g) ds=.ok d):∃xs,d=.lst xs:=by
 obtain⟨_,h2⟩:=aJ h;obtain⟨fl,hfl,h3⟩:=R.ok_of h2;unfold tQ at hfl;split at hfl
 .obtain⟨d,hd,h4⟩:=R.ok_of hfl;split at h4
  .cases h4;cases h3;exact⟨_,rfl⟩
  .cases h4
 .cases hfl
end
structure DefOkF(P:Program)(w:World)(K:Frag)(mg:Str->Option Value)(base:Heap)(x:Str)(k np:Nat)(p:List D->R D):Prop where
 ex:∃(fa:Addr)(fd:FuncData)(ps:List Str),FnOk P w K mg base CX0 k fa fd ps (spF K np p)/\mg x=some (.ref fa)/\keepIn K (.ref fa)=true/\Binds K fd ps []
 len:∀ds d,p ds=.ok d->ds.length=np
 lst:∀ds d,p ds=.ok d->∃xs,d=.lst xs
theorem DefOkF.of{K:Frag} {k:Nat} (h:FnOk P w K mg base CX0 k fa fd ps (spF K np (cT np n (tQ bd g)))) (m:mg x=some (.ref fa))
  (kp:keepIn K (.ref fa)=true) (b:Binds K fd ps []):DefOkF P w K mg base x k np (cT np n (tQ bd g)):=⟨⟨fa,fd,ps,h,m,kp,b⟩,aDm,aUq⟩
theorem DefOkF.plain{K:Frag} {k:Nat} (h:DefOkF P w K mg base x k np p):DefOk P w K mg base x k np p:=by
 obtain⟨fa,fd,ps,F,m,kp,bd⟩:=h.ex;exact⟨⟨fa,fd,ps,aKh h.lst F,m,kp,bd⟩,h.len⟩
section
variable {r:Exs}
theorem bC4{k:Nat} (h:DefOkF X.prog X.w X.K X.mg X.base x k np p) (hr:Room j X.A) (hk:k<=j) (ha:PA X (e::es) (tA X.K B r)) (hg:Gl X x:=by rfl) (hdb:(x==("__debug__":Str))=false:=by decide)
  (he:starEach (e::es) X.env=(false,eval e X.env)::starEach es X.env:=by rfl) (hpl:(backTo pos (starEach es X.env)).any (·.1)=false:=by rfl):PE X (.Call (.Name x p0) (e::es) [] pos) (tF X.K B (aW p r)):=by
 obtain⟨fa,fd,ps,F,m,kp,bd⟩:=h.ex;refine cN (aQx F (hr.mono hk) hg m kp bd .nil aMx ha hdb he hpl) ?_
 rintro σ H Q ⟨A,st,d,rs,hd,q⟩;obtain⟨xs,hx,h2⟩:=R.ok_of hd;refine⟨A,st,xs,rs,hx,λvs H1 s1 r1=>?_⟩
 show spF X.K np p (vs++[]) H1 Q E0;rw[append_nil];refine⟨A++B,xs,d,rs.own.mono s1,r1,h.len _ _ h2,h2,λa ws H' s' ha' hv rv=>?_⟩
 have e0:upd (hide [a] H') a (.lst ws)=H':=by
  funext b
  by_cases hb:b=a
  .subst hb;rw[bZ];exact hv.symm
  .rw[bQ hb,cB (by simpa using hb)]
 have z:=q a ws (hide [a] H') (λb u hz=>?_) (iH (by simp)) ?_
 .rw[e0]at z;exact z
 .have hz2:=s1 _ _ hz;rw[cB (by simpa using bC hz2 ha')]
  exact s' _ _ hz2
 .refine rv.mono λb u hz=>?_
  have hb:b∉a::(A++B):=λy=>by rw[iH y]at hz;cases hz
  rw[cB λy=>hb (mem_cons_of_mem _ y),cB (by simpa using λy=>hb (by rw[y];exact mem_cons_self))]
  exact bN _ _ _ _ hz
end
structure DA(K:Frag)(n:Str)(st:Stmt):Prop where
 ex:∃(f:Addr)(fd:FuncData),nsIn K mainGlobals n=some (some (.ref f))/\FunD K n n st .none f fd
section
variable{P:Program}{w:World}{K:Frag}{h base:Heap}{mg:Str->Option Value}{n:Str}{st:Stmt}{f:Addr}{ps:List Str}{k np m:Nat}{p:List D->R D}{bd:Bd}{g:Ex}
theorem dN{od an:Option Addr} {kV doc pm cdv ct:Value} (a:nsIn K mainGlobals n=some (some (.ref f))) (l:K.lookup f=some ⟨oc,od,.func (fnOf n n (fX st) (dO st) (aG st) .none kV doc pm an cdv ct),osl⟩)
  (c:codeIn K cdv n=true) (k:keepIn K (.ref f)=true):DA K n st:=⟨⟨f,_,a,aAq l c k⟩⟩
structure Ct(P:Program)(w:World)(K:Frag)(mg:Str->Option Value)(base h:Heap):Prop where
 X:K.In h
 G:h.Ns mainGlobals mg
def Bn(n:Str)(st:Stmt)(ps:List Str):Prop:=∀(kV doc pm:Value)(an:Option Addr)(cdv ct:Value)(us:List Value),us.length=ps.length->bindArgs (fnOf n n (fX st) (dO st) (aG st) .none kV doc pm an cdv ct) ⟨us,[]⟩=pure (ps.zip us)
structure BnA(n q:Str)(st:Stmt)(ps:List Str):Prop where
 ok:∀(kV doc pm:Value)(an:Option Addr)(cdv ct:Value)(us:List Value),us.length=ps.length->bindArgs (fnOf n q (fX st) (dO st) (aG st) .none kV doc pm an cdv ct) ⟨us,[]⟩=pure (ps.zip us):=by first|exact λ_ _ _ _ _ _=>aSr rfl|exact λ_ _ _ _ _ _=>aM8 λ_=>rfl|exact λ_ _ _ _ _ _=>aM9 λ_ _=>rfl|exact λ_ _ _ _ _ _=>aAs λ_ _ _=>rfl|exact λ_ _ _ _ _ _=>aSs λ_ _ _ _=>rfl|exact λ_ _ _ _ _ _=>aSt λ_ _ _ _ _=>rfl|exact λ_ _ _ _ _ _=>bBw λ_ _ _ _ _ _=>rfl
theorem DA.use(D:DA K n st)(C:Ct P w K mg base h)(b:Bn n st ps):∃(f:Addr)(fd:FuncData),FunD K n n st .none f fd/\mg n=some (.ref f)/\Binds K fd ps []:=by
 obtain⟨f,fd,a,F⟩:=D.ex;exact⟨f,fd,F,mg_of C.X C.G a,F.binds0 b⟩
theorem DA.ok(D:DA K n st)(C:Ct P w K mg base h)(r:∀{f:Addr}{fd:FuncData},FunD K n n st .none f fd->FnOk P w K mg base CX0 k f fd ps (spI K np (cT np m bd)))(b:BnA n n st ps:=by exact {}):DefOk P w K mg base n k np (cT np m bd):=by
 obtain⟨f,fd,F,a,z⟩:=D.use C b.ok;exact .of (r F) a F.kp z aDm
theorem DA.okF(D:DA K n st)(C:Ct P w K mg base h)(r:∀{f:Addr}{fd:FuncData},FunD K n n st .none f fd->FnOk P w K mg base CX0 k f fd ps (spF K np (cT np m (tQ bd g))))(b:BnA n n st ps:=by exact {}):DefOkF P w K mg base n k np (cT np m (tQ bd g)):=by
 obtain⟨f,fd,F,a,z⟩:=D.use C b.ok;exact .of (r F) a F.kp z
structure MA(K:Frag)(C:Addr)(m:String)(n q:Str)(st:Stmt):Prop where
 ex:∃(f:Addr)(fd:FuncData),Meth K C (Str.ofString m) f/\FunD K n q st .none f fd
theorem aBj{m:String}{q:Str} {od an:Option Addr} {kV doc pm cdv ct:Value} (a:findIn K (.ref C) (Str.ofString m)=some (some (.ref f))) (e:isFn K (.ref f)=true) (l:K.lookup f=some ⟨oc,od,.func (fnOf n q (fX st) (dO st) (aG st) .none kV doc pm an cdv ct),osl⟩)
  (c:codeIn K cdv q=true) (k:keepIn K (.ref f)=true):MA K C m n q st:=⟨⟨f,_,⟨a,e,k⟩,aAq l c k⟩⟩
theorem MA.ok{C:Addr}{c m:String}{q:Str}{j:Nat}(D:MA K C m n q st)(_:Ct P w K mg base h)(hc:ClsAt K c C)(r:∀{f:Addr}{fd:FuncData},FunD K n q st .none f fd->FnOk P w K mg base CX0 k f fd ps (spI K np (cT np j bd)))(b:BnA n q st ps:=by exact {}):MethOk P w K mg base c m k np [] (cT np j bd):=by
 obtain⟨f,fd,M,F⟩:=D.ex;exact MethOk.of (dvs:=[]) hc M (r F) (F.binds0 b.ok) .nil λ_=>.nil
end
end Pu
namespace Pu
open PySem
structure TI(b:Bool)(t:SetTable):Prop where
 rise:t.place.toList.Pairwise (· < ·)
 dum:t.dummies = #[]
 led:t.led=b
theorem aIh(xs:Array Nat)(j:Nat)(hr:xs.toList.Pairwise (· < ·)):∀(fuel lo hi:Nat),hi-lo<=fuel->lo<=hi->hi<=xs.size->(∀(i:Nat)(a:Nat),i<lo->xs[i]?=some a->a<j)->(∀(i:Nat)(a:Nat),hi<=i->xs[i]?=some a->j<=a)->
  (∀(i:Nat)(a:Nat),i<SetTable.below.go xs j fuel lo hi->xs[i]?=some a->a<j)/\(∀(i:Nat)(a:Nat),SetTable.below.go xs j fuel lo hi<=i->xs[i]?=some a->j<=a)/\SetTable.below.go xs j fuel lo hi<=xs.size
 |0,lo,hi,hf,hl,hs,h1,h2=>by
  have e:lo=hi:=by omega
  subst e;exact⟨h1,h2,hs⟩
 |fuel+1,lo,hi,hf,hl,hs,h1,h2=>by
  unfold SetTable.below.go;have up:∀(i k:Nat)(a b:Nat),i<k->xs[i]?=some a->xs[k]?=some b->a<b:=λi k a b hik ha hb=>by
   rw[<-getElem?_toList]at ha hb;obtain⟨hi',ei⟩:=List.getElem?_eq_some_iff.mp ha;obtain⟨hk',ek⟩:=List.getElem?_eq_some_iff.mp hb;have:=List.pairwise_iff_getElem.mp hr i k hi' hk' hik;rw[ei,ek]at this;exact this
  by_cases hlt:lo<hi
  .rw[if_pos hlt];have hm:(lo+hi)/2<xs.size:=by omega
   have hx:xs[(lo+hi)/2]?=some xs[(lo+hi)/2]:=Array.getElem?_eq_getElem hm;have hg:xs.getD ((lo+hi)/2) j=xs[(lo+hi)/2]:=by rw[getD_eq_getD_getElem?,hx];rfl
   dsimp only;rw[hg]
   by_cases hc:xs[(lo+hi)/2] < j
   .rw[if_pos hc];refine aIh xs j hr fuel _ _ (by omega) (by omega) hs (λi a hi' ha=>?_) h2
    by_cases he:i=(lo+hi)/2
    .subst he;rw[hx]at ha;cases ha;exact hc
    .exact Nat.lt_trans (up i _ a _ (by omega) ha hx) hc
   .rw[if_neg hc];refine aIh xs j hr fuel _ _ (by omega) (by omega) (by omega) h1 λi a hi' ha=>?_
    by_cases he:i=(lo+hi)/2
    .subst he;rw[hx]at ha;cases ha;omega
    .have:=up _ i _ a (by omega) hx ha;omega
  .rw[if_neg hlt];have e:lo=hi:=by omega
   subst e;exact⟨h1,h2,hs⟩
theorem aIi(xs:Array Nat)(j:Nat)(hr:xs.toList.Pairwise (· < ·)):(∀(i:Nat)(a:Nat),i<SetTable.below xs j->xs[i]?=some a->a<j)/\(∀(i:Nat)(a:Nat),SetTable.below xs j<=i->xs[i]?=some a->j<=a)/\SetTable.below xs j<=xs.size:=
 aIh xs j hr xs.size 0 xs.size (by omega) (zero_le _) (Nat.le_refl _) (λi a h=>absurd h (not_lt_zero _)) λi a h ha=>by
  have:=(Array.getElem?_eq_some_iff.mp ha).1;omega
theorem aOr(xs:Array Nat)(j:Nat)(hr:xs.toList.Pairwise (· < ·))(hn:xs[SetTable.below xs j]?≠some j):(SetTable.insertAt xs (SetTable.below xs j) j).toList.Pairwise (· < ·):=by
 obtain⟨h1,h2,h3⟩:=aIi xs j hr;have e:(SetTable.insertAt xs (SetTable.below xs j) j).toList=xs.toList.take (SetTable.below xs j)++j::xs.toList.drop (SetTable.below xs j):=by
  unfold SetTable.insertAt;simp only[Array.toList_append,toList_push,Array.toList_extract];simp[List.extract_eq_drop_take,List.append_assoc];rw[List.take_of_length_le (by simp)]
 rw[e,List.pairwise_append];have ge:∀a∈xs.toList.drop (SetTable.below xs j),j<a:=λa ha=>by
  obtain⟨k,hk⟩:=List.mem_iff_getElem?.mp ha;rw[List.getElem?_drop,getElem?_toList]at hk;have:=h2 _ a (Nat.le_add_right _ _) hk;rcases Nat.lt_or_eq_of_le this with h|h
  .exact h
  .subst h;exfalso;have hb:SetTable.below xs j<xs.size:=by have:=(Array.getElem?_eq_some_iff.mp hk).1;omega
   have hx:xs[SetTable.below xs j]?=some xs[SetTable.below xs j]:=Array.getElem?_eq_getElem hb;have g1:=h2 _ _ (Nat.le_refl _) hx
   by_cases hz:k=0
   .subst hz;rw[Nat.add_zero]at hk;exact hn hk
   .have hk':=(Array.getElem?_eq_some_iff.mp hk);have:=List.pairwise_iff_getElem.mp hr (SetTable.below xs j) (SetTable.below xs j+k) (by simpa using hb) (by simpa using hk'.1) (by omega)
    rw[Array.getElem_toList,Array.getElem_toList,hk'.2]at this;omega
 refine⟨hr.sublist (List.take_sublist _ _),List.pairwise_cons.mpr ⟨ge,hr.sublist (List.drop_sublist _ _)⟩,λa ha b hb=>?_⟩
 have la:a<j:=by
  obtain⟨k,hk⟩:=List.mem_iff_getElem?.mp ha;rw[List.getElem?_take]at hk;split at hk
  .rename_i hlt;rw[getElem?_toList]at hk;exact h1 k a hlt hk
  .cases hk
 rcases List.mem_cons.mp hb with rfl|hb
 .exact la
 .exact Nat.lt_trans la (ge b hb)
theorem aSx(j:Nat):SetTable.has #[] j=false:=rfl
theorem aOs(t:SetTable)(hashAt:Nat->Int)(h:Int)(hd:t.dummies = #[]):∀(fuel:Nat)(p:SetTable.Probe)(j:Nat)(d:Option Nat),SetTable.probe.go t hashAt h fuel p=some (.empty j d)->t.slot j=.empty/\d=p.dummy
 |0,p,j,d,e=>by cases e
 |fuel+1,p,j,d,e=>by
  unfold SetTable.probe.go at e;cases hs:t.slot p.j with
  |empty=>rw[hs]at e;cases e;exact⟨hs,rfl⟩
  |dummy=>
   exfalso;unfold SetTable.slot at hs;dsimp only at hs;split at hs
   .cases hs
   .rw[hd,aSx]at hs;cases hs
  |live i=>
   rw[hs]at e;dsimp only at e;have adv:(t.advance p).dummy=p.dummy:=by
    unfold SetTable.advance;split<;>rfl
   split at e
   .cases e
   .obtain⟨a,b⟩:=aOs t hashAt h hd fuel _ j d e;exact⟨a,b.trans adv⟩
theorem aUr{t:SetTable}{h:Int} {w:Bool} (hd:t.dummies = #[]) (e:t.freeSlot h=some (j,w)):t.slot j=.empty:=by
 unfold SetTable.freeSlot at e;split at e
 .rename_i j' d hp;obtain⟨a,b⟩:=aOs t _ h hd _ _ _ _ hp;have:d=none:=b;subst this;cases e;exact a
 .cases e
theorem aUs{t:SetTable} (h:t.slot j=.empty):t.place[SetTable.below t.place j]?≠some j:=λe=>by
 unfold SetTable.slot at h;dsimp only at h;rw[if_pos (by rw[e];exact beq_self_eq_true _)]at h
 cases h
theorem TI.put{b:Bool}{t:SetTable}{j:Nat}(x:TI b t)(h:t.slot j=.empty):TI b (t.put j).1:=by
 refine⟨aOr t.place j x.rise (aUs h),?_,x.led⟩;show (if SetTable.has t.dummies j then _ else t.dummies)=_
 rw[x.dum,aSx];rfl
theorem aQk(n:Nat):(Array.range n).toList.Pairwise (· < ·):=by
 rw[Array.toList_range];exact List.pairwise_lt_range
theorem TI.stand{t:SetTable}(x:TI b t)(n:Nat):TI b (t.standIn n):=⟨aQk n,rfl,x.led⟩
theorem TI.orStand{t:SetTable}(x:TI b t)(n:Nat):TI b (t.orStandIn n):=by
 unfold SetTable.orStandIn;split
 .exact x
 .exact x.stand n
theorem TI.lay{t:SetTable}(x:TI b t)(es:Array (Int×Value))(h:Int)(v:Value):TI b (layNew t es h v).2.1:=by
 unfold layNew;split
 .rename_i j w e;exact(x.put (aUr x.dum e)).orStand _
 .exact x.stand _
theorem TI.relay{t:SetTable}(x:TI b t)(es:Array (Int×Value))(n:Nat):TI b (relayAll t es n).2.1:=by
 unfold relayAll;split
 .rename_i t' order e;have y:TI b t':=by
   unfold SetTable.relaid SetTable.laid at e;obtain⟨owner,_,e2⟩:=Option.bind_eq_some_iff.mp e;cases e2;refine⟨?_,rfl,x.led⟩;show ((List.map (λx:Nat×Nat=>x.1) (List.filterMap (λj=>Option.map (λx=>(j,x)) (owner.getD j Option.none)) (List.range (SetTable.sizeAbove n-1+1)))).toArray).toList.Pairwise (· < ·)
   rw[List.toList_toArray,List.map_filterMap];refine(List.pairwise_lt_range (n:=_)).filterMap _ λa a' haa c hc c' hc'=>?_
   have h1:c=a:=by
    cases ho:(owner.getD a none) with
    |none=>rw[ho]at hc;cases hc
    |some k=>rw[ho]at hc;cases hc;rfl
   have h2:c'=a':=by
    cases ho:(owner.getD a' none) with
    |none=>rw[ho]at hc';cases hc'
    |some k=>rw[ho]at hc';cases hc';rfl
   rw[h1,h2];exact haa
  dsimp only;split
  .exact y
  .exact x.stand _
 .exact x.stand _
theorem TI.fresh(b:Bool):TI b (.fresh 0 0 b):=⟨List.Pairwise.nil,rfl,rfl⟩
theorem aOt(t:SetTable)(es:Array (Int×Value))(h:Int)(v:Value):(layNew t es h v).1.toList.Perm (es.toList++[(h,v)]):=by
 have p:=layNew_perm t es h v;rw[toList_push]at p;exact p
def numOf:Value->Int
 |.int n _=>n
 |_=>0
def aUt(e:Int×Value):Prop:=∃(n:Int)(t:Tok),e=(hashInt n,.int n t)
structure SetIs(b:Bool)(a:Addr)(ns:List Int)(es:Array (Int×Value))(ep:Nat)(t:SetTable)(h:Heap):Prop where
 obj:h.get? a=some {cls:=.type "set",dict:=none,data:=.set es ep t,slots := #[]}
 fit:t.fits es.size=true
 ti:TI b t
 perm:(es.toList.map λe=>numOf e.2).Perm ns
 nums:∀e∈es.toList,aUt e
theorem SetIs.keep{es:Array (Int×Value)} {t:SetTable} (x:SetIs b a ns es ep t h) (k:∀o,h.get? a=some o->h'.get? a=some o):SetIs b a ns es ep t h':=
 ⟨k _ x.obj,x.fit,x.ti,x.perm,x.nums⟩
theorem SetIs.size{b:Bool}{a:Addr}{ns:List Int}{es:Array (Int×Value)}{ep:Nat}{t:SetTable}{h:Heap}(x:SetIs b a ns es ep t h):es.size=ns.length:=by
 have:=x.perm.length_eq;simpa using this
theorem SetIs.put{ns':List Int}{es es':Array (Int×Value)} {t t':SetTable} (x:SetIs b a ns es ep t h) (fit:t'.fits es'.size=true) (ti:TI b t') (perm:(es'.toList.map λe=>numOf e.2).Perm ns') (nums:∀e∈es'.toList,aUt e) :
  SetIs b a ns' es' (ep+1) t' (h.update a (Obj.putSet es' t')):=by
 refine⟨?_,fit,ti,perm,nums⟩;rw[Heap.get?_update_self (Obj.putSet es' t') x.obj rfl];rfl
def aMc(ns:List Int)(k:Int):List Int:=if ns.any (· == k) then ns else ns++[k]
theorem bC5(ns:List Int)(k:Int):(aMc ns k).length<=ns.length+1:=by
 unfold aMc;split
 .exact le_succ _
 .simp
section
variable {A:Around}
theorem bC6{es:List (Int×Value)}(nums:∀e∈es,aUt e):ElemsOf (intKind prog w) es:=λe he=>by
 obtain⟨n,t,rfl⟩:=nums e he;exact⟨⟨n,intKind_is prog w n t,rfl⟩,rfl⟩
theorem bC7{es:List (Int×Value)} (nums:∀e∈es,aUt e) (perm:(es.map λe=>numOf e.2).Perm ns) (k:Int):(es.findIdx? (λe=>(intKind prog w).is k e.2)).isSome=ns.any (· == k):=by
 rw[List.findIdx?_isSome,Bool.eq_iff_iff,List.any_eq_true,List.any_eq_true];constructor
 .rintro⟨e,he,hp⟩;obtain⟨n,t,rfl⟩:=nums e he;have en:n=k:=(intKind prog w).inj _ n k (intKind_is prog w n t) hp;exact⟨n,perm.mem_iff.mp (List.mem_map.mpr ⟨_,he,rfl⟩),beq_iff_eq.mpr en⟩
 .rintro⟨n,hn,hp⟩;obtain⟨e,he,hv⟩:=List.mem_map.mp (perm.mem_iff.mpr hn);obtain⟨n',t,rfl⟩:=nums e he;have e1:n'=n:=hv;have e2:n=k:=beq_iff_eq.mp hp;refine⟨_,he,?_⟩;rw[<-e2,<-e1];exact intKind_is prog w n' t
theorem aMd{Q:Unit->Shared->Prop}(c:Bool)(q:Q () s):wpAny (model prog w) A (match c with|true=>rule "set.scan.the-table-gave-way"|false=>pure ()) Q E s:=by
 cases c with
 |true=>exact wpAny_rule q
 |false=>exact wpAny_pure q
theorem store_ok{ns':List Int}{es es':Array (Int×Value)}{ep:Nat}{t t':SetTable}{d:Bool}{R:Option Bool->Shared->Prop}{g:Bool->Sem Unit}
  (hg:∀(c:Bool)(s₁:Shared)(Q:Unit->Shared->Prop),Q () s₁->wpAny (model prog w) A (g c) Q E s₁) (x:SetIs b a ns es ep t s.heap)
  (few:es'.size<scanBound) (fit:t'.fits es'.size=true) (ti:TI b t') (perm:(es'.toList.map λe=>numOf e.2).Perm ns') (nums:∀e∈es'.toList,aUt e)
  (r:∀(h':Heap) (es:Array (Int×Value)) (ep:Nat) (t:SetTable),Heap.SameBut a s.heap h'->SetIs b a ns' es ep t h'->R (some true) {s with heap:=h'}) :
  wpAny (model prog w) A (storeSet a es' t' >>= λ_=>if (!d&&t'.tooFull)=true then g (relayAll t' es' (SetTable.grown es'.size)).2.2 >>= λ_=>storeSet a (relayAll t' es' (SetTable.grown es'.size)).1 (relayAll t' es' (SetTable.grown es'.size)).2.1 >>= λ_=>pure (some true) else pure (some true)) R E s:=by
 have y:=x.put fit ti perm nums;have o1:=Heap.SameBut.update s.heap a (Obj.putSet es' t');refine wpAny_bind (wpAny_storeSet_of x.obj rfl ?_ (fits_of_scanBound few))
 by_cases hc:(!d&&t'.tooFull)=true
 .rw[if_pos hc];have p:=relayAll_perm t' es' (SetTable.grown es'.size);have sz:(relayAll t' es' (SetTable.grown es'.size)).1.size=es'.size:=by simpa using p.length_eq
  have z:=y.put (relayAll_fits t' es' (SetTable.grown es'.size)) (ti.relay es' _) ((p.map _).trans perm) λe he=>nums e (p.mem_iff.mp he)
  exact wpAny_bind (hg _ _ _ (wpAny_bind (wpAny_storeSet_of y.obj rfl (wpAny_pure (r _ _ _ _ (o1.trans (Heap.SameBut.update _ a _)) z)) (fits_of_scanBound (by rw[sz];exact few)))))
 .rw[if_neg hc];exact wpAny_pure (r _ _ _ _ o1 y)
theorem bG8{es:Array (Int×Value)}{ep:Nat}{t:SetTable}{k:Int}{tk:Tok}{Q:Bool->Shared->Prop}(x:SetIs b a ns es ep t s.heap)(few:ns.length+1<scanBound)
  (q:∀(c:Bool)(h':Heap) (es:Array (Int×Value)) (ep:Nat) (t:SetTable),Heap.SameBut a s.heap h'->SetIs b a (aMc ns k) es ep t h'->Q c {s with heap:=h'}) :
  wpAny (model prog w) A (setAddHashed a (.int k tk) (hashInt k)) Q E s:=by
 have el:ElemsOf (intKind prog w) es.toList:=bC6 x.nums;have fz:es.size<scanBound:=by rw[x.size];omega
 have fk:=bC7 (prog:=prog) (w:=w) x.nums x.perm k;have nadd:∀e∈(layNew t es (hashInt k) (.int k tk)).1.toList,aUt e:=λe he=>by
  rcases List.mem_append.mp ((aOt t es _ _).mem_iff.mp he) with he|he
  .exact x.nums e he
  .exact⟨k,tk,List.mem_singleton.mp he⟩
 have padd:((layNew t es (hashInt k) (.int k tk)).1.toList.map λe=>numOf e.2).Perm (ns++[k]):=by
  have:=(aOt t es (hashInt k) (.int k tk)).map λe=>numOf e.2
  rw[List.map_append]at this;exact this.trans (x.perm.append_right _)
 have sadd:(layNew t es (hashInt k) (.int k tk)).1.size<scanBound:=by
  have:=padd.length_eq;simp at this;omega
 unfold setAddHashed setAddHashedIn;refine wpAny_holding (wpAny_bind (wpAny_setState_of x.obj rfl x.fit ?_));dsimp only;rw[if_pos (byScan_of rfl fz el)];unfold setAddByScan;refine wpAny_bind (wpAny_bind (wpAny_rule (wpAny_bind (wpAny_setScan_of (knd:=intKind prog w) (intKind_is prog w k tk) x.obj rfl x.fit el ?_))));cases hr:es.toList.findIdx? (λe=>(intKind prog w).is k e.2) with
 |some j=>
  rw[hr]at fk;have:aMc ns k=ns:=if_pos fk.symm;rw[this]at q;exact wpAny_pure (wpAny_pure (q false s.heap es ep t (Heap.SameBut.refl a s.heap) x))
 |none=>
  rw[hr]at fk;have:aMc ns k=ns++[k]:=by unfold aMc;rw[<-fk];rfl
  rw[this]at q;have tl:=x.ti.lay es (hashInt k) (.int k tk);have fl:=layNew_fits t es (hashInt k) (.int k tk);generalize layNew t es (hashInt k) (.int k tk)=L at padd nadd sadd tl fl ⊢;obtain⟨es1,t1,d,gv⟩:=L;dsimp only at padd nadd sadd tl fl ⊢;refine wpAny_bind (aMd _ ?_)
  by_cases hp:t1.plain=true
  .rw[if_pos hp];refine wpAny_bind ?_
   rw[hashByValue_scannable 8 rfl];exact wpAny_pure (store_ok (λc s₁ Q' h'=>aMd c h') x sadd fl tl padd nadd λh' es ep t sb y=>wpAny_pure (q true h' es ep t sb y))
  .rw[if_neg hp];exact wpAny_bind (wpAny_pure (store_ok (λc s₁ Q' h'=>aMd c h') x sadd fl tl padd nadd λh' es ep t sb y=>wpAny_pure (q true h' es ep t sb y)))
end
end Pu
namespace Pu
open PySem PyProof.Rows
section
variable{prog:Program}{w:World}{A:Around}{E:Value->Shared->Prop}{s:Shared}
def aMe(val:Nat->Int):Nat->List Int
 |0=>[]
 |i+1=>aMc (aMe val i) (val i)
theorem aSy(val:Nat->Int):∀i,(aMe val i).length<=i
 |0=>Nat.le_refl _
 |i+1=>Nat.le_trans (bC5 _ _) (Nat.succ_le_succ (aSy val i))
def jA(b:Bool)(a:Addr)(ns:List Int)(h:Heap):Prop:=∃es ep t,SetIs b a ns es ep t h
theorem jA.keep{b:Bool}{a:Addr}{ns:List Int}{h h':Heap}(x:jA b a ns h)(k:∀o,h.get? a=some o->h'.get? a=some o):jA b a ns h':=
 let ⟨es,ep,t,y⟩:=x
 ⟨es,ep,t,y.keep k⟩
theorem bG9{k:Int}{t:Tok}{Q:Bool->Shared->Prop}(x:jA b a ns s.heap)(few:ns.length+1<scanBound)
  (q:∀(c:Bool)(h':Heap),Heap.SameBut a s.heap h'->jA b a (aMc ns k) h'->Q c {s with heap:=h',toks:=s.toks+1}) :
  wpAny (model prog w) A (setAdd a (.int k t)) Q E s:=by
 obtain⟨es,ep,tb,y⟩:=x;unfold setAdd;refine wpAny_holding (wpAny_bind ((intKind prog w).pyHash (k:=k) (intKind_is prog w k t) ?_));exact bG8 (s:={s with toks:=s.toks+1}) y few λc h' es' ep' t' sb z=>q c h' sb ⟨es',ep',t',z⟩
variable{I:Addr}{fp wr:List Addr}{G:Array GenState->Array GenState->Prop}{n:Nat}{P:Nat->Value->Prop}{St:Nat->Shared->Prop}
theorem bC8(W:WalksS prog w A.in1 I fp wr G n P St){R:Result->Shared->Prop}(a:Addr)(b:Bool)(out:a∉fp)(val:Nat->Int)(isN:∀i v,P i v->∃t,v=.int (val i) t)(few:n+1<scanBound) :
  ∀(m i:Nat)(s:Shared),i+m=n->St i s->jA b a (aMe val i) s.heap->
   (∀s',Moved (a::wr) G s s'->jA b a (aMe val n) s'.heap->R (.ok (.ret .none)) s')->
   codeAny (model prog w) A (.builtin "set.update.loop" ⟨[.ref a,.ref I],[]⟩) R s:=by
 have nw:a∉wr:=λh=>out (W.sub _ h)
 have up:∀c∈wr,c∈a::wr:=λc hc=>mem_cons_of_mem _ hc
 intro m
 induction m with
 |zero=>
  intro i s e st x r;rw[Nat.add_zero]at e;subst e;refine codeAny_builtin F.entry_set_update_loop ?_
  rw[Around.under_plainId F.plain_set_update_loop _];show wpAny _ A.in1 (pyNext (.ref I) >>= _) _ _ s;exact wpAny_bind (W.done s _ _ st λs' mv=>wpAny_pure (r s' (mv.mono up) (x.keep λo ho=>mv.heap a o nw ho)))
 |succ m ih=>
  intro i s e st x r;refine codeAny_builtin F.entry_set_update_loop ?_
  rw[Around.under_plainId F.plain_set_update_loop _];show wpAny _ A.in1 (pyNext (.ref I) >>= _) _ _ s;refine wpAny_bind (W.item i s _ _ (by omega) st λv s' pv st' mv=>?_)
  obtain⟨t,rfl⟩:=isN i v pv;have fw:(aMe val i).length+1<scanBound:=by have:=aSy val i;omega
  refine wpAny_bind (wpAny_holding (bG9 (x.keep λo ho=>mv.heap a o nw ho) fw λc h' sb y=>wpAny_pure ⟨plainId_quiet F.plain_set_update_loop _,?_⟩))
  have other:∀c,c≠a->h'.get? c=s'.heap.get? c:=λc hc=>sb.2 c hc
  refine ih (i+1) _ (by omega) (W.frame _ s' _ _ st' (le_succ _) λc hc o ho=>?_) y λs2 mv2 z=>?_
  .rw[other c λh=>out (h ▸ hc)]
   exact ho
  .refine r s2 (Moved.trans W.gtrans ((mv.mono up).then_heap (le_succ _) λc o hc ho=>?_) mv2) z
   rw[other c λh=>hc (h ▸ mem_cons_self)]
   exact ho
end
section
variable{prog:Program}{w:World}{A:Around}{E:Value->Shared->Prop}{s:Shared}
def vR(w:World):Bool:=w.params.followText "set-order"
def sW(w:World):Obj:={cls:=.type "set",dict:=none,data:=.set #[] 0 (.fresh 0 0 (!vR w)),slots := #[]}
theorem bC9(a:Value) (q:Q (.ref s.heap.objs.size) {s with heap:=s.heap.push (sW w)}) :
  codeAny (model prog w) A (.call (.builtin "set.__new__") ⟨[.type "set",a],[]⟩) (wants Q E) s:=by
 refine codeAny_of_tree (?_:wpAny _ A.in1 (checkBuiltinCall "set.__new__" ⟨[.type "set",a],[]⟩ >>= λ_=>again (.builtin "set.__new__" ⟨[.type "set",a],[]⟩)) _ _ s)
 refine wpAny_bind (wpAny_of_eq (F.newCall_set_1 a) (wpAny_pure ⟨plainId_quiet F.plain_set_new _,codeAny_builtin F.entry_set_new ?_⟩));rw[Around.under_plainId F.plain_set_new _];unfold Builtin.«set.__new__» Builtin.Frozenset.newClass;have sub:=sub_set_self;obtain⟨hp,g,d,tk,os⟩:=s;dsimp only
 wp_walk
 refine wpAny_askSetting (wpAny_pure ?_);dsimp only;simp only[newObj];exact wpAny_bind (wpAny_alloc (wpAny_pure (wpAny_pure q)))
theorem aUu(w:World) (o:h.get? a=some (sW w)):jA (!vR w) a [] h:=
 ⟨#[],0,_,o,rfl,TI.fresh _,List.Perm.nil,λe he=>nomatch he⟩
theorem bCa{l:Addr} {R:Result->Shared->Prop} (hh:A.handled=none) (o:s.heap.get? a=some (sW w)) (ne:l≠a) (hl:s.heap.IsList l items) (isN:IntsAre items.toList ns) (few:items.size+1<scanBound)
  (r:∀(h':Heap)(tk:Nat),jA (!vR w) a (aMe (λi=>ns.getD i 0) items.size) h'->(∀b o,b≠a->s.heap.get? b=some o->h'.get? b=some o)->R (.ok (.ret .none)) {s with heap:=h',toks:=tk}) :
  wpAny (model prog w) A.in1 (Builtin.«set.__init__» ⟨[.ref a,.ref l],[]⟩) (λfin s'=>match fin with|.done f=>R (.ok f) s'|.again c'=>c'.quiet=true/\codeAny (model prog w) A c' R s') (λe s'=>R (.error e) s') s:=by
 have hT:s.TypeIs (.ref a) "set":=⟨_,o,rfl⟩;obtain⟨ol,hol,hcl,nl,hdl⟩:=id hl;obtain⟨cl,di,da,sl⟩:=ol;dsimp only at hcl hdl;subst hcl;subst hdl;have o':s.heap.get? a=some {cls:=.type "set",dict:=none,data:=.set #[] 0 (.fresh 0 0 (!vR w)),slots := #[]}:=o;have h1:=F.sub_list_set;have h2:=F.sub_list_frozenset;have h3:(Value.type "list" == Value.type "dict")=false:=by decide
 unfold Builtin.«set.__init__» noKeywords Builtin.Frozenset.updateFrom;generalize hp:pyIter=it
 wp_walk
 subst hp;refine wpAny_pyIter_list hl (wpAny_bind (wpAny_runValue ?_));have ia:a≠s.heap.objs.size:=Nat.ne_of_lt (Heap.lt_size o);have il:l≠s.heap.objs.size:=Nat.ne_of_lt (Heap.lt_size hol);have out:a∉[s.heap.objs.size,l]:=by
  intro h;rcases List.mem_cons.mp h with h|h
  .exact ia h
  .exact ne (List.mem_singleton.mp h).symm
 refine bC8 ((Walks.list (by simp[hh]) _ l il items).toS) a (!vR w) out (λi=>ns.getD i 0) (λi v hv=>IntsAre.int_at isN i v (by rw[getElem?_toList];exact hv)) few items.size 0 _ (Nat.zero_add _)
  ⟨⟨_,Heap.get?_push_size _ rfl,rfl,rfl⟩,hl.push _⟩ (aUu w (Heap.get?_push_of_some _ o)) λs' mv x=>?_
 rw[Moved.eq_with mv];refine wpAny_pure (wpAny_pure (r s'.heap s'.toks x λb o hb ho=>mv.heap b o (λhm=>?_) (Heap.get?_push_of_some _ ho)))
 rcases List.mem_cons.mp hm with h|h
 .exact hb h
 .exact absurd (List.mem_singleton.mp h) (Nat.ne_of_lt (Heap.lt_size ho))
theorem bCb{l:Addr} (hh:A.handled=none) (hl:s.heap.IsList l items) (isN:IntsAre items.toList ns) (few:items.size+1<scanBound)
  (q:∀(h':Heap)(tk:Nat),jA (!vR w) s.heap.objs.size (aMe (λi=>ns.getD i 0) items.size) h'->(∀b o,s.heap.get? b=some o->h'.get? b=some o)->Q (.ref s.heap.objs.size) {s with heap:=h',toks:=tk}) :
  wpAny (model prog w) A (call (.type "set") [.ref l]) Q E s:=by
 obtain⟨c,tl,hmro⟩:=F.called_set.mro;have g1:=F.called_set.made;have g2:=F.called_set.sub;have g3:=F.called_set.notType;have g4:=F.called_set.canCreate;have g5:=F.typeCall_set_1 (.ref l);refine wpAny_call (codeAny_of_tree (?_:wpAny _ _ (callAny (.type "set") _) _ _ _));refine wpAny_pure ⟨Code.quiet_builtin _ (by decide+kernel),codeAny_builtin F.entry_type_call ?_⟩
 rw[Around.under_plain (weight_type_call_type "set" [.ref l] []) rfl]
 repeat (any_goals (first|assumption|wp_step))
 refine codeAny_mono (bC9 (.ref l) (E:=E) (Q:=λv s₁=>v=.ref s.heap.objs.size/\s₁={s with heap:=s.heap.push (sW w)}) ⟨rfl,rfl⟩) λres s₁ hres=>?_
 match res,hres with
 |.error e,he=>exact he
 |.ok (.ret v),⟨hv,hs⟩=>
  subst hv;subst hs;have ob:(s.heap.push (sW w)).get? s.heap.objs.size=some (sW w):=Heap.get?_push_size _ rfl;have hT:Shared.TypeIs {s with heap:=s.heap.push (sW w)} (.ref s.heap.objs.size) "set":=⟨_,ob,rfl⟩
  have g6:=F.called_set.init.lookup;have g7:=F.called_set.init.bind (.ref s.heap.objs.size)
  repeat (any_goals (first|assumption|wp_step))
  have ne:l≠s.heap.objs.size:=let ⟨_,h,_⟩:=hl;Nat.ne_of_lt (Heap.lt_size h);refine codeAny_mono (codeAny_call_builtin (R:=wants (λr s₂=>r=.none/\Q (.ref s.heap.objs.size) s₂) E) F.called_set.init.plain F.entry_set_init (check_set_init_1 hT
   (bCa (by simp[hh]) ob ne (hl.push _) isN few λh' tk x k=>⟨rfl,q h' tk x λb o ho=>k b o (Nat.ne_of_lt (Heap.lt_size ho)) (Heap.get?_push_of_some _ ho)⟩))) λr₂ s₂ hr₂=>?_
  match r₂,hr₂ with
  |.error e,he=>exact he
  |.ok (.ret _),⟨h0,hq⟩=>
   subst h0
   repeat (any_goals (first|assumption|wp_step))
end
theorem aC7{α:Type}:∀(xs:List α)(i:Nat)(x:α),xs[i]?=some x->(x::xs.eraseIdx i).Perm xs
 |[],_,_,h=>nomatch h
 |y::xs,0,x,h=>by cases h;exact List.Perm.refl _
 |y::xs,i+1,x,h=>by
  have:=aC7 xs i x (by simpa using h)
  exact(List.Perm.swap y x _).trans (this.cons y)
theorem aKj{α:Type}(next:Nat->Nat):∀(n k:Nat)(left:List α)(out:Array α),left.length=n->(pickOrder.go next n k left out).toList.Perm (out.toList++left)
 |0,k,left,out,h=>by
  cases left with
  |nil=>rw[append_nil];exact List.Perm.refl _
  |cons _ _=>cases h
 |n+1,k,left,out,h=>by
  unfold pickOrder.go;have hl:next k%left.length<left.length:=mod_lt _ (by omega)
  have e:left[next k%left.length]?=some left[next k%left.length]:=List.getElem?_eq_getElem hl
  rw[e];dsimp only;refine(aKj next n (k+1) _ _ (by rw[List.length_eraseIdx_of_lt hl];omega)).trans ?_
  rw[toList_push,List.append_assoc];exact(aC7 left _ _ e).append_left _
theorem aIj(next:Nat->Nat)(xs:Array α):(pickOrder next xs).toList.Perm xs.toList:=aKj next xs.size 0 xs.toList #[] (Array.length_toList)
section
variable {A:Around}
theorem aUv{s:Shared}{src:Source} {Q:Nat->Shared->Prop} (hn:n≠0) (q:∀i d,i<n->Q i {s with drawn:=d}):wpAny (model prog w) A (choose src n) Q E s:=
 λ_ _ _=>⟨hn,q _ _ (mod_lt _ (Nat.pos_of_ne_zero hn))⟩
theorem bCc{α:Type}(n:Nat):∀(xs:List α)(s:Shared)(Q:List α->Shared->Prop),xs.length=n->(∀ys d,ys.Perm xs->Q ys {s with drawn:=d})->wpAny (model prog w) A (drawOrder n xs) Q E s:=by
 induction n with
 |zero=>
  intro xs s Q h q;have e:xs=[]:=List.length_eq_zero_iff.mp h;subst e;exact wpAny_pure (q [] s.drawn (List.Perm.refl _))
 |succ n ih=>
  intro xs s Q h q;have ne:xs≠[]:=λe=>by rw[e]at h;cases h
  obtain⟨x,l,rfl⟩:=List.exists_cons_of_ne_nil ne;refine(?_:wpAny (model prog w) A (choose .order (x::l).length >>= λi=>match (x::l)[i]? with|some y=>drawOrder n ((x::l).eraseIdx i) >>= λr=>pure (y::r)|none=>unsupported "internal:drawOrder") Q E s)
  refine wpAny_bind (aUv (by simp) λi d hi=>?_)
  have e:(x::l)[i]?=some (x::l)[i]:=List.getElem?_eq_getElem hi;rw[e];refine wpAny_bind (ih _ _ _ (by rw[List.length_eraseIdx_of_lt hi];omega) λys d' hy=>wpAny_pure (q _ d' ?_))
  exact(hy.cons _).trans (aC7 _ _ _ e)
end
theorem qC:Slot "set_iterator" "__next__" "set_iterator.__next__":=
 .of (owner:="set_iterator") (n:="__next__") (by rw[typeLookup_type,builtinLookup_eq_fast];kernel_rfl) (by decide+kernel) (by decide+kernel) (by decide+kernel) (.inl (by decide+kernel)) (by rw[isSubtype_type];kernel_rfl)
theorem aDo:entryFor table "set_iterator.__next__"=some Builtin.«set_iterator.__next__» := entryFor_of_tree (by kernel_rfl)
theorem aOu:Manifest.owners.lookup (String.ofList ['r', 'o', 't', 'a', 'r', 'e', 't', 'i', '_', 't', 'e', 's'].reverse)=some Manifest.sig_set_iterator:=by kernel_rfl
theorem aGh(a:Value):argsOk "set_iterator.__next__" ⟨[a],[]⟩:=by
 unfold argsOk;rw[signature?_of (id:="set_iterator.__next__") (n:=['_', '_', 't', 'x', 'e', 'n', '_', '_']) (o:=['r', 'o', 't', 'a', 'r', 'e', 't', 'i', '_', 't', 'e', 's']) (by kernel_rfl) aOu]
 kernel_rfl
theorem aOv:Slot "set_iterator" "__iter__" "set_iterator.__iter__":=
 .of (owner:="set_iterator") (n:="__iter__") (by rw[typeLookup_type,builtinLookup_eq_fast];kernel_rfl) (by decide+kernel) (by decide+kernel) (by decide+kernel) (.inl (by decide+kernel)) (by rw[isSubtype_type];kernel_rfl)
theorem aUw:entryFor table "set_iterator.__iter__"=some Builtin.«dict_keyiterator.__iter__» := entryFor_alias (id':="dict_keyiterator.__iter__") (by kernel_rfl) rfl (by decide+kernel) (by kernel_rfl)
theorem aYu(a:Value):argsOk "set_iterator.__iter__" ⟨[a],[]⟩:=by
 unfold argsOk;rw[signature?_of (id:="set_iterator.__iter__") (n:=['_', '_', 'r', 'e', 't', 'i', '_', '_']) (o:=['r', 'o', 't', 'a', 'r', 'e', 't', 'i', '_', 't', 'e', 's']) (by kernel_rfl) aOu]
 kernel_rfl
theorem aQl:entryFor table "set.__iter__"=some Builtin.«frozenset.__iter__» := entryFor_alias (id':="frozenset.__iter__") (by kernel_rfl) rfl (by decide+kernel) (by kernel_rfl)
theorem bCd:typeLookup (.type "set") "__len__"=pure (some (.builtin "set.__len__")):=by rw[typeLookup_type,builtinLookup_eq_fast];kernel_rfl
def aIk(first:Value)(i:Nat)(a:Addr)(n ep:Nat):Obj:={cls:=.type "set_iterator",dict:=none,data:=.fields #[first,.int i 0,.ref a,.int n 0,.int ep 0],slots := #[]}
section
variable{prog:Program}{w:World}{A:Around}{E:Value->Shared->Prop}{s:Shared}
theorem bCe{es:Array (Int×Value)} {t:SetTable} {c c':Nat} {v:Value} {Q:Option Value->Shared->Prop}
  (hI:s.heap.get? I=some (aIk (.int c 0) i a es.size ep)) (x:SetIs b a ns es ep t s.heap)
  (nx:∀(A:Around)(E:Value->Shared->Prop) (Q:Option (Value×Nat)->Shared->Prop),Q (some (v,c')) s->wpAny (model prog w) A (setNext a c i ep) Q E s)
  (q:∀h',h'.get? I=some (aIk (.int c' 0) (i+1) a es.size ep)->Heap.SameBut I s.heap h'->Q (some v) {s with heap:=h'}) :
  wpAny (model prog w) A (pyNext (.ref I)) Q E s:=by
 have hT:s.TypeIs (.ref I) "set_iterator":=⟨_,hI,rfl⟩;unfold pyNext;refine wpAny_bind (wpAny_attempt (wpAny_callSpecial?_slot (name:=Str.ofString "__next__") hT qC (wpAny_call_entry qC hT aDo ?_ (aGh _))));unfold Builtin.«set_iterator.__next__»;refine wpAny_bind (wpAny_pure ?_);refine wpAny_bind (wpAny_fieldsOf hI rfl ?_);dsimp only;refine wpAny_bind (wpAny_setEntries_of x.obj rfl x.fit ?_);rw[if_neg (by simp)]
 refine wpAny_bind (nx _ _ _ ?_);dsimp only;refine wpAny_bind (wpAny_setField hI rfl (by simp) ?_)
 have h1:(s.heap.update I (Obj.mapFields (·.setIfInBounds 0 (rawInt c')))).get? I=some (aIk (.int c' 0) i a es.size ep):=by
  rw[Heap.get?_update_self _ hI (Obj.isFreed_of_fields (Obj.data_mapFields rfl _))];rfl
 refine wpAny_bind (wpAny_setField h1 rfl (by simp) ?_)
 refine wpAny_pure ⟨v,rfl,wpAny_pure (q _ ?_ ((Heap.SameBut.update ..).trans (Heap.SameBut.update ..)))⟩;rw[Heap.get?_update_self _ h1 (Obj.isFreed_of_fields (Obj.data_mapFields rfl _))];rfl
theorem aSz{R:Value->Shared->Prop}{Q:Fin->Shared->Prop}(hh:A.handled=none)(r:∀(h':Heap)(e:Addr),(∀b o,s.heap.get? b=some o->h'.get? b=some o)->(∃o,h'.get? e=some o/\o.cls=.type "StopIteration")->R (.ref e) {s with heap:=h'}) :
  wpAny (model prog w) A (newExc (.type "StopIteration") [] >>= λe=>raiseNew e) Q R s:=by
 refine wpAny_bind ?_
 simp only[newExc,newTuple];refine wpAny_bind (wpAny_newObj_type ?_ (by size_fits))
 refine wpAny_bind (m:=firstArgMember _ _) (wpAny_of_eq (a:=Value.none) (by first|rfl|(simp only[firstArgMember];rfl)) (wpAny_newObj_type ?_ (by size_fits)))
 simp only[raiseNew];refine wpAny_bind (wpAny_handled ?_);rw[hh];exact wpAny_bind (wpAny_pure (wpAny_throw (r _ _ (λb o ho=>Heap.get?_push_of_some _ (Heap.get?_push_of_some _ ho)) ⟨_,Heap.get?_push_size _ rfl,rfl⟩)))
theorem bGa{b:Bool} {es:Array (Int×Value)} {t:SetTable} {c:Nat} {Q:Option Value->Shared->Prop} (hh:A.handled=none)
  (hI:s.heap.get? I=some (aIk (.int c 0) i a es.size ep)) (x:SetIs b a ns es ep t s.heap)
  (nx:∀(A:Around)(E:Value->Shared->Prop) (Q:Option (Value×Nat)->Shared->Prop),Q none s->wpAny (model prog w) A (setNext a c i ep) Q E s)
  (q:∀h',(∀b o,b≠I->s.heap.get? b=some o->h'.get? b=some o)->Q none {s with heap:=h'}) :
  wpAny (model prog w) A (pyNext (.ref I)) Q E s:=by
 have hT:s.TypeIs (.ref I) "set_iterator":=⟨_,hI,rfl⟩;unfold pyNext;refine wpAny_bind (wpAny_attempt (wpAny_callSpecial?_slot (name:=Str.ofString "__next__") hT qC (wpAny_call_entry qC hT aDo ?_ (aGh _))));unfold Builtin.«set_iterator.__next__»;refine wpAny_bind (wpAny_pure ?_);refine wpAny_bind (wpAny_fieldsOf hI rfl ?_);dsimp only;refine wpAny_bind (wpAny_setEntries_of x.obj rfl x.fit ?_);rw[if_neg (by simp)]
 refine wpAny_bind (nx _ _ _ ?_);dsimp only;refine wpAny_bind (wpAny_setField hI rfl (by simp) ?_)
 refine aSz hh λh' e k o=>?_
 obtain⟨o,ho,hc⟩:=o;refine wpAny_bind (wpAny_isInstance (T:="StopIteration") (b:=true) ⟨o,ho,hc⟩ isSubtype_stop (wpAny_pure (q _ λb o' hb ho'=>k b o' ?_)))
 rw[Heap.get?_update_other _ _ (Ne.symm hb)];exact ho'
theorem aUx{es:Array (Int×Value)} {t:SetTable} (x:SetIs b a ns es ep t s.heap) (hb:vR w=true) (c i:Nat) {Q:Option (Value×Nat)->Shared->Prop}
  (q:Q (((pickOrder (w.params.setOrder a ep) es)[i]?).map λe=>(e.2,c)) s):wpAny (model prog w) A (setNext a c i ep) Q E s:=by
 have hb':w.params.followText "set-order"=true:=hb;unfold setNext;refine wpAny_bind (wpAny_setState_of x.obj rfl x.fit ?_);dsimp only;unfold setsByText;refine wpAny_bind (wpAny_bind (wpAny_askSetting (wpAny_pure ?_)));refine wpAny_ite_split (λ_=>?_) λh=>absurd hb' h
 rw[if_neg (by simp)]
 refine wpAny_bind ?_
 unfold setWalk;refine wpAny_bind (wpAny_setState_of x.obj rfl x.fit ?_);dsimp only;unfold setsByText;refine wpAny_bind (wpAny_bind (wpAny_askSetting (wpAny_pure ?_)));refine wpAny_ite_split (λ_=>?_) λh=>absurd hb' h
 exact wpAny_bind (wpAny_askSetting (wpAny_pure (wpAny_pure q)))
def wQ(t:SetTable):Nat->Nat
 |0=>0
 |i+1=>t.place.getD i 0+1
theorem below_at{t:SetTable}(ti:TI b t)(i:Nat)(hi:i<=t.place.size):SetTable.below t.place (wQ t i)=i:=by
 obtain⟨h1,h2,h3⟩:=aIi t.place (wQ t i) ti.rise;generalize hm:SetTable.below t.place (wQ t i)=m at h1 h2 h3;rcases Nat.lt_trichotomy m i with h|h|h
 .exfalso;have lt:i-1<t.place.size:=by omega
  have e:t.place[i-1]?=some t.place[i-1]:=Array.getElem?_eq_getElem lt;have:=h2 (i-1) _ (by omega) e
  have se:wQ t i=t.place[i-1]+1:=by
   cases i with
   |zero=>omega
   |succ k=>
    show t.place.getD k 0+1=_;rw[getD_eq_getD_getElem?,Array.getElem?_eq_getElem (by omega)]
    rfl
  omega
 .exact h
 .exfalso;have lt:i<t.place.size:=by omega
  have e:t.place[i]?=some t.place[i]:=Array.getElem?_eq_getElem lt;have g:=h1 i _ h e;cases i with
  |zero=>exact absurd g (not_lt_zero _)
  |succ k=>
   have gk:t.place[k]?=some t.place[k]:=Array.getElem?_eq_getElem (by omega)
   have se:wQ t (k+1)=t.place[k]+1:=by
    show t.place.getD k 0+1=_;rw[getD_eq_getD_getElem?,gk];rfl
   have r:=List.pairwise_iff_getElem.mp ti.rise k (k+1) (by simp;omega) (by simp;omega) (by omega)
   simp at r;omega
theorem aYv{es:Array (Int×Value)} {t:SetTable} (x:SetIs true a ns es ep t s.heap) (hb:vR w=false) (hd:(!t.plain&&decide (es.size>1))=false) (i:Nat) (hi:i<=es.size) {Q:Option (Value×Nat)->Shared->Prop}
  (q:Q ((es[i]?).map λe=>(e.2,wQ t (i+1))) s):wpAny (model prog w) A (setNext a (wQ t i) i ep) Q E s:=by
 have hb':w.params.followText "set-order"=false:=hb;have sz:t.place.size=es.size:=by
  have:=x.fit;simp only[SetTable.fits,and_eq_true,beq_iff_eq]at this;exact this.1
 unfold setNext;refine wpAny_bind (wpAny_setState_of x.obj rfl x.fit ?_);dsimp only;unfold setsByText;refine wpAny_bind (wpAny_bind (wpAny_askSetting (wpAny_pure ?_)));refine wpAny_ite_split (λh=>absurd (hb'.symm.trans h) Bool.false_ne_true) λ_=>?_
 refine wpAny_ite_split (λh=>absurd (hd.symm.trans h) Bool.false_ne_true) λ_=>?_
 refine wpAny_bind (m:=(if (!t.led && !es.isEmpty)=true then unsupported "set:maker-not-led" else pure ())) ?_
 rw[if_neg (by rw[x.ti.led];exact Bool.false_ne_true)]
 refine wpAny_pure ?_
 rw[below_at x.ti i (by rw[sz];exact hi)]
 by_cases hlt:i<es.size
 .rw[Array.getElem?_eq_getElem hlt]at q;rw[Array.getElem?_eq_getElem hlt,Array.getElem?_eq_getElem (by rw[sz];exact hlt)]
  refine wpAny_pure ?_
  have:wQ t (i+1)=t.place[i]+1:=by
   show t.place.getD i 0+1=_;rw[getD_eq_getD_getElem?,Array.getElem?_eq_getElem (by rw[sz];exact hlt)]
   rfl
  rw[this]at q;exact q
 .have hn:es[i]?=none:=Array.getElem?_eq_none (by omega)
  rw[hn]at q ⊢;exact wpAny_pure q
theorem bCf{es:Array (Int×Value)} {t:SetTable} {ys:List Nat} {e:Int×Value} {y:Nat} {Q:Option Value->Shared->Prop}
  (hI:s.heap.get? I=some (aIk (.ref T) i a es.size ep)) (x:SetIs b a ns es ep t s.heap) (hy:s.heap.get? T=some {cls:=.type "tuple",data:=.seq (ys.map λ(n:Nat)=>rawInt n).toArray})
  (hi:ys[i]?=some y) (he:es[y]?=some e)
  (q:∀h',h'.get? I=some (aIk (.ref T) (i+1) a es.size ep)->Heap.SameBut I s.heap h'->Q (some e.2) {s with heap:=h'}) :
  wpAny (model prog w) A (pyNext (.ref I)) Q E s:=by
 have hT:s.TypeIs (.ref I) "set_iterator":=⟨_,hI,rfl⟩;unfold pyNext;refine wpAny_bind (wpAny_attempt (wpAny_callSpecial?_slot (name:=Str.ofString "__next__") hT qC (wpAny_call_entry qC hT aDo ?_ (aGh _))));unfold Builtin.«set_iterator.__next__»;refine wpAny_bind (wpAny_pure ?_);refine wpAny_bind (wpAny_fieldsOf hI rfl ?_);dsimp only;refine wpAny_bind (wpAny_setEntries_of x.obj rfl x.fit ?_);rw[if_neg (by simp)]
 refine wpAny_bind (wpAny_seqItems hy rfl ?_);dsimp only;have ei:((ys.map λ(n:Nat)=>rawInt n).toArray)[(i:Int).toNat]?=some (.int y 0):=by
  rw[toNat_natCast,List.getElem?_toArray,List.getElem?_map,hi];rfl
 rw[ei];dsimp only;unfold setNextDrawn;refine wpAny_bind (wpAny_bind (wpAny_setState_of x.obj rfl x.fit ?_));dsimp only;rw[if_neg (by simp),toNat_natCast,he]
 refine wpAny_pure ?_
 refine wpAny_bind (wpAny_setField hI rfl (by simp) ?_)
 refine wpAny_pure ⟨e.2,rfl,wpAny_pure (q _ ?_ (Heap.SameBut.update ..))⟩;rw[Heap.get?_update_self _ hI (Obj.isFreed_of_fields (Obj.data_mapFields rfl _))];rfl
theorem bGb{b:Bool} {es:Array (Int×Value)} {t:SetTable} {ys:List Nat} {Q:Option Value->Shared->Prop} (hh:A.handled=none)
  (hI:s.heap.get? I=some (aIk (.ref T) i a es.size ep)) (x:SetIs b a ns es ep t s.heap) (hy:s.heap.get? T=some {cls:=.type "tuple",data:=.seq (ys.map λ(n:Nat)=>rawInt n).toArray})
  (hi:ys[i]?=none)
  (q:∀h',(∀b o,b≠I->s.heap.get? b=some o->h'.get? b=some o)->Q none {s with heap:=h'}) :
  wpAny (model prog w) A (pyNext (.ref I)) Q E s:=by
 have hT:s.TypeIs (.ref I) "set_iterator":=⟨_,hI,rfl⟩;unfold pyNext;refine wpAny_bind (wpAny_attempt (wpAny_callSpecial?_slot (name:=Str.ofString "__next__") hT qC (wpAny_call_entry qC hT aDo ?_ (aGh _))));unfold Builtin.«set_iterator.__next__»;refine wpAny_bind (wpAny_pure ?_);refine wpAny_bind (wpAny_fieldsOf hI rfl ?_);dsimp only;refine wpAny_bind (wpAny_setEntries_of x.obj rfl x.fit ?_);rw[if_neg (by simp)]
 refine wpAny_bind (wpAny_seqItems hy rfl ?_);dsimp only;have ei:((ys.map λ(n:Nat)=>rawInt n).toArray)[(i:Int).toNat]?=none:=by
  rw[toNat_natCast,List.getElem?_toArray,List.getElem?_map,hi];rfl
 rw[ei];dsimp only;refine wpAny_bind (wpAny_setField hI rfl (by simp) ?_)
 have h1:(s.heap.update I (Obj.mapFields (·.setIfInBounds 0 (rawInt 0)))).get? I=some (aIk (.int 0 0) i a es.size ep):=by
  rw[Heap.get?_update_self _ hI (Obj.isFreed_of_fields (Obj.data_mapFields rfl _))];rfl
 refine wpAny_bind (wpAny_setField h1 rfl (by simp) ?_)
 refine aSz hh λh' e k o=>?_
 obtain⟨o,ho,hc⟩:=o;refine wpAny_bind (wpAny_isInstance (T:="StopIteration") (b:=true) ⟨o,ho,hc⟩ isSubtype_stop (wpAny_pure (q _ λb o' hb ho'=>k b o' ?_)))
 rw[Heap.get?_update_other _ _ (Ne.symm hb),Heap.get?_update_other _ _ (Ne.symm hb)];exact ho'
end
section
variable{prog:Program}{w:World}{A:Around}{E:Value->Shared->Prop}{s:Shared}
theorem aT0{o:Obj} (hI:s.heap.get? I=some o) (hc:o.cls=.type "set_iterator") (q:Q (.ref I) s):wpAny (model prog w) A (pyIter (.ref I)) Q E s:=by
 have hT:s.TypeIs (.ref I) "set_iterator":=⟨o,hI,hc⟩;refine wpAny_pyIter_slot hT aOv (wpAny_call_entry aOv hT aUw (?_:wpAny _ _ (ret (.ref I)) _ _ s) (aYu _));exact wpAny_pure ⟨_,rfl,"set_iterator",_,hT,qC.lookup,q⟩
theorem aOw(hh:A.handled=none) (ne:a≠I) {es:Array (Int×Value)} {t:SetTable} (c:Nat->Nat) (vs:List Value)
  (nx:∀(s:Shared)(i:Nat),i<=vs.length->SetIs b a ns es ep t s.heap->∀(A:Around)(E:Value->Shared->Prop) (Q:Option (Value×Nat)->Shared->Prop),Q ((vs[i]?).map λv=>(v,c (i+1))) s->wpAny (model prog w) A (setNext a (c i) i ep) Q E s) :
  Walks prog w A I [I,a] [I] vs.length (λi v=>vs[i]?=some v) (λi h=>h.get? I=some (aIk (.int (c i) 0) i a es.size ep)/\SetIs b a ns es ep t h) where
 sub:=λb hb=>by rw[List.mem_singleton.mp hb];exact mem_cons_self
 frame:=λ_ _ _ st k=>⟨k I mem_cons_self _ st.1,st.2.keep λo ho=>k a (mem_cons_of_mem _ mem_cons_self) o ho⟩
 item:=λi s Q E hi st q=>by
  have e:vs[i]?=some vs[i]:=List.getElem?_eq_getElem hi;refine bCe (v:=vs[i]) (c':=c (i+1)) st.1 st.2 (λA E Q' h=>nx s i (Nat.le_of_lt hi) st.2 A E Q' (by rw[e];exact h)) λh' hI sb=>?_
  have k:∀b o,b≠I->s.heap.get? b=some o->h'.get? b=some o:=λb o hb ho=>by rw[sb.2 b hb];exact ho
  exact q _ h' s.toks e ⟨hI,st.2.keep λo ho=>k a o ne ho⟩ λb o hb ho=>k b o (λh=>hb (List.mem_singleton.mpr h)) ho
 done:=λs Q E st q=>
  bGa hh st.1 st.2 (λA E Q' h=>nx s _ (Nat.le_refl _) st.2 A E Q' (by rw[List.getElem?_eq_none (Nat.le_refl _)];exact h)) λh' k=>q h' s.toks λb o hb ho=>k b o (λh=>hb (List.mem_singleton.mpr h)) ho
 self:=λ_ _ _ _ st q=>aT0 st.1 rfl q
theorem bCg(hh:A.handled=none) (ne:a≠I) (nT:T≠I) {es:Array (Int×Value)} {t:SetTable} (ys:List Nat) (lt:∀y∈ys,y<es.size) :
  Walks prog w A I [I,a,T] [I] (ys.map λy=>(es.getD y (0,.none)).2).length (λi v=>(ys.map λy=>(es.getD y (0,.none)).2)[i]?=some v)
   (λi h=>h.get? I=some (aIk (.ref T) i a es.size ep)/\SetIs b a ns es ep t h/\h.get? T=some {cls:=.type "tuple",data:=.seq (ys.map λ(n:Nat)=>rawInt n).toArray}) where
 sub:=λb hb=>by rw[List.mem_singleton.mp hb];exact mem_cons_self
 frame:=λ_ _ _ st k=>⟨k I mem_cons_self _ st.1,st.2.1.keep λo ho=>k a (mem_cons_of_mem _ mem_cons_self) o ho,k T (mem_cons_of_mem _ (mem_cons_of_mem _ mem_cons_self)) _ st.2.2⟩
 item:=λi s Q E hi st q=>by
  rw[length_map]at hi;have e:ys[i]?=some ys[i]:=List.getElem?_eq_getElem hi;have l:=lt _ (List.getElem_mem hi);have eg:es[ys[i]]?=some es[ys[i]]:=Array.getElem?_eq_getElem l;refine bCf (e:=es[ys[i]]) st.1 st.2.1 st.2.2 e eg λh' hI sb=>?_
  have k:∀b o,b≠I->s.heap.get? b=some o->h'.get? b=some o:=λb o hb ho=>by rw[sb.2 b hb];exact ho
  refine q _ h' s.toks ?_ ⟨hI,st.2.1.keep λo ho=>k a o ne ho,k T _ nT st.2.2⟩ λb o hb ho=>k b o (λh=>hb (List.mem_singleton.mpr h)) ho
  rw[List.getElem?_map,e];simp[getD_eq_getD_getElem?,eg]
 done:=λs Q E st q=>by
  rw[length_map]at st;exact bGb hh st.1 st.2.1 st.2.2 (List.getElem?_eq_none (Nat.le_refl _)) λh' k=>q h' s.toks λb o hb ho=>k b o (λh=>hb (List.mem_singleton.mpr h)) ho
 self:=λ_ _ _ _ st q=>aT0 st.1 rfl q
def Nums(vs:List Value)(ns:List Int):Prop:=(vs.map numOf).Perm ns/\∀v∈vs,∃n t,v=.int n t
theorem SetIs.nums_of{es:Array (Int×Value)} {t:SetTable} (x:SetIs b a ns es ep t h) {l:List (Int×Value)} (p:l.Perm es.toList):Nums (l.map (·.2)) ns:=by
 refine⟨?_,λv hv=>?_⟩
 .rw[List.map_map];exact(p.map λe=>numOf e.2).trans x.perm
 .obtain⟨e,he,rfl⟩:=List.mem_map.mp hv;obtain⟨n,tk,rfl⟩:=x.nums e (p.mem_iff.mp he);exact⟨n,tk,rfl⟩
theorem bCh(hh:A.handled=none) (x:jA (!vR w) a ns s.heap) (few:ns.length<scanBound)
  (q:∀(I:Addr)(h':Heap)(d:_)(vs:List Value)(fp:List Addr)(St:Nat->Heap->Prop),Nums vs ns->(∀b o,s.heap.get? b=some o->h'.get? b=some o)->s.heap.objs.size<=I->(∀f∈fp,f=a\/s.heap.objs.size<=f)->
   Walks prog w A I fp [I] vs.length (λi v=>vs[i]?=some v) St->St 0 h'->Q (.ref I) {s with heap:=h',drawn:=d}) :
  wpAny (model prog w) A (pyIter (.ref a)) Q E s:=by
 obtain⟨es,ep,t,x⟩:=x;have hT:s.TypeIs (.ref a) "set":=⟨_,x.obj,rfl⟩;have la:a<s.heap.objs.size:=Heap.lt_size x.obj;refine wpAny_pyIter_slot hT F.slot_set_iter (wpAny_call_entry F.slot_set_iter hT aQl ?_ (F.args_set_iter_1 _));unfold Builtin.«frozenset.__iter__» Builtin.Frozenset.slot0;refine wpAny_bind (wpAny_bind (wpAny_pure (?_:wpAny _ _ (pure a) _ _ s)));refine wpAny_pure ?_
 unfold Builtin.Frozenset.sizeOf;refine wpAny_bind (wpAny_bind (wpAny_setEntries_of x.obj rfl x.fit (wpAny_pure ?_)));unfold setDrawn;refine wpAny_bind (wpAny_bind (wpAny_setState_of x.obj rfl x.fit ?_));dsimp only;unfold setsByText;refine wpAny_bind (wpAny_bind (wpAny_askSetting (wpAny_pure (wpAny_pure ?_))));have fin:∀(s':Shared)(first:Value),SetIs (!vR w) a ns es ep t s'.heap->Q (.ref s'.heap.objs.size) {s' with heap:=s'.heap.push (aIk first 0 a es.size ep)}->wpAny (model prog w) A.in1 (setEpoch a >>= λe=>newFields "set_iterator" [first,rawInt 0,.ref a,rawInt es.size,rawInt e] >>= λr=>ret r)
   (λfin s'=>∃r,fin=.done (.ret r)/\∃T' r',s'.TypeIs r T'/\typeLookup (.type T') "__next__"=pure (some r')/\Q r s') E s':=λs' first y q'=>by
  refine wpAny_bind (wpAny_setEpoch_of y.obj rfl y.fit ?_);unfold newFields;refine wpAny_bind (wpAny_newObj_type (wpAny_pure ⟨_,rfl,"set_iterator",_,⟨_,Heap.get?_push_size _ rfl,rfl⟩,qC.lookup,?_⟩));exact q'
 by_cases hd:(!vR w&&(!t.plain&&decide (es.size>1)))=true
 .refine wpAny_ite_split (λ_=>?_) λh=>absurd hd h
  refine wpAny_bind (bCc es.size (List.range es.size) s _ length_range λys d py=>?_)
  have lt:∀y∈ys,y<es.size:=λy hy=>List.mem_range.mp (py.mem_iff.mp hy)
  have sz:ys.length<=sizeLine:=fits_of_scanBound (by rw[py.length_eq,length_range,x.size];exact few)
  simp only[newTuple];refine wpAny_bind (wpAny_newObj_type ?_ (by show (List.map _ ys).toArray.size<=sizeLine;rw[List.size_toArray,length_map];exact sz))
  refine fin _ _ (x.keep λo ho=>Heap.get?_push_of_some _ ho) ?_
  refine q _ _ d (ys.map λy=>(es.getD y (0,.none)).2) _ _ ?_ (λb o ho=>Heap.get?_push_of_some _ (Heap.get?_push_of_some _ ho)) ?_ (λf hf=>?_)
   (bCg hh (T:=s.heap.objs.size) ?_ ?_ ys lt) ⟨Heap.get?_push_size _ rfl,x.keep λo ho=>Heap.get?_push_of_some _ (Heap.get?_push_of_some _ ho),Heap.get?_push_of_some _ (Heap.get?_push_size _ rfl)⟩
  .have e:(ys.map λy=>(es.getD y (0,.none)).2)=(ys.map λy=>es.getD y (0,.none)).map (·.2):=by rw[List.map_map];rfl
   rw[e];refine x.nums_of ((py.map _).trans (List.Perm.of_eq ?_));refine List.ext_getElem? λi=>?_
   by_cases hi:i<es.size
   .simp[List.getElem?_map,List.getElem?_range hi,getD_eq_getD_getElem?,hi]
   .simp[hi]
  .rw[Heap.size_push];exact le_succ _
  .rcases List.mem_cons.mp hf with h|h
   .exact .inr (by rw[h,Heap.size_push];exact le_succ _)
   .rcases List.mem_cons.mp h with h|h
    .exact .inl h
    .exact .inr (Nat.le_of_eq (List.mem_singleton.mp h).symm)
  .rw[Heap.size_push];exact Nat.ne_of_lt (Nat.lt_succ_of_lt la)
  .rw[Heap.size_push];exact Nat.ne_of_lt (Nat.lt_succ_self _)
 .refine wpAny_ite_split (λh=>absurd h hd) λ_=>wpAny_bind (wpAny_pure ?_)
  refine fin s (.int 0 0) x ?_
  by_cases hb:vR w=true
  .refine q s.heap.objs.size _ s.drawn ((pickOrder (w.params.setOrder a ep) es).toList.map (·.2)) _ _ (x.nums_of (aIj _ es)) (λb o ho=>Heap.get?_push_of_some _ ho) (Nat.le_refl _) (λf hf=>?_)
    (aOw hh (Nat.ne_of_lt la) (λ_=>0) _ λs i hi y A E Q' h=>aUx y hb 0 i ?_) ⟨Heap.get?_push_size _ rfl,x.keep λo ho=>Heap.get?_push_of_some _ ho⟩
   .rcases List.mem_cons.mp hf with h|h
    .exact .inr (Nat.le_of_eq h.symm)
    .exact .inl (List.mem_singleton.mp h)
   .rw[List.getElem?_map,Option.map_map,getElem?_toList]at h;exact h
  .have hb0:vR w=false:=by revert hb;cases vR w<;>intro h<;>first|rfl|exact absurd rfl h
   have hd0:(!t.plain&&decide (es.size>1))=false:=by
    rw[hb0]at hd;revert hd;cases (!t.plain&&decide (es.size>1)) <;> intro h<;>first|rfl|exact absurd rfl h
   have x':SetIs true a ns es ep t s.heap:=by rw[hb0]at x;exact x
   refine q s.heap.objs.size _ s.drawn (es.toList.map (·.2)) _ _ (x.nums_of (List.Perm.refl _)) (λb o ho=>Heap.get?_push_of_some _ ho) (Nat.le_refl _) (λf hf=>?_)
    (aOw hh (b:=true) (t:=t) (ns:=ns) (Nat.ne_of_lt la) (wQ t) _ λs i hi y A E Q' h=>aYv y hb0 hd0 i (by simpa using hi) ?_) ⟨Heap.get?_push_size _ rfl,x'.keep λo ho=>Heap.get?_push_of_some _ ho⟩
   .rcases List.mem_cons.mp hf with h|h
    .exact .inr (Nat.le_of_eq h.symm)
    .exact .inl (List.mem_singleton.mp h)
   .rw[List.getElem?_map,Option.map_map,getElem?_toList]at h;exact h
end
section
variable {A:Around}
theorem aYw{r:Addr}{Q:Bool->Shared->Prop}(hT:s.TypeIs (.ref r) "set")(q:Q false s):wpAny (model prog w) A (Builtin.List.listLengthHint (.ref r)) Q E s:=by
 unfold Builtin.List.listLengthHint;refine wpAny_bind (wpAny_specialOf hT bCd ?_);generalize hid:("set.__len__":String)=id0
 wp_delta
 rw[show splitId id0=some ("set","__len__") from by subst hid;decide+kernel]
 subst hid;refine wpAny_bind (wpAny_isInstance (T:="set") (b:=true) hT sub_set_self ?_);refine wpAny_ite_split (λh=>absurd h (by decide)) λ_=>wpAny_ite_split (λ_=>?_) λh=>absurd (by decide+kernel) h
 exact wpAny_bind (wpAny_typeOf hT (wpAny_pure q))
theorem jA.typeIs(x:jA b a ns s.heap):s.TypeIs (.ref a) "set":=let ⟨_,_,_,y⟩:=x;⟨_,y.obj,rfl⟩
theorem Nums.len{vs:List Value} (h:Nums vs ns):vs.length=ns.length:=by
 have:=h.1.length_eq;simpa using this
theorem bGc{S:Addr} {res:Value} {R:Result->Shared->Prop} (hh:A.handled=none) (x:jA (!vR w) a ns s.heap) (few:ns.length<scanBound) (hS:s.heap.get? S=some {cls:=.type "list",data:=.seq #[] 0}) (ne:S≠a)
  (r:∀(h':Heap)(d:_)(tk:Nat)(vs:List Value)(c:Nat),Nums vs ns->(∀b o,b≠S->s.heap.get? b=some o->h'.get? b=some o)->h'.get? S=some {cls:=.type "list",dict:=none,data:=.seq vs.toArray c,slots := #[]}->R (.ok (.ret res)) {s with heap:=h',drawn:=d,toks:=tk}) :
  wpAny (model prog w) A.in1 (Builtin.List.listExtendWith (.ref S) (.ref a) res) (λfin s'=>match fin with|.done f=>R (.ok f) s'|.again c'=>c'.quiet=true/\codeAny (model prog w) A c' R s') (λe s'=>R (.error e) s') s:=by
 unfold Builtin.List.listExtendWith;refine wpAny_bind (wpAny_typeOf (T:="set") x.typeIs ?_);rw[if_neg (by simp[Builtin.List.listSameRef,ne])]
 refine wpAny_bind (bCh (A:=A.in1) hh x few λI h' d vs fp St nv k lI lf W st=>?_)
 refine wpAny_bind (wpAny_holding (aYw (jA.typeIs (s:={s with heap:=h',drawn:=d}) (x.keep λo ho=>k a o ho)) ?_))
 have lS:S<s.heap.objs.size:=Heap.lt_size hS;have nS:S∉fp:=λh=>by
  rcases lf S h with e|e
  .exact ne e
  .exact absurd lS (Nat.not_lt.mpr e)
 have go:∀(h1:Heap)(c₁:Nat),St 0 h1->(∀b o,b≠S->s.heap.get? b=some o->h1.get? b=some o)->h1.get? S=some {cls:=.type "list",data:=.seq #[] c₁}->
   codeAny (model prog w) A (.builtin "list.extend.loop" ⟨[.ref S,.ref I,res],[]⟩) R {s with heap:=h1,drawn:=d}:=λh1 c₁ st1 k1 hS1=>by
  refine codeAny_extend_loopS W.toS (fits_of_scanBound (by rw[nv.len];exact few)) S nS res vs.length 0 _ #[] c₁ rfl (zero_le _) st1 hS1 (ItemsOf.nil _) λs' acc c' mv hS' it=>?_
  have ev:acc=vs.toArray:=by
   apply ext';refine List.ext_getElem? λi=>?_
   rw[getElem?_toList,List.toList_toArray];cases ha:acc[i]? with
   |some v=>exact(it.2 i v ha).symm
   |none=>exact(List.getElem?_eq_none (by rw[<-it.1];exact Array.getElem?_eq_none_iff.mp ha)).symm
  subst ev;rw[Moved.eq_with mv];refine r s'.heap d s'.toks vs c' nv (λb o hb ho=>mv.heap b o (λhm=>?_) (k1 b o hb ho)) hS'
  rcases List.mem_cons.mp hm with h|h
  .exact hb h
  .exact absurd (Heap.lt_size ho) (by rw[List.mem_singleton.mp h];exact Nat.not_lt.mpr lI)
 refine wpAny_ite_split (λ_=>?_) λ_=>wpAny_pure ⟨plainId_quiet PySem.F.plain_extend_loop _,go h' 0 st (λb o _ ho=>k b o ho) (k S _ hS)⟩
 refine wpAny_bind (wpAny_rule (wpAny_bind (?_:wpAny _ _ (updateSeq S (·.push .none) >>= λ_=>updateSeq S (·.pop)) _ _ _)))
 have o1:=k S _ hS;have o2:=Heap.get?_update_self (Obj.mapSeq (·.push Value.none)) o1 rfl;have o3:=Heap.get?_update_self (Obj.mapSeq (·.pop)) o2 rfl;have oth:∀b o,b≠S->h'.get? b=some o->((h'.update S (Obj.mapSeq (·.push Value.none))).update S (Obj.mapSeq (·.pop))).get? b=some o:=λb o hb ho=>by
  rw[Heap.get?_update_other _ _ (Ne.symm hb),Heap.get?_update_other _ _ (Ne.symm hb)];exact ho
 refine wpAny_bind (wpAny_updateSeq o1 rfl (wpAny_updateSeq (hz:=by seq_fits) o2 rfl ?_))
 exact wpAny_pure ⟨plainId_quiet PySem.F.plain_extend_loop _,go _ _ (W.frame 0 _ _ st λb hb o ho=>oth b o (λe=>nS (e ▸ hb)) ho) (λb o hb ho=>oth b o hb (k b o ho)) o3⟩
theorem bCi{R:List Value->Shared->Prop}(hh:A.handled=none)(x:jA (!vR w) a ns s.heap)(few:ns.length<scanBound)
  (r:∀(h':Heap)(d:_)(tk:Nat)(vs:List Value),Nums vs ns->(∀b o,s.heap.get? b=some o->h'.get? b=some o)->R vs {s with heap:=h',drawn:=d,toks:=tk}) :
  wpAny (model prog w) A (collect (.ref a)) R E s:=by
 unfold collect;refine wpAny_bind (wpAny_runValue (codeAny_builtin entry_proto_collect' ?_));rw[Around.under_plainId PySem.F.plain_proto_collect _];refine(?_:wpAny _ A.in1 (newList [] >>= λl=>again (.builtin "list.__iadd__" ⟨[l,.ref a],[]⟩)) _ _ s)
 refine wpAny_bind (wpAny_newObj_type (wpAny_pure ⟨plainId_quiet PySem.F.plain_list_iadd _,codeAny_builtin entry_list_iadd' ?_⟩));rw[Around.under_plainId PySem.F.plain_list_iadd _];have la:a<s.heap.objs.size:=let ⟨_,_,_,y⟩:=x;Heap.lt_size y.obj;have hS:(s.heap.push {cls:=.type "list",data:=.seq ([]:List Value).toArray}).get? s.heap.objs.size=some {cls:=.type "list",data:=.seq #[] 0}:=Heap.get?_push_size _ rfl;have key:=bGc (A:=A) (s:={s with heap:=s.heap.push {cls:=.type "list",data:=.seq ([]:List Value).toArray} }) (res:=.ref s.heap.objs.size) (prog:=prog)
  (R:=λ(q:Result)(s':Shared)=>q=.ok (.ret (.ref s.heap.objs.size))/\∃(h':Heap)(d:_)(tk:Nat)(vs:List Value)(c:Nat),s'={s with heap:=h',drawn:=d,toks:=tk}/\Nums vs ns/\(∀b o,s.heap.get? b=some o->h'.get? b=some o)/\h'.get? s.heap.objs.size=some {cls:=.type "list",dict:=none,data:=.seq vs.toArray c,slots := #[]})
  hh (x.keep λo ho=>Heap.get?_push_of_some _ ho) few hS (Nat.ne_of_gt la)
  λh' d tk vs c nv k o=>⟨rfl,h',d,tk,vs,c,rfl,nv,λb o' ho=>k b o' (Nat.ne_of_lt (Heap.lt_size ho)) (Heap.get?_push_of_some _ ho),o⟩
 have last:∀(h':Heap)(d:_)(tk:Nat)(vs:List Value)(c:Nat),Nums vs ns->(∀b o,s.heap.get? b=some o->h'.get? b=some o)->h'.get? s.heap.objs.size=some {cls:=.type "list",dict:=none,data:=.seq vs.toArray c,slots := #[]}->
   wpAny (model prog w) A (load s.heap.objs.size >>= λo=>match o.data with|.seq xs _=>pure xs.toList|_=>unsupported "internal:collect") R E {s with heap:=h',drawn:=d,toks:=tk}:=λh' d tk vs c nv k o=>by
  refine wpAny_bind (wpAny_load o ?_);exact wpAny_pure (r h' d tk vs nv k)
 refine wpAny_mono key (λfin s' y=>?_) λe s' y=>nomatch y.1
 cases fin with
 |done f=>
  obtain⟨e,h',d,tk,vs,c,rfl,nv,k,o⟩:=y;cases e;exact last h' d tk vs c nv k o
 |again c₁=>
  refine⟨y.1,codeAny_mono y.2 λq s₂ z=>?_⟩
  obtain⟨rfl,h',d,tk,vs,c,rfl,nv,k,o⟩:=z;exact last h' d tk vs c nv k o
theorem ints_of:∀{vs:List Value},(∀v∈vs,∃n t,v=Value.int n t)->IntsAre vs (vs.map Pu.numOf)
 |[],_=>IntsAre.nil
 |v::vs,h=>by
  obtain⟨n,t,rfl⟩:=h v mem_cons_self;exact IntsAre.cons _ _ (ints_of λv hv=>h v (mem_cons_of_mem _ hv))
theorem aUy(hh:A.handled=none)(x:jA (!vR w) a ns s.heap)(few:ns.length<64)
  (q:∀(D:Addr)(h':Heap)(d:_)(tk:Nat)(out:Array Value)(ns':List Int)(c:Nat),IntsAre out.toList ns'->ns'.Perm ns->ns'.Pairwise (· <= ·)->(∀b o,s.heap.get? b=some o->h'.get? b=some o)->(∀b o,s.heap.get? b=some o->b<D)->h'.get? D=some (seqObj "list" out c)->Q (.ref D) {s with heap:=h',drawn:=d,toks:=tk}) :
  wpAny (model prog w) A (call (.builtin "sorted") [.ref a]) Q E s:=by
 refine Calls.call_function_entry kind_sorted plain_sorted entry_sorted (args_sorted1 _) ?_
 unfold Builtin.«sorted»;have fb:ns.length<scanBound:=by unfold scanBound;omega
 refine wpAny_bind (m:=checkCount "sorted" 1 1 _) (wpAny_pure (wpAny_bind (bCi (A:=A.in1) hh x fb λh' d tk vs nv k=>?_)))
 have l64:vs.length<64:=by rw[nv.len];exact few
 refine wpAny_bind (wpAny_newList ?_ (by rw[sizeLine_eq];omega))
 have o:(h'.push (seqObj "list" vs.toArray 0)).get? h'.objs.size=some (seqObj "list" vs.toArray 0):=Heap.get?_push_size _ rfl;refine wpAny_bind (wpAny_holding (wpAny_call_entry slot_list_sort ⟨_,o,rfl⟩ entry_list_sort (list_sort_tree o (ints_of nv.2) l64 λout ns' e1 e2 e3=>⟨_,rfl,?_⟩) (args_list_sort _)))
 obtain⟨c,oc⟩:=sortedHeap_at (out:=out) o;refine wpAny_pure ⟨_,rfl,q _ _ d tk out ns' c e1 (e2.trans nv.1) e3 (λb ob hb=>?_) (λb ob hb=>Heap.lt_size (k b ob hb)) oc⟩
 have l:=Heap.lt_size (k b ob hb);rw[sortedHeap_old (Nat.ne_of_lt l) (by rw[Heap.size_push];exact Nat.lt_succ_of_lt l)]
 exact Heap.get?_push_of_some _ (k b ob hb)
end
end Pu
namespace Pu
open PySem PySem.Spec PyProof.Rows L2
theorem aKk(ns:List Int):∀k,k<=ns.length->aMe (λi=>ns.getD i 0) k=yS (ns.take k)
 |0,_=>rfl
 |k+1,h=>by
  have e:ns.take (k+1)=ns.take k++[ns.getD k 0]:=by
   rw[List.take_add_one,getD_eq_getElem?_getD,List.getElem?_eq_getElem (show k<ns.length by omega)]
   rfl
  rw[e];show aMc (aMe _ k) _=_;rw[aKk ns k (by omega)]
  unfold yS;rw[List.foldl_append];rfl
theorem aYx{l m:List Int}(h:m.Perm l)(hw:m.Pairwise (· <= ·)):m=yH l:=List.Perm.eq_of_pairwise (le:=(· <= ·)) (λa b _ _ h1 h2=>Int.le_antisymm h1 h2) hw (aN8 l) (h.trans (sE l).symm)
theorem aIl:∀{us:List Value}{ns:List Int},IntsAre us ns->Vals (ns.map V.int) us
 |_,_,.nil=>.nil
 |_,_,.cons n t h=>.cons ⟨t,rfl⟩ (aIl h)
theorem aOx{o:HO}(x:iU P w H h a o):∃u,h.get? a=some u:=by
 cases o with
 |lst xs=>obtain⟨_,_,_,_,e⟩:=x;exact⟨_,e⟩
 |tup xs=>obtain⟨_,_,_,o,e,_⟩:=x;exact⟨_,e⟩
 |dK kvs=>obtain⟨_,_,_,_,o,_,_,e,_⟩:=x;exact⟨_,e⟩
 |dT kvs=>obtain⟨_,_,_,_,o,_,_,e,_⟩:=x;exact⟨_,e⟩
 |set S n=>obtain⟨o,_,_,_,e,_⟩:=x;exact⟨_,e⟩
 |ins C dx fs=>obtain⟨_,_,_,e,_⟩:=x;exact⟨_,e⟩
 |own y=>obtain⟨_,e⟩:=x;exact⟨_,e⟩
 |xd fs=>obtain⟨_,⟨_,_,_,e,_⟩,_⟩:=x;exact⟨_,e⟩
 |rng lo hi=>obtain⟨_,_,_,e⟩:=x;exact⟨_,e⟩
 |frz ob u=>obtain⟨e,_⟩:=x;exact⟨_,e⟩
 |tbl ps=>exact⟨_,(show h.get? a=some _ from x)⟩
 |met f y=>exact⟨_,(show h.get? a=some _ from x)⟩
 |ext φ=>obtain⟨_,⟨_,e⟩,_⟩:=x;exact⟨_,e⟩
section
variable {a:Expr}
theorem aUz(hc:X.calm=true):mG X (.type "set") (λxs H Q=>∃p ns,xs=[.ref p]/\SqL X.K H p (ns.map V.int)/\ns.length<=4000/\∀l,H l=none->Q (.ref l) (upd H l (.ext (jA (!vR X.w) l (yS ns))))):=by
 intro pins s σ H xs us Q I r h;obtain⟨p,ns,rfl,hq,hl,q⟩:=h;obtain⟨u,rfl,rx⟩:=vals1 r;cases rx;obtain⟨its,r',pl,hz⟩:=I.list hq;have hlen:=r'.length;rw[length_map]at hlen;refine bCb (ns:=ns) (I.ok.hd hc) pl.isList (by simpa using aIe r') (by rw[List.size_toArray,<-hlen];show ns.length+1<4096;omega) λh' tk hS hk=>?_
 rw[show its.toArray.size=ns.length by rw[List.size_toArray,hlen],aKk ns _ (Nat.le_refl _),List.take_length]at hS
 obtain⟨es,ep,t,hIs⟩:=id hS;exact⟨.ref s.heap.objs.size,_,I.laid (t':=tk) (o:=.ext (jA (!vR X.w) s.heap.objs.size (yS ns))) hk (Nat.le_refl _) ⟨hS,⟨_,hIs.obj⟩,λh1 h2 x k=>x.keep k⟩,rfl,q _ (I.hok.fresh (Nat.le_refl _))⟩
theorem aV0(hc:X.calm=true):mG X (.builtin "sorted") (λxs H Q=>∃p ns,xs=[.ref p]/\H p=some (.ext (jA (!vR X.w) p ns))/\ns.length<64/\∀l,H l=none->Q (.ref l) (upd H l (.lst ((yH ns).map V.int)))):=by
 intro pins s σ H xs us Q I r h;obtain⟨p,ns,rfl,hq,hn,q⟩:=h;obtain⟨u,rfl,rx⟩:=vals1 r;cases rx;obtain⟨hS,_,_⟩:=I.hok _ _ hq;refine aUy (I.ok.hd hc) hS hn λD h' d tk out ns' c ho hp hw hk hD hd=>?_
 obtain rfl:=aYx hp hw;have hDn:H D=none:=by
  cases hH:H D with
  |none=>rfl
  |some o=>
   obtain⟨u,e⟩:=aOx (I.hok D o hH);exact absurd (hD D u e) (Nat.lt_irrefl _)
 have sm:bF H (upd H D (.lst ((yH ns).map V.int))):=cH hDn;have hl:(yH ns).length=ns.length:=(sE ns).length_eq;refine⟨.ref D,upd H D (.lst ((yH ns).map V.int)),I.step (g':=s.gens) (d':=d) (t':=tk) (ch:=[]) (λ_ z=>nomatch z) (λb o _ _ _ e _=>hk b o e) (λb o _ _ _ e _=>⟨o.slots,hk b o e⟩) (λb o _ e n=>by rw[bQ (Nat.ne_of_lt (hD b o e))];exact n) (λb o _ e=>⟨o,hk b o e⟩) (λb xs e=>sm _ _ e) (λb o u e=>sm _ _ e) (λb ps e=>⟨#[],by rw[sm _ _ e];simp⟩) (λm ⟨o,es,ep,ho,r⟩=>⟨o,es,ep,hk _ o ho,r⟩) (λb o e=>?_) I.bare,rfl,q _ hDn⟩
 by_cases hb:b=D
 .subst hb;rw[bZ]at e;cases e;exact⟨by rw[length_map,hl,sizeLine_eq];omega,out.toList,c,aIl ho,by simpa using hd⟩
 .rw[bQ hb]at e;exact(I.hok b _ e).stay (λb v _ q=>hk b v q) (λb q=>sm _ _ q) λb xs q=>sm _ _ q
theorem aIm{K:Frag}{H:Hp}:∀(l:List Int),bH K H (l.map D.int) (l.map V.int)
 |[]=>.nil
 |_::l=>.cons (bO.mpr rfl) (aIm l)
theorem aYy(hm:X.mg "sorted"=none)(hm2:X.mg "set"=none)(hc:X.calm=true)(ha:PE X a (tP X.K B f))(hg:Gl X "sorted":=by rfl)(hg2:Gl X "set":=by rfl)(hs:starEach [.Call (.Name "set" p1) [a] [] p2] X.env=(false,eval (.Call (.Name "set" p1) [a] [] p2) X.env)::starEach [] X.env:=by rfl)
  (hs2:starEach [a] X.env=(false,eval a X.env)::starEach [] X.env:=by rfl):PE X (.Call (.Name "sorted" p0) [.Call (.Name "set" p1) [a] [] p2] [] pos) (tI X.K B (e1 aL6 f)):=by
 refine cN (qG (aV0 hc) hg hm PyProof.Rows.boot_sorted (eE (vA (aUz hc) hg2 hm2 PyProof.Rows.boot_set (eE ha jG hs2) (he:=hs2)) jG hs) (he:=hs)) ?_
 rintro σ H Q ⟨A,st,d,rs,hd,q⟩;obtain⟨x,hx,h2⟩:=R.ok_of hd;cases x<;>first|(cases h2;done)|skip
 rename_i xs;obtain⟨l,hl,h3⟩:=R.ok_of h2;obtain⟨c,h4⟩:=aJ h3;cases h4;refine⟨A,st,_,rs,hx,λv H1 s1 r1=>?_⟩
 obtain⟨p,vs,e,h6,r6⟩:=r1.lst;rw[yR hl]at r6;rw[aEr r6]at h6;exact⟨p,l,by rw[e],h6,c.1,λn hn=>⟨n,_,rfl,bZ,c.2,λm hm'=>q _ _ (s1.trans ((cH hn).trans (cH hm'))) (iI (rs.own.mono (s1.trans (cH hn))) hm' (aIm _))⟩⟩
end
section
variable {iter c:Expr} {t:Tg} {u:Ex}
theorem aYz(is:List Nat)(hsub:aI7 is t)(S:CScope X scope is)(hi:L2.PI X tg iter (tIt X.K B it))(hg:∀(B:List Addr)(C:Addr)(s₀:Shared)(H₀:Hp)(fp:List Addr),PG (cR X scope C s₀ H₀ fp) tg (tG X.K B t))
  (ht:∀(B:List Addr)(C:Addr)(s₀:Shared)(H₀:Hp)(fp:List Addr),PT (cR X scope C s₀ H₀ fp) c (tT X.K B u))
  (he:∀(B:List Addr)(C:Addr)(s₀:Shared)(H₀:Hp)(fp:List Addr),PE (cR X scope C s₀ H₀ fp) elt (tI X.K B f)) (hc:X.calm=true) (hs:∀x,foldedSetIterable iter X.env x=pure x:=by intro _;rfl) :
  PE X (.ListComp elt [⟨tg,iter,[c],0⟩] scope pos) (tF X.K B (dF is t it u f)):=by
 intro pins s σ H Q I h;obtain⟨A,st,d,rs,hd,q⟩:=h;obtain⟨xs,hx,h2⟩:=R.ok_of hd;obtain⟨hl,h3⟩:=aJ h2;obtain⟨ys,hy,h4⟩:=R.ok_of h3;cases h4;rw[eval_ListComp];refine vO (use:=none) (Qf:=EP X pins σ Q) (Q:=Q) (tt:=tTx X.K u) (te:=tIx X.K f) (rest:=λenv it p=>isTrue c env (eval c env) >>= λok=>if ok=true then (eval elt env >>= λx=>call (.builtin "list.append") [p,x] >>= λ_=>again (.compLoop (.ListComp elt [⟨tg,iter,[c],0⟩] scope pos) 0 it p env)) else again (.compLoop (.ListComp elt [⟨tg,iter,[c],0⟩] scope pos) 0 it p env)) S hc hi (λC s₀ H₀ fp=>aY0 λB=>hg B C s₀ H₀ fp) (λ_ _ _=>sV)
  (λC s₀ H₀ fp it p s Q h=>bFx (Y:=cR X scope C s₀ H₀ fp) h) (λC s₀ H₀ fp it p τ H s pins vs N Q I h q=>aY1 (Y:=cR X scope C s₀ H₀ fp) rfl (aXz λB=>he B C s₀ H₀ fp) (bFy λB=>ht B C s₀ H₀ fp) τ H s pins vs N Q I h (λ_ Q Q' m h=>zU Q Q' m h) q) hs I
  (aOa hsub (λτ H Q h=>h) rs hx hl hy λp vs H1 H' s1 hp s2 hv r=>?_) λC p H5 s5 m5 s3 H3 fp τ hC I3 hfp I5 hn5 q5=>⟨m5,hn5,λh' hs'=>⟨.ref p,H5,aGf I3 hfp hC I5 hs',rfl,q5⟩⟩
 obtain⟨G,g1,g2,g3,g4⟩:=bKa s1 hp s2 hv r;have:=q p vs G g1 g2 g4;rw[g3]at this;exact this
end
section
variable {x:Expr} {h:Ex}
theorem bGd{K:Frag} {t:Bool} {ks:List D} (rx:lD K A H (.dct t ks ds) v):∃a,v=.ref a/\IsD H a:=by
 rcases rx with h|⟨a,kk,o,ds',vs,e,e2,h,ko,r⟩
 .obtain⟨a,vs,e,q,r⟩:=wL.mp h;rcases q with ⟨_,kvs,q1,_,_⟩|⟨_,kvs,q1,_,_⟩
  .exact⟨a,e,.inl ⟨kvs,.inl (bN _ _ _ _ q1)⟩⟩
  .exact⟨a,e,.inr ⟨kvs,.inl (bN _ _ _ _ q1)⟩⟩
 .cases kk<;>cases e;rcases ko with ⟨_,kvs,q1,_⟩|⟨_,kvs,q1,_⟩
  .subst q1;exact⟨a,e2,.inl ⟨kvs,.inl h⟩⟩
  .subst q1;exact⟨a,e2,.inr ⟨kvs,.inl h⟩⟩
theorem bCj{K:Frag} {k z r:D} {u y:V} (hv:v=.ref a) (rx:lD K A H d v) (ry:Rep K (hide A H) k u) (rz:Rep K (hide A H) z y) (hd:aGz d k z=.ok r):∃ov,aAw H a u ov/\Rep K (hide A H) r (ov.getD y):=by
 unfold aGz at hd;split at hd
 .obtain⟨hk,h2⟩:=aJ hd;obtain⟨a',ov,e3,g,hs,g2⟩:=aGe rx (ry.mono (bN _ _)) hk;rw[hv]at e3;cases e3;refine⟨ov,g,?_⟩;split at h2
  .obtain⟨w,rfl,rw'⟩:=g2 r (zR h2);exact rw'
  .rename_i hn;cases h2;have:ov=none:=by
    cases ov with
    |none=>rfl
    |some w=>exact absurd (hs.symm.trans rfl) hn
   rw[this];exact rz
 .cases hd
theorem aZ0{k z r:D}(hd:aGz d k z=.ok r):∃t ks vs,d=.dct t ks vs:=by
 unfold aGz at hd;split at hd
 .exact⟨_,_,_,rfl⟩
 .cases hd
theorem bGe(hu:X.A.units+64<cLine)(ho:PE X o (tP X.K B f))(he:PE X e (tI X.K B g))(m1:attributeBase o "get" X.env (eval o X.env)=eval o X.env:=by rfl)
  (m2:((backTo cpos (starEach [e] X.env)).all (λx=>!x.1)&&(backToKw cpos (keywordEach [] X.env)).all (λx=>x.1.isSome)
   && decide (([e]:List Expr).length+([]:List Keyword).length+(if ([]:List Keyword).isEmpty then 0 else 1)<30))=true:=by rfl)
  (m3:(apos.endLine==cpos.line)=true:=by rfl) (m4:backTo cpos (starEach [e] X.env)=[(false,eval e X.env)]:=by rfl):PE X (.Call (.Attribute o "get" apos) [e] [] cpos) (tI X.K B (aW9 f g (eC .non))):=by
 refine cN (aVy (by omega) ho he ⟨m1,m2,m3,m4⟩) ?_
 rintro σ H Q ⟨A,st,r,rs,hr,q⟩;obtain⟨d,hd,h2⟩:=R.ok_of hr;obtain⟨k,hk,h3⟩:=R.ok_of h2;have h4:aGz d k .non=.ok r:=h3;refine⟨A,st,d,rs,hd,λv H1 s1 rx=>?_⟩
 obtain⟨t,ks,vs,rfl⟩:=aZ0 h4;obtain⟨a,rfl,hD⟩:=bGd rx;refine⟨a,rfl,hD,A,st,k,rs.mono s1,hk,λu H2 s2 ry=>?_⟩
 obtain⟨ov,g1,g2⟩:=bCj rfl (rx.mono s2) ry (rM.mpr rfl) h4;exact⟨ov,g1,q _ H2 (s1.trans s2) g2⟩
end
section
variable {a b:Expr} {r:Exs}
theorem bGf(ha:PA X es (tA X.K B r))(hb:PE X b (tP X.K B g)):PE X (.BinOp (.List es p1) .Mult b pos) (tI X.K B (aRe r g)):=by
 refine cN (bCo bEa (aPl ha) hb) ?_
 rintro σ H Q ⟨A,st,d,rs,hd,q⟩;obtain⟨xs,hx,h2⟩:=R.ok_of hd;obtain⟨y,hy,h3⟩:=R.ok_of h2;obtain⟨j,rfl,h4⟩:=aPp h3;obtain⟨⟨c0,c1,c2,c3⟩,h5⟩:=aJ h4;cases h5;refine⟨A,st,xs,rs,hx,λvs H1 s1 r1=>⟨by rw[r1.length];exact lim c0,λp hp=>?_⟩⟩
 have s2:=s1.trans (cH (o:=.lst vs) hp);refine⟨A,st,_,rs.mono s2,hy,λv H2 s3 r2=>?_⟩
 refine⟨p,j,vs,rfl,r2.int,s3 _ _ bZ,by omega,by omega,by rw[r1.length];exact lim c1,λn hn=>?_⟩
 refine q _ _ (s2.trans (s3.trans (cH hn))) (iI (rs.own.mono (s2.trans s3)) hn ?_);exact((r1.mono (bF.hide (cH hp))).mono (bF.hide s3)).rep j.toNat
theorem bCk(hm:X.mg "int"=none)(ha:PE X a (tP X.K B f))(hg:Gl X "int":=by rfl)(hs:starEach [a] X.env=(false,eval a X.env)::starEach [] X.env:=by rfl):PE X (.Call (.Name "int" p0) [a] [] pos) (tI X.K B (e1 bA9 f)):=by
 refine cN (vA aTc hg hm (by rfl) (eE ha jG hs) (he:=hs)) ?_
 rintro σ H Q ⟨A,st,d,rs,hd,q⟩;obtain⟨y,hy,h2⟩:=R.ok_of hd;refine⟨A,st,y,rs,hy,λv H1 s1 r1=>?_⟩
 unfold bA9 at h2;split at h2
 .cases h2;exact .inl ⟨_,by rw[r1.int],q _ H1 s1 (bO.mpr rfl)⟩
 .cases h2;exact .inr ⟨_,by rw[r1.bl],q _ H1 s1 (bO.mpr rfl)⟩
 .cases h2
end
structure Mk0(K:Frag)(C:Addr):Prop where
 makes:makesIn K C=true
 init:findIn K (.ref C) "__init__"=some (some (.builtin "object.__init__"))
 kp:keepIn K (.ref C)=true
structure IsC(K:Frag)(C:Addr):Prop where
 one:kitOne K (.ref C) (.ref C)=some true
 at_:findIn K (.ref C) "__class__"=some (some (.builtin "object.__class__"))
 get:specialIn K (.builtin "object.__class__") "__get__"=some (some (.builtin "getset_descriptor.__get__"))
 tak:takesIn K (.builtin "object.__class__")=some true
 top:mroIn K C (.type "object")=some true
section
variable {a b:Expr}
theorem aOy(hf:PE X e (tI X.K B f))(hg:PE X e (tI X.K B g)):PE X e (tI X.K B (aAy f g)):=by
 intro pins s σ H Q I h;obtain⟨A,st,d,rs,hd,q⟩:=h;rcases bEo hd with h|h
 .exact hf pins s σ H Q I ⟨A,st,d,rs,h,q⟩
 .exact hg pins s σ H Q I ⟨A,st,d,rs,h,q⟩
theorem aZ1(n:Mk0 X.K C)(hc:ClsAt X.K c C)(hm:X.mg (Str.ofString c)=some (.ref C))(hg:Gl X (Str.ofString c):=by rfl)(hdb:(Str.ofString c==("__debug__":Str))=false:=by decide) :
  PE X (.Call (.Name (Str.ofString c) p0) [] [] pos) (tI X.K B (aN9 c)):=by
 intro pins s σ H Q I h;obtain⟨A,st,d,rs,hd,q⟩:=h;cases hd;refine wpAny_Call_Name_kw (aG1 I hg hm ?_ hdb);refine PySem.W.callWith_K0 I.kIn n.kp ?_
 have Y:=PySem.W.makes_of (M:=model X.prog X.w) I.kIn n.makes;refine wpAny_call (aTe I.kIn n.makes n.init (λself=>PySem.W.Looks.of_pure (PySem.W.oi_bind self)) ?_)
 have hx:((s.heap.push emptyDict).push (instObj C s.heap.objs.size)).get? (s.heap.objs.size+1)=some (instObj C s.heap.objs.size):=by
  have:=Heap.get?_push_size (s.heap.push emptyDict) (o:=instObj C s.heap.objs.size) rfl
  rwa [Heap.size_push]at this
 have t1:Looks (model X.prog X.w) ((s.heap.push emptyDict).push (instObj C s.heap.objs.size)) (typeOf (.ref (s.heap.objs.size+1))) (.ref C):=(PySem.W.Looks.ld hx).andThen .now;have t2:Looks (model X.prog X.w) ((s.heap.push emptyDict).push (instObj C s.heap.objs.size)) (isInstance (.ref (s.heap.objs.size+1)) (.type "object")) true:=t1.andThen (Y.top.keeps λb o z=>Heap.get?_push_of_some _ (Heap.get?_push_of_some _ z))
 refine codeAny_call_builtin PySem.W.oi_plain PySem.W.entry_oi (@PySem.W.check_slot (model X.prog X.w) _ _ _ "object.__init__" "object" "__init__" (.ref (s.heap.objs.size+1)) [] [] _ PySem.W.oi_kind PySem.W.oi_split t2 (PySem.W.oi_args (.ref (s.heap.objs.size+1))) ?_);rw[PySem.W.oi_run];refine wpAny_pure (And.intro rfl ?_);have hx0:H (s.heap.objs.size+1)=none:=I.hok.fresh (le_succ _);have hdx:H s.heap.objs.size=none:=I.hok.fresh (Nat.le_refl _);refine⟨V.ref (s.heap.objs.size+1),_,Inv.made (C:=C) I,rfl,q _ _ (λb u z=>?_) ?_⟩
 .rw[bQ (bC z hx0),bQ (bC z hdx)];exact z
 .refine aGd.mpr ⟨_,C,s.heap.objs.size,[],[],rfl,?_,hc.ns,rfl,rfl,.nil⟩;rw[cB (rs.own.free hx0)];exact bZ
end
section
theorem aV1{C':Addr} (hc:Cls X.K C) (hi:IsC X.K C) (ho:kitOne X.K (.ref C) (.ref C')=some b):mG X (.builtin "isinstance") (λxs H Q=>∃l dx fs,xs=[.ref l,.ref C']/\H l=some (.ins C dx fs)/\Q (.bl b) H):=by
 intro pins s σ H xs us Q I r q;obtain⟨l,dx,fs,rfl,hl,q⟩:=q;obtain⟨u1,u2,rfl,r1,r2⟩:=r.two;have e2:u2=Value.ref C':=r2;subst e2;exact aTg I r1 (.ins hl hc hi.at_ hi.get hi.tak hi.top) ho λtk=>⟨.bl b,H,I.tok tk,rfl,q⟩
theorem aZ2{a:Expr} {c':String} {C':Addr} (hm:X.mg "isinstance"=none) (hc:ClsAt X.K c C) (hD:X.mg (Str.ofString c')=some (.ref C')) (hi:IsC X.K C) (ho:kitOne X.K (.ref C) (.ref C')=some b) (ha:PE X a (tP X.K B f)) (hg:Gl X "isinstance":=by rfl) (hg2:Gl X (Str.ofString c'):=by rfl) (hdb:(Str.ofString c'==("__debug__":Str))=false:=by decide)
  (hs:starEach [a,.Name (Str.ofString c') p1] X.env=(false,eval a X.env)::starEach [.Name (Str.ofString c') p1] X.env:=by rfl) (hs2:starEach [.Name (Str.ofString c') p1] X.env=(false,eval (.Name (Str.ofString c') p1) X.env)::starEach [] X.env:=by rfl) :
  PE X (.Call (.Name "isinstance" p0) [a,.Name (Str.ofString c') p1] [] pos) (tI X.K B (e1 (aJl c b) f)):=by
 refine cN (qG (aV1 hc.cl hi ho) hg hm boot_isinstance (eE ha (eE (aKp (v:=.ref C') hg2 hD rfl hdb) jG hs2) hs) (he:=hs)) ?_
 rintro σ H Q ⟨A,st,d,rs,hd,q⟩;obtain⟨x,hx,h2⟩:=R.ok_of hd;refine⟨A,st,x,rs,hx,λv H1 s1 r1=>?_⟩
 cases x<;>first|(cases h2;done)|skip
 obtain⟨e1,h3⟩:=aJ h2;subst e1;cases h3;obtain⟨p,C',dx,fs,e2,h4,h5,h6,h7⟩:=r1.ins;subst e2;have:C'=C:=by have z:=h5.symm.trans hc.ns;injection z with z;injection z with z;injection z
 subst this;exact⟨p,dx,fs,rfl,h4,q _ H1 s1 (cV.mpr rfl)⟩
end
section
variable {a b:Expr}
theorem bGg(ha:PE X a (tP X.K B f))(hb:PE X b (tP X.K B g)):PE X (.BinOp a .BitXor b pos) (tI X.K B (e2 aWa f g)):=
 aFv bE2 (uB (g:=λi j=>.int (Builtin.bitXor i j)) (λ_ _ _=>bO.mpr rfl) λx y d e=>by
  unfold aWa at e;split at e
  .obtain⟨c,e⟩:=aJ e;cases e;exact⟨_,_,rfl,rfl,by unfold Builtin.bitXor;rw[aOp c.1 c.2,bitAnd_nn c.1 c.2]⟩
  .cases e) ha hb
end
section
variable {A:Around}
theorem aQm{p:Addr}{vs:List Value} (hl:s.heap.IsList p vs.toArray) (hi:IntsAre vs ns) (few:vs.length<64)
  (q:∀(D:Addr)(h':Heap)(out:Array Value)(ns':List Int)(c:Nat),IntsAre out.toList ns'->ns'.Perm ns->ns'.Pairwise (· <= ·)->(∀b o,s.heap.get? b=some o->h'.get? b=some o)->(∀b o,s.heap.get? b=some o->b<D)->h'.get? D=some (seqObj "list" out c)->Q (.ref D) {s with heap:=h'}) :
  wpAny (model prog w) A (call (.builtin "sorted") [.ref p]) Q E s:=by
 have big':vs.length<=sizeLine:=by rw[sizeLine_eq];omega
 refine Calls.call_function_entry kind_sorted plain_sorted entry_sorted (args_sorted1 _) ?_
 unfold Builtin.«sorted»;refine wpAny_bind (m:=checkCount "sorted" 1 1 _) (wpAny_pure (wpAny_bind (collect_list hl ?_ big')));have kA:∀b o,s.heap.get? b=some o->((s.heap.push (seqObj "list" #[] 0)).update s.heap.objs.size (Obj.mapSeq (· ++ vs.toArray))).get? b=some o:=λb o e=>by
  rw[Heap.get?_update_ne _ _ _ _ (Nat.ne_of_lt (Heap.lt_size e))];exact Heap.get?_push_of_some _ e
 generalize (s.heap.push (seqObj "list" #[] 0)).update s.heap.objs.size (Obj.mapSeq (· ++ vs.toArray))=h' at kA;refine wpAny_bind (wpAny_newList ?_ big');have o:(h'.push (seqObj "list" vs.toArray 0)).get? h'.objs.size=some (seqObj "list" vs.toArray 0):=Heap.get?_push_size _ rfl;refine wpAny_bind (wpAny_holding (wpAny_call_entry slot_list_sort ⟨_,o,rfl⟩ entry_list_sort (list_sort_tree o hi few λout ns' e1 e2 e3=>⟨_,rfl,?_⟩) (args_list_sort _)))
 obtain⟨c,oc⟩:=sortedHeap_at (out:=out) o;refine wpAny_pure ⟨_,rfl,q _ _ out ns' c e1 e2 e3 (λb ob hb=>?_) (λb ob hb=>Heap.lt_size (kA b ob hb)) oc⟩
 have l:=Heap.lt_size (kA b ob hb);rw[sortedHeap_old (Nat.ne_of_lt l) (by rw[Heap.size_push];exact Nat.lt_succ_of_lt l)]
 exact Heap.get?_push_of_some _ (kA b ob hb)
end
section
variable {a:Expr}
theorem aV2:mG X (.builtin "sorted") (λxs H Q=>∃(p:Addr)(ns:List Int),xs=[.ref p]/\SqL X.K H p (ns.map V.int)/\ns.length<64/\∀l,H l=none->Q (.ref l) (upd H l (.lst ((yH ns).map V.int)))):=by
 intro pins s σ H xs us Q I r h;obtain⟨p,ns,rfl,hl,hn,q⟩:=h;obtain⟨u,rfl,rx⟩:=vals1 r;cases rx;obtain⟨its,rv,pl,_⟩:=I.list hl;have hln:its.length=ns.length:=by rw[<-rv.length,length_map]
 refine aQm pl.isList (aIe rv) (by omega) λD h' out ns' c ho hp hw hk hD hd=>?_
 obtain rfl:=aYx hp hw;have hDn:H D=none:=by
  cases hH:H D with
  |none=>rfl
  |some o=>
   obtain⟨u,e⟩:=aOx (I.hok D o hH);exact absurd (hD D u e) (Nat.lt_irrefl _)
 have sm:bF H (upd H D (.lst ((yH ns).map V.int))):=cH hDn;have hl':(yH ns).length=ns.length:=(sE ns).length_eq;refine⟨.ref D,upd H D (.lst ((yH ns).map V.int)),I.step (g':=s.gens) (t':=s.toks) (ch:=[]) (λ_ z=>nomatch z) (λb o _ _ _ e _=>hk b o e) (λb o _ _ _ e _=>⟨o.slots,hk b o e⟩) (λb o _ e n=>by rw[bQ (Nat.ne_of_lt (hD b o e))];exact n) (λb o _ e=>⟨o,hk b o e⟩) (λb xs e=>sm _ _ e) (λb o u e=>sm _ _ e) (λb ps e=>⟨#[],by rw[sm _ _ e];simp⟩) (λm ⟨o,es,ep,ho,r⟩=>⟨o,es,ep,hk _ o ho,r⟩) (λb o e=>?_) I.bare,rfl,q _ hDn⟩
 by_cases hb:b=D
 .subst hb;rw[bZ]at e;cases e;exact⟨by rw[length_map,hl',sizeLine_eq];omega,out.toList,c,aIl ho,by simpa using hd⟩
 .rw[bQ hb]at e;exact(I.hok b _ e).stay (λb v _ q=>hk b v q) (λb q=>sm _ _ q) λb xs q=>sm _ _ q
theorem bGh(hm:X.mg "sorted"=none)(ha:PE X a (tP X.K B f))(hg:Gl X "sorted":=by rfl)(hs:starEach [a] X.env=(false,eval a X.env)::starEach [] X.env:=by rfl):PE X (.Call (.Name "sorted" p0) [a] [] pos) (tI X.K B (e1 aNa f)):=by
 refine cN (qG aV2 hg hm PyProof.Rows.boot_sorted (eE ha jG hs) (he:=hs)) ?_
 rintro σ H Q ⟨A,st,d,rs,hd,q⟩;obtain⟨x,hx,h2⟩:=R.ok_of hd;cases x<;>first|(cases h2;done)|skip
 rename_i xs;obtain⟨l,hl,h3⟩:=R.ok_of h2;obtain⟨c,h4⟩:=aJ h3;cases h4;refine⟨A,st,_,rs,hx,λv H1 s1 r1=>?_⟩
 obtain⟨p,vs,e,h6,r6⟩:=r1.lst;rw[yR hl]at r6;rw[aEr r6]at h6;exact⟨p,l,by rw[e],h6,c,λn hn=>q _ _ (s1.trans (cH hn)) (iI (rs.own.mono s1) hn (aIm _))⟩
end
section
variable {a b c:Expr} {h:Ex}
theorem aZ3{r r':R2}{o o':Op2}(sem:vN X.K r o)(sem':vN X.K r' o') {Q:VK} (hh:tI X.K B (aWb o o' f g h) σ H Q):aVm r r' (tP X.K B f) (tP X.K B g) (tP X.K B h) σ H Q:=by
 obtain⟨A,st,d,rs,hd,q⟩:=hh;obtain⟨x,hx,h2⟩:=R.ok_of hd;obtain⟨y,hy,h3⟩:=R.ok_of h2;obtain⟨z,hz,h4⟩:=R.ok_of h3;obtain⟨k,rfl,h5⟩:=rW h4;refine⟨A,st,x,rs,hx,λv H1 s1 r1=>⟨A,st,y,rs.mono s1,hy,λu H2 s2 r2=>?_⟩⟩
 refine sem (A++B) H2 x y _ v u _ (rs.own.mono (s1.trans s2)) (r1.mono s2) r2 hz λw H3 s3 r3=>⟨k,cV.mp r3,?_⟩
 cases k with
 |false=>
  rw[if_neg Bool.false_ne_true]at h5 ⊢;cases h5;exact q _ H3 (s1.trans (s2.trans s3)) (cV.mpr rfl)
 |true=>
  rw[if_pos rfl]at h5 ⊢;obtain⟨z2,hz2,h6⟩:=R.ok_of h5;refine⟨A,st,z2,rs.mono (s1.trans (s2.trans s3)),hz2,λw4 H4 s4 r4=>?_⟩
  exact sem' (A++B) H4 y z2 d u w4 Q (rs.own.mono (s1.trans (s2.trans (s3.trans s4)))) (r2.mono (s3.trans s4)) r4 h6 λw5 H5 s5 r5=>q w5 H5 (s1.trans (s2.trans (s3.trans (s4.trans s5)))) r5
theorem bCl{op':CmpOp}{r r':R2}{o o':Op2}(ho:OpR X (compareOp op) r)(sem:vN X.K r o)(ho':OpR X (compareOp op') r')(sem':vN X.K r' o')(ha:PE X a (tP X.K B f))(hb:PE X b (tP X.K B g))(hc:PE X c (tP X.K B h))
  (hm:lastMarks [op,op'] [b,c]=false:=by with_unfolding_all rfl):PT X (.Compare a [op,op'] [b,c] pos) (tT X.K B (aWb o o' f g h)):=aLu (aVn ho ho' ha hb hc hm) λ_ _ _ q=>aZ3 sem sem' (bFm q)
end
end Pu
set_option maxHeartbeats 4000000
namespace Pu
open PySem PySem.Spec PyProof.Rows L2
def top(i:Nat):Stmt:=PySem.Challenge.pw_looprank_k44_early_ones.main.body.getD i (.Pass ⟨0,0,0,0⟩)
def inCls(s:Stmt)(j:Nat):Stmt:=match s with
 |.ClassDef _ _ _ b _ _ _ _ _ _ _=>b.getD j (.Pass ⟨0,0,0,0⟩)
 |_=>.Pass ⟨0,0,0,0⟩
abbrev zW:Stmt:=top 56
abbrev zX:Stmt:=top 57
abbrev uV:Stmt:=top 58
abbrev sX:Stmt:=top 59
abbrev zY:Stmt:=top 60
abbrev wR:Stmt:=top 61
abbrev zZ:Stmt:=top 62
abbrev aEs:Stmt:=top 10
abbrev wU:Stmt:=top 11
abbrev aC8:Stmt:=top 15
abbrev aC9:Stmt:=top 16
abbrev lE:Stmt:=inCls (top 21) 1
abbrev dI:Stmt:=inCls (top 21) 3
abbrev jB:Stmt:=inCls (top 21) 6
abbrev jC:Stmt:=inCls (top 21) 7
abbrev uW:Stmt:=top 63
abbrev aA0:Stmt:=top 64
abbrev aCa:Stmt:=top 27
abbrev aCb:Stmt:=top 28
abbrev aEt:Stmt:=top 26
abbrev wV:Stmt:=top 31
abbrev aA1:Stmt:=top 29
abbrev aA2:Stmt:=top 32
abbrev qW:Stmt:=top 41
abbrev wW:Stmt:=top 34
abbrev uX:Stmt:=top 35
abbrev wX:Stmt:=top 36
abbrev aCc:Stmt:=top 38
abbrev sY:Stmt:=top 42
abbrev qX:Stmt:=top 43
abbrev aA3:Stmt:=top 23
abbrev qY:Stmt:=top 24
abbrev aEu:Stmt:=top 37
abbrev aIn:Stmt:=top 39
abbrev aCd:Stmt:=top 40
abbrev aEv:Stmt:=top 48
abbrev lF:Stmt:=inCls (top 21) 2
abbrev qZ:Stmt:=inCls (top 21) 5
abbrev wY:Stmt:=top 50
abbrev uY:Stmt:=inCls (top 53) 1
abbrev sZ:Stmt:=inCls (top 54) 1
abbrev aCe:Stmt:=top 51
abbrev aIo:Stmt:=top 30
abbrev aCf:Stmt:=top 33
abbrev oR:Stmt:=top 44
abbrev wZ:Stmt:=top 45
abbrev mF:Stmt:=inCls (top 53) 2
abbrev xF:Stmt:=top 46
abbrev lG:Stmt:=inCls (top 54) 2
abbrev pQ:Stmt:=top 17
abbrev aIp:Stmt:=top 18
abbrev aA4:Stmt:=top 19
abbrev aA5:Stmt:=top 20
abbrev fH:Stmt:=inCls (top 21) 0
abbrev mQ:Stmt:=inCls (top 52) 0
abbrev aDp:Stmt:=top 65
theorem aDq:FnScope ["_law_script","_law_k","_law_rest"] ["_law_script","_law_k"] (aG zW):=⟨rfl,rfl,rfl,by decide+kernel,rfl,by decide+kernel,by decide+kernel⟩
theorem aDr:FnScope ["_law_cell_here","_law_k","_law_many","_law_number"] ["_law_cell_here","_law_k","_law_many"] (aG zX):=⟨rfl,rfl,rfl,by decide+kernel,rfl,by decide+kernel,by decide+kernel⟩
theorem aA6:FnScope ["_law_cell_here","_law_sizes","_law_found","_law_size"] ["_law_cell_here","_law_sizes"] (aG uV):=⟨rfl,rfl,rfl,by decide+kernel,rfl,by decide+kernel,by decide+kernel⟩
theorem xY:FnScope ["_law_script","_law_first","_law_sizes","_law_drawn","_law_many","_law_low","_law_cut","_law_steps","_law_ranks","_law_k","_law_cell_here","_law_found","_law_j","_law_goal"] ["_law_script"] (aG sX):=⟨rfl,rfl,rfl,by decide+kernel,rfl,by decide+kernel,by decide+kernel⟩
theorem aDs:FnScope ["_law_cell_here","_law_letters","_law_front","_law_ring","_law_k"] ["_law_cell_here","_law_letters"] (aG zY):=⟨rfl,rfl,rfl,by decide+kernel,rfl,by decide+kernel,by decide+kernel⟩
theorem aBk:FnScope ["_law_steps","_law_room","_law_word_here","_law_letter"] ["_law_steps","_law_room","_law_word_here"] (aG wR):=⟨rfl,rfl,rfl,by decide+kernel,rfl,by decide+kernel,by decide+kernel⟩
theorem aDt:FnScope ["_law_steps","_law_ranks","_law_word_here","_law_room","_law_best","_law_letter"] ["_law_steps","_law_ranks","_law_word_here"] (aG zZ):=⟨rfl,rfl,rfl,by decide+kernel,rfl,by decide+kernel,by decide+kernel⟩
theorem aIq:FnScope ["thing","many"] ["thing","many"] (aG aEs):=⟨rfl,rfl,rfl,by decide+kernel,rfl,by decide+kernel,by decide+kernel⟩
theorem aBl:FnScope ["thing","many"] ["thing","many"] (aG wU):=⟨rfl,rfl,rfl,by decide+kernel,rfl,by decide+kernel,by decide+kernel⟩
theorem aFi:FnScope ["thing"] ["thing"] (aG aC8):=⟨rfl,rfl,rfl,by decide+kernel,rfl,by decide+kernel,by decide+kernel⟩
theorem aFj:FnScope ["thing","limit"] ["thing","limit"] (aG aC9):=⟨rfl,rfl,rfl,by decide+kernel,rfl,by decide+kernel,by decide+kernel⟩
theorem oZ:FnScope ["self","thing"] ["self","thing"] (aG lE):=⟨rfl,rfl,rfl,by decide+kernel,rfl,by decide+kernel,by decide+kernel⟩
theorem oU:FnScope ["self","room","text","rooms","letter"] ["self","room","text"] (aG dI):=⟨rfl,rfl,rfl,by decide+kernel,rfl,by decide+kernel,by decide+kernel⟩
theorem xZ:FnScope ["self","word","room","rooms","begun","ahead"] ["self","word","room"] (aG jB):=⟨rfl,rfl,rfl,by decide+kernel,rfl,by decide+kernel,by decide+kernel⟩
theorem yC:FnScope ["self","word","room","ring","place"] ["self","word","room"] (aG jC):=⟨rfl,rfl,rfl,by decide+kernel,rfl,by decide+kernel,by decide+kernel⟩
theorem aA7:FnScope ["_law_machines","_law_steps","_law_front","_law_words","_law_sort","_law_room","_law_machine_here","_law_word_here"] ["_law_machines","_law_steps","_law_front","_law_words","_law_sort"] (aG uW):=⟨rfl,rfl,rfl,by decide+kernel,rfl,by decide+kernel,by decide+kernel⟩
theorem aDu:FnScope ["_law_machines","_law_steps","_law_ranks","_law_word_here","_law_words","_law_turned","_law_found","_law_long","_law_marks","_law_k","_law_mark"] ["_law_machines","_law_steps","_law_ranks","_law_word_here","_law_words","_law_turned"] (aG aA0):=⟨rfl,rfl,rfl,by decide+kernel,rfl,by decide+kernel,by decide+kernel⟩
theorem aFk:FnScope ["bits","room"] ["bits","room"] (aG aCa):=⟨rfl,rfl,rfl,by decide+kernel,rfl,by decide+kernel,by decide+kernel⟩
theorem aFl:FnScope ["bits","room"] ["bits"] (aG aCb):=⟨rfl,rfl,rfl,by decide+kernel,rfl,by decide+kernel,by decide+kernel⟩
theorem aIr:FnScope ["rooms","bits","room"] ["rooms"] (aG aEt):=⟨rfl,rfl,rfl,by decide+kernel,rfl,by decide+kernel,by decide+kernel⟩
theorem aBm:FnScope ["steps","allowed","rooms","seen","room","middle"] ["steps","allowed"] (aG wV):=⟨rfl,rfl,rfl,by decide+kernel,rfl,by decide+kernel,by decide+kernel⟩
theorem aDv:FnScope ["machine"] ["machine"] (aG aA1):=⟨rfl,rfl,rfl,by decide+kernel,rfl,by decide+kernel,by decide+kernel⟩
theorem aDw:FnScope ["machine","room"] ["machine","room"] (aG aA2):=⟨rfl,rfl,rfl,by decide+kernel,rfl,by decide+kernel,by decide+kernel⟩
theorem vU:FnScope ["machine","allowed","wanted","ranks","rank","room"] ["machine","allowed","wanted"] (aG qW):=⟨rfl,rfl,rfl,by decide+kernel,rfl,by decide+kernel,by decide+kernel⟩
theorem aBn:FnScope ["steps","part","rooms"] ["steps","part"] (aG wW):=⟨rfl,rfl,rfl,by decide+kernel,rfl,by decide+kernel,by decide+kernel⟩
theorem aA8:FnScope ["steps","allowed","seen","parts","room","part","other"] ["steps","allowed"] (aG uX):=⟨rfl,rfl,rfl,by decide+kernel,rfl,by decide+kernel,by decide+kernel⟩
theorem aBo:FnScope ["machine","allowed"] ["machine","allowed"] (aG wX):=⟨rfl,rfl,rfl,by decide+kernel,rfl,by decide+kernel,by decide+kernel⟩
theorem aFm:FnScope ["machine","bits","room"] ["machine","bits"] (aG aCc):=⟨rfl,rfl,rfl,by decide+kernel,rfl,by decide+kernel,by decide+kernel⟩
theorem yD:FnScope ["machine","allowed","rank","low","part","room"] ["machine","allowed","rank"] (aG sY):=⟨rfl,rfl,rfl,by decide+kernel,rfl,by decide+kernel,by decide+kernel⟩
theorem vV:FnScope ["machine","allowed","wanted","found","rank"] ["machine","allowed","wanted"] (aG qX):=⟨rfl,rfl,rfl,by decide+kernel,rfl,by decide+kernel,by decide+kernel⟩
theorem aDx:FnScope ["steps","start","allowed","ways","met","place","here","letter","room"] ["steps","start","allowed"] (aG aA3):=⟨rfl,rfl,rfl,by decide+kernel,rfl,by decide+kernel,by decide+kernel⟩
theorem vW:FnScope ["machine","ways"] ["machine"] (aG qY):=⟨rfl,rfl,rfl,by decide+kernel,rfl,by decide+kernel,by decide+kernel⟩
theorem aIs:FnScope ["machine","bits"] ["machine","bits"] (aG aEu):=⟨rfl,rfl,rfl,by decide+kernel,rfl,by decide+kernel,by decide+kernel⟩
theorem aKl:FnScope ["machine","allowed","room","goal"] ["machine","allowed","room","goal"] (aG aIn):=⟨rfl,rfl,rfl,by decide+kernel,rfl,by decide+kernel,by decide+kernel⟩
theorem aFn:FnScope ["machine","bits","room","text","here","goal"] ["machine","bits","room"] (aG aCd):=⟨rfl,rfl,rfl,by decide+kernel,rfl,by decide+kernel,by decide+kernel⟩
theorem aIt:FnScope ["machine","row","entries","room","front","entry","loop"] ["machine","row"] (aG aEv):=⟨rfl,rfl,rfl,by decide+kernel,rfl,by decide+kernel,by decide+kernel⟩
theorem pA:FnScope ["self","thing"] ["self","thing"] (aG lF):=⟨rfl,rfl,rfl,by decide+kernel,rfl,by decide+kernel,by decide+kernel⟩
theorem vX:FnScope ["self","room","text"] ["self","room","text"] (aG qZ):=⟨rfl,rfl,rfl,by decide+kernel,rfl,by decide+kernel,by decide+kernel⟩
theorem aBp:FnScope ["machine","good","reached","goals","loop","nest","start","goal","end","way"] ["machine","good"] (aG wY):=⟨rfl,rfl,rfl,by decide+kernel,rfl,by decide+kernel,by decide+kernel⟩
theorem aA9:FnScope ["self","machine"] ["self","machine"] (aG uY):=⟨rfl,rfl,rfl,by decide+kernel,rfl,by decide+kernel,by decide+kernel⟩
theorem yE:FnScope ["self","machine"] ["self","machine"] (aG sZ):=⟨rfl,rfl,rfl,by decide+kernel,rfl,by decide+kernel,by decide+kernel⟩
theorem aFo:FnScope ["machine","bits","inside","outside","room"] ["machine","bits","inside","outside"] (aG aCe):=⟨rfl,rfl,rfl,by decide+kernel,rfl,by decide+kernel,by decide+kernel⟩
theorem aKm:FnScope ["sets","bits","rooms"] ["sets"] (aG aIo):=⟨rfl,rfl,rfl,by decide+kernel,rfl,by decide+kernel,by decide+kernel⟩
theorem aFp:FnScope ["machine","goals","seen","room"] ["machine","goals"] (aG aCf):=⟨rfl,rfl,rfl,by decide+kernel,rfl,by decide+kernel,by decide+kernel⟩
theorem tD:FnScope ["machine","wanted","everywhere","goals"] ["machine","wanted"] (aG oR):=⟨rfl,rfl,rfl,by decide+kernel,rfl,by decide+kernel,by decide+kernel⟩
theorem aBq:FnScope ["machine"] ["machine"] (aG wZ):=⟨rfl,rfl,rfl,by decide+kernel,rfl,by decide+kernel,by decide+kernel⟩
theorem qN:FnScope ["self","machine"] ["self","machine"] (aG mF):=⟨rfl,rfl,rfl,by decide+kernel,rfl,by decide+kernel,by decide+kernel⟩
theorem aBr:FnScope ["machine"] ["machine"] (aG xF):=⟨rfl,rfl,rfl,by decide+kernel,rfl,by decide+kernel,by decide+kernel⟩
theorem pB:FnScope ["self","machine"] ["self","machine"] (aG lG):=⟨rfl,rfl,rfl,by decide+kernel,rfl,by decide+kernel,by decide+kernel⟩
theorem uC:FnScope ["thing","most"] ["thing","most"] (aG pQ):=⟨rfl,rfl,rfl,by decide+kernel,rfl,by decide+kernel,by decide+kernel⟩
theorem aKn:FnScope ["thing","letters","rooms","room"] ["thing","letters","rooms"] (aG aIp):=⟨rfl,rfl,rfl,by decide+kernel,rfl,by decide+kernel,by decide+kernel⟩
theorem aDy:FnScope ["thing","row"] ["thing"] (aG aA4):=⟨rfl,rfl,rfl,by decide+kernel,rfl,by decide+kernel,by decide+kernel⟩
theorem aDz:FnScope ["thing","rooms","rank"] ["thing","rooms"] (aG aA5):=⟨rfl,rfl,rfl,by decide+kernel,rfl,by decide+kernel,by decide+kernel⟩
theorem rD:FnScope ["self","steps","ranks","row"] ["self","steps","ranks"] (aG fH):=⟨rfl,rfl,rfl,by decide+kernel,rfl,by decide+kernel,by decide+kernel⟩
theorem aAa:FnScope ["self","machine"] ["self","machine"] (aG mQ):=⟨rfl,rfl,rfl,by decide+kernel,rfl,by decide+kernel,by decide+kernel⟩
theorem aZ4:FnScope ["_law_script","_law_machine_here","_law_kind","_law_machines","_law_words","_law_word_here","_law_steps","_law_ranks","_law_turned","_law_k","_law_rank"] ["_law_script"] (aG aDp):=⟨rfl,rfl,rfl,by decide+kernel,rfl,by decide+kernel,by decide+kernel⟩
section
variable{P:Program}{w:World}{K:Frag}{mg:Str->Option Value}{base:Heap}{fa:Addr}{fd:FuncData}{dV:Value}
variable(cW:mg "len"=none)
include cW in
theorem aOz(F:FunD K "_law_cell" "_law_cell" zW dV fa fd):FnOk P w K mg base CX0 1 fa fd ["_law_script","_law_k"] (spI K 2 gY):=by
 refine cQ (k:=0) F aDq 2 3 aF0 rfl rfl λcdv A outer s H E B hr=>?_
 have nd:=aDq.nd;refine aL ?_ ?_
 .exact nH (eN aVk aMb (toP (aA 1)) (toP (lW cW (toP (aA 0)))) (cG _)) (bB (bY (oY (toP (cM hr.units (toP (aA 0)) (toP (aA 1)))) (toP (bD6 (toP aN) (toP aN)))))) gO
 refine aL ?_ ?_
 .exact cC 2 aN nd
 refine aL ?_ ?_
 .exact nH (eN aVl aQ8 (toP (lW cW (toP (aA 0)))) (toP aN) (cG _)) (bB (cC 2 (oY (toP (cM hr.units (toP (aA 0)) (toP (oY (toP (aA 1)) (toP (lW cW (toP (aA 0)))))))) (toP aN)) nd)) gO
 exact bB (bY (oY (toP (zV (toP (gP (toP (gP (toP (zV (toP (aA 2)) (toP aN))) (toP (zV (toP aN) (toP (aA 1)))))) (toP aN))) (toP (gP (toP (aA 1)) (toP aN))))) (toP aN)))
theorem aP0(F:FunD K "_law_pick" "_law_pick" zX dV fa fd):FnOk P w K mg base CX0 1 fa fd ["_law_cell_here","_law_k","_law_many"] (spI K 3 eU):=by
 refine cQ (k:=0) F aDr 3 4 aF1 rfl rfl λcdv A outer s H E B hr=>?_
 have nd:=aDr.nd;refine aL ?_ ?_
 .exact cC 3 (oY (toP (gP (toP (aA 0)) (toP (zV (toP aN) (toP (aA 1)))))) (toP aN)) nd
 refine aL ?_ ?_
 .exact cC 3 (oY (toP (zV (toP (oY (toP (zV (toP (aA 3)) (toP (aA 3)))) (toP aN))) (toP aN))) (toP aN)) nd
 exact bB (bY (oY (toP (aQ7 (toP (oY (toP (zV (toP (aA 3)) (toP (aA 3)))) (toP aN))) (toP aN))) (toP (aA 2))))
theorem aJ7(F:FunD K "_law_digits" "_law_digits" uV dV fa fd):FnOk P w K mg base CX0 1 fa fd ["_law_cell_here","_law_sizes"] (spI K 2 iJ):=by
 refine cQ (k:=0) F aA6 2 4 aB3 rfl rfl λcdv A outer s H E B hr=>?_
 have nd:=aA6.nd;refine aL ?_ ?_
 .exact wM 2 (aFh aO) nd
 refine aL ?_ ?_
 .exact nW (mC (aA 1)) (cI 3 nd) (aL (by exact aIb 2 (oY (toP (aA 0)) (toP (aA 3)))) (by exact bB (cC 0 (aQ7 (toP (aA 0)) (toP (aA 3))) nd))) PassesOwn.never rfl
 exact bB (aQ9 [2] (bY (aA 2)))
variable(jF:DefOk P w K mg base "_law_cell" 1 2 gY)
variable(eY:DefOk P w K mg base "_law_pick" 1 3 eU)
variable(mR:DefOk P w K mg base "_law_digits" 1 2 iJ)
variable(cO:mg "range"=none)
variable(vY:mg "max"=none)
variable(aIu:mg "int"=none)
include jF eY mR cO vY aIu in
theorem aIv(F:FunD K "_law_machine" "_law_machine" sX dV fa fd):FnOk P w K mg base CX0 2 fa fd ["_law_script"] (spI K 1 jZ):=by
 refine cQ (k:=1) F xY 1 14 yU rfl rfl λcdv A outer s H E B hr=>?_
 have nd:=xY.nd;refine aL ?_ ?_
 .exact cC 1 (aK jF hr (by decide) (aD (aA 0) (aD aN aO))) nd
 refine aL ?_ ?_
 .exact cC 2 (aBg (aD aN (aD aN (aD aN (aD aN (aD aN aO)))))) nd
 refine aL ?_ ?_
 .exact aYi 3 [9] jW (.of rfl) (aBh cO (toP aN)) (λ_ _ _ _ _=>cI 9 nd) (λ_ _ _ _ _=>aK eY hr (by decide) (aD (aA 1) (aD (gP (toP aN) (toP (aA 9))) (aD (cM hr.units (toP (aA 2)) (toP (aA 9))) aO)))) rfl nd
 refine aL ?_ ?_
 .exact nH (eN (jT hr.units) jU (toP (oY (toP (aA 1)) (toP aN))) (toP aN) (cG _)) (bB (cC 3 (aK mR hr (by decide) (aD (aQ7 (toP (aA 1)) (toP aN)) (aD (aA 2) aO))) nd)) gO
 refine aL ?_ ?_
 .exact cC 4 (gP (toP aN) (toP (cM hr.units (toP (aA 3)) (toP aN)))) nd
 refine aL ?_ ?_
 .exact cC 5 (gP (toP (cM hr.units (toP (aBg (aD aN (aD aN (aD (bD6 (toP aN) (toP aN)) aO))))) (toP (cM hr.units (toP (aA 3)) (toP aN))))) (toP (cM hr.units (toP (aA 3)) (toP aN)))) nd
 refine aL ?_ ?_
 .exact cC 6 (oY (toP (cM hr.units (toP (aA 3)) (toP aN))) (toP (gP (toP (aA 4)) (toP aN)))) nd
 refine aL ?_ ?_
 .exact wM 7 (aFh aO) nd
 refine aL ?_ ?_
 .exact wM 8 (aFh aO) nd
 refine aL ?_ ?_
 .exact nW (aBh cO (toP (aA 4))) (cI 9 nd) (aL (by exact cC 10 (aK jF hr (by decide) (aD (aA 0) (aD (gP (toP aN) (toP (aA 9))) aO))) nd) (by exact aL (by exact cC 11 (aK mR hr (by decide) (aD (aA 10) (aD (gP (toP (bGf (aD (aA 4) aO) (toP (gP (toP aN) (toP (cM hr.units (toP (aA 3)) (toP aN))))))) (toP (aBg (aD aN aO)))) aO))) nd) (by exact aL (by exact nH (eN (jT hr.units) jU (toP (oY (toP (aA 1)) (toP aN))) (toP aN) (cG _)) (bB (cC 11 (gP (toP (oN [12] jW (.of rfl) (aBh cO (toP (gP (toP aN) (toP (cM hr.units (toP (aA 3)) (toP aN)))))) (λ_ _ _ _ _=>cI 12 nd) (λ_ _ _ _ _=>aK eY hr (by decide) (aD (aA 10) (aD (gP (toP aN) (toP (aA 12))) (aD (aA 4) aO)))) rfl)) (toP (aBg (aD (aK eY hr (by decide) (aD (aA 10) (aD aN (aD aN aO)))) aO)))) nd)) gO) (by exact aL (by exact nH (eN aMs aHy (toP (aA 9)) (toP (aA 6)) (cG _)) (bB (cC 11 (gP (toP (oN [13] jW (.of rfl) (mC (aUh (toP (aA 11)) aEm (zT (toP (xX (toP aN)))))) (λ_ _ _ _ _=>cI 13 nd) (λ_ _ _ _ _=>aYd vY rfl (toP (aA 6)) (toP (aA 13))) rfl)) (toP (aBg (aD (cM hr.units (toP (aA 11)) (toP (xX (toP aN)))) aO)))) nd)) gO) (by exact aL (by exact aIb 7 (aUh (toP (aA 11)) aEm (zT (toP (xX (toP aN)))))) (by exact bB (aIb 8 (gP (toP (gP (toP (aA 5)) (toP (zV (toP aN) (toP (cM hr.units (toP (aA 11)) (toP (xX (toP aN))))))))) (toP (bCk aIu (toP (iR aMs aHy (toP (aA 9)) (toP (aA 6)) (cG _))))))))))))) PassesOwn.never rfl
 exact bB (aQ9 [7,8] (bY (aKc (aD (aA 7) (aD (aA 8) (aD (oY (toP (aA 5)) (toP aN)) aO))))))
include eY cO in
theorem aP1(F:FunD K "_law_word" "_law_word" zY dV fa fd):FnOk P w K mg base CX0 2 fa fd ["_law_cell_here","_law_letters"] (spI K 2 nQ):=by
 refine cQ (k:=1) F aDs 2 5 aF2 rfl rfl λcdv A outer s H E B hr=>?_
 have nd:=aDs.nd;refine aL ?_ ?_
 .exact cC 2 (aYl (toP (aBe [])) (aD (oN [4] jW (.of rfl) (aBh cO (toP (aK eY hr (by decide) (aD (aA 0) (aD aN (aD aN aO)))))) (λ_ _ _ _ _=>cI 4 nd) (λ_ _ _ _ _=>cM hr.units (toP (aBe [97,98,99])) (toP (aK eY hr (by decide) (aD (aA 0) (aD (gP (toP aN) (toP (aA 4))) (aD (aA 1) aO)))))) rfl) aO)) nd
 refine aL ?_ ?_
 .exact cC 3 (aYl (toP (aBe [])) (aD (oN [4] jW (.of rfl) (aBh cO (toP (gP (toP aN) (toP (aK eY hr (by decide) (aD (aA 0) (aD aN (aD aN aO)))))))) (λ_ _ _ _ _=>cI 4 nd) (λ_ _ _ _ _=>cM hr.units (toP (aBe [97,98,99])) (toP (aK eY hr (by decide) (aD (aA 0) (aD (gP (toP aN) (toP (aA 4))) (aD (aA 1) aO)))))) rfl) aO)) nd
 exact bB (bY (aKc (aD (aA 2) (aD (aA 3) aO))))
theorem aMf(F:FunD K "_law_after" "_law_after" wR dV fa fd):FnOk P w K mg base CX0 1 fa fd ["_law_steps","_law_room","_law_word_here"] (spI K 3 jH):=by
 refine cQ (k:=0) F aBk 3 4 aCo rfl rfl λcdv A outer s H E B hr=>?_
 have nd:=aBk.nd;refine aL ?_ ?_
 .exact nW (mC (aA 2)) (cI 3 nd) (bB (cC 1 (cM hr.units (toP (cM hr.units (toP (aA 0)) (toP (aA 1)))) (toP (aSk (toP (aBe [97,98,99])) (aD (aA 3) aO)))) nd)) PassesOwn.never rfl
 exact bB (bY (aA 1))
variable(fK:DefOk P w K mg base "_law_after" 1 3 jH)
include cW vY fK in
theorem aP2(F:FunD K "_law_lets" "_law_lets" zZ dV fa fd):FnOk P w K mg base CX0 2 fa fd ["_law_steps","_law_ranks","_law_word_here"] (spI K 3 tR):=by
 refine cQ (k:=1) F aDt 3 6 aF3 rfl rfl λcdv A outer s H E B hr=>?_
 have nd:=aDt.nd;refine aL ?_ ?_
 .exact cC 3 (aK fK hr (by decide) (aD (aA 0) (aD aN (aD (gP (toP (cM hr.units (toP (aA 2)) (toP aN))) (toP (aY8 (toP (cM hr.units (toP (aA 2)) (toP aN))) (toP (lW cW (toP (aA 0))))))) aO)))) nd
 refine aL ?_ ?_
 .exact cC 4 aN nd
 refine aL ?_ ?_
 .exact nW (mC (aY8 (toP (cM hr.units (toP (aA 2)) (toP aN))) (toP (lW cW (toP (aA 0)))))) (cI 5 nd) (aL (by exact cC 3 (cM hr.units (toP (cM hr.units (toP (aA 0)) (toP (aA 3)))) (toP (aSk (toP (aBe [97,98,99])) (aD (aA 5) aO)))) nd) (by exact bB (cC 4 (aYd vY rfl (toP (aA 4)) (toP (cM hr.units (toP (aA 1)) (toP (aA 3))))) nd))) PassesOwn.never rfl
 exact bB (bY (iR (jT hr.units) jU (toP (oY (toP (aA 4)) (toP aN))) (toP aN) (cG _)))
variable(bR:mg "isinstance"=none)
variable(aT1:mg "str"=none)
variable{t_LETTERS:Tok}(g_LETTERS:mg "LETTERS"=some (.str "abc" t_LETTERS))
include bR aT1 g_LETTERS in
theorem aV3(F:FunD K "is_word" "is_word" aEs dV fa fd):FnOk P w K mg base CX0 1 fa fd ["thing","many"] (spI K 2 gQ):=by
 refine cQ (k:=0) F aIq 2 2 aAg rfl rfl λcdv A outer s H E B hr=>?_
 have nd:=aIq.nd;exact bB (bY (aBf (vQ ty_str bR aT1 (toP (aA 0))) (aC4 (iR (jT hr.units) jU (toP (bBs (toP (aA 0)) (aD (aUh (toP (aLv [97,98,99] g_LETTERS)) aEm (zT (toP (aA 1)))) aO))) (toP (aBe [])) (cG _)))))
variable(nY:DefOk P w K mg base "is_word" 1 2 gQ)
variable(aGi:mg "tuple"=none)
include cW bR nY aGi in
theorem aMg(F:FunD K "is_endless" "is_endless" wU dV fa fd):FnOk P w K mg base CX0 2 fa fd ["thing","many"] (spI K 2 jJ):=by
 refine cQ (k:=1) F aBl 2 2 wF rfl rfl λcdv A outer s H E B hr=>?_
 have nd:=aBl.nd;refine aL ?_ ?_
 .exact nH (PW.pt (aUe (sU (iY (vQ ty_tuple bR aGi (toP (aA 0))))) (aKb (eN (uT hr.units) uU (toP (lW cW (toP (aA 0)))) (toP aN) (cG _))))) (bB (bY aAz)) gO
 exact bB (bY (aBf (aK nY hr (by decide) (aD (cM hr.units (toP (aA 0)) (toP aN)) (aD (aA 1) aO))) (aBf (aK nY hr (by decide) (aD (cM hr.units (toP (aA 0)) (toP aN)) (aD (aA 1) aO))) (aC4 (iR (uT hr.units) uU (toP (cM hr.units (toP (aA 0)) (toP aN))) (toP (aBe [])) (cG _))))))
variable(aMh:mg "bool"=none)
include aIu bR aMh in
theorem aQn(F:FunD K "is_whole" "is_whole" aC8 dV fa fd):FnOk P w K mg base CX0 1 fa fd ["thing"] (spI K 1 pJ):=by
 refine cQ (k:=0) F aFi 1 1 aBt rfl rfl λcdv A outer s H E B hr=>?_
 have nd:=aFi.nd;exact bB (bY (aBf (vQ ty_int bR aIu (toP (aA 0))) (aC4 (bD8 (vQ ty_bool bR aMh (toP (aA 0)))))))
variable(nJ:DefOk P w K mg base "is_whole" 1 1 pJ)
include nJ in
theorem aQo(F:FunD K "is_below" "is_below" aC9 dV fa fd):FnOk P w K mg base CX0 2 fa fd ["thing","limit"] (spI K 2 nF):=by
 refine cQ (k:=1) F aFj 2 2 aBu rfl rfl λcdv A outer s H E B hr=>?_
 have nd:=aFj.nd;exact bB (bY (aBf (aK nJ hr (by decide) (aD (aA 0) aO)) (aBf (iR aMs aHy (toP (aA 0)) (toP aN) (cG _)) (aC4 (iR aVk aMb (toP (aA 0)) (toP (aA 1)) (cG _))))))
variable(nM:DefOk P w K mg base "is_below" 2 2 nF)
variable{A_Machine:Addr}(c_Machine:ClsAt K "Machine" A_Machine)
variable(bI:lX K A_Machine (Str.ofString "many"))
include nM c_Machine bI in
theorem aAb(F:FunD K "check_room" "Machine.check_room" lE dV fa fd):FnOk P w K mg base CX0 3 fa fd ["self","thing"] (spI K 2 bW):=by
 refine cQ (k:=2) F oZ 2 2 qJ rfl rfl λcdv A outer s H E B hr=>?_
 have nd:=oZ.nd;exact bB (nH (sU (iY (aK nM hr (by decide) (aD (aA 1) (aD (mO c_Machine bI (toP (aA 0))) aO))))) (bB rN) gO)
variable(aR:lX K A_Machine (Str.ofString "steps"))
include g_LETTERS c_Machine aR in
theorem yK(F:FunD K "rooms_along" "Machine.rooms_along" dI dV fa fd):FnOk P w K mg base CX0 1 fa fd ["self","room","text"] (spF K 3 bD):=by
 refine bK9 (k:=0) F oU 3 5 3 eF rfl rfl λcdv A outer s H E B hr=>?_
 have nd:=oU.nd;exact aSu (by exact wM 3 (aFh (aD (aA 1) aO)) nd) (by exact aSu (by exact nW (mC (aA 2)) (cI 4 nd) (aL (by exact cC 1 (cM hr.units (toP (cM hr.units (toP (mO c_Machine aR (toP (aA 0)))) (toP (aA 1)))) (toP (bFz (toP (aLv [97,98,99] g_LETTERS)) (aD (aA 4) aO)))) nd) (by exact bB (aIb 3 (aA 1)))) PassesOwn.never rfl) (by exact bG0))
variable(rO:DefOk P w K mg base "is_endless" 2 2 jJ)
variable(cP:MethOk P w K mg base "Machine" "check_room" 3 2 [] bW)
variable(bJ:MethOkF P w K mg base "Machine" "rooms_along" 1 3 [] bD)
variable(cJ:lX K A_Machine (Str.ofString "letters"))
include cW c_Machine rO cP bJ cJ in
theorem aIw(F:FunD K "walk" "Machine.walk" jB dV fa fd):FnOk P w K mg base CX0 4 fa fd ["self","word","room"] (spI K 3 kE):=by
 refine cQ (k:=3) F xZ 3 6 yW rfl rfl λcdv A outer s H E B hr=>?_
 have nd:=xZ.nd;refine aL ?_ ?_
 .exact aXu (iZ (pl:=_) cP hr (by decide) (aA 0) (aD (aA 2) aO))
 refine aL ?_ ?_
 .exact nH (sU (iY (aK rO hr (by decide) (aD (aA 1) (aD (mO c_Machine cJ (toP (aA 0))) aO))))) (bB rN) gO
 refine aL ?_ ?_
 .exact wM 3 (bG1 (pl:=_) bJ hr (by decide) (aA 0) (aD (aA 2) (aD (cM hr.units (toP (aA 1)) (toP aN)) aO))) nd
 refine aL ?_ ?_
 .exact aSm 4 nd
 refine aL ?_ ?_
 .exact aSh 100000 (eN (aAo hr.units) aAp (toP (cM hr.units (iQ 3) (toP (xX (toP aN))))) (iQ 4) rfl) (aL (by exact aM6 hr.units 4 (cM hr.units (iQ 3) (toP (xX (toP aN)))) (bIg (toP (lW cW (iQ 3))) (toP aN))) (by exact bB (bDd 3 (bK8 (toP (iZ (pl:=_) (MethOkF.plain bJ) hr (by decide) (aA 0) (aD (cM hr.units (iQ 3) (toP (xX (toP aN)))) (aD (cM hr.units (toP (aA 1)) (toP aN)) aO)))) (zT (toP aN)) aEm)))) PassesOwn.never
 refine aL ?_ ?_
 .exact cC 5 (cM hr.units (iQ 4) (toP (cM hr.units (iQ 3) (toP (xX (toP aN)))))) nd
 exact bB (bY (aKc (aD (aUh (iQ 3) aEm (zT (toP (aA 5)))) (aD (aUh (iQ 3) (zT (toP (aA 5))) (zT (toP (xX (toP aN))))) aO))))
variable(lQ:MethOk P w K mg base "Machine" "walk" 4 3 [] kE)
variable(bA:lX K A_Machine (Str.ofString "ranks"))
include vY c_Machine lQ bA in
theorem aIx(F:FunD K "lets" "Machine.lets" jC dV fa fd):FnOk P w K mg base CX0 5 fa fd ["self","word","room"] (spI K 3 bV):=by
 refine cQ (k:=4) F yC 3 5 yX rfl rfl λcdv A outer s H E B hr=>?_
 have nd:=yC.nd;refine aL ?_ ?_
 .exact cC 3 (cM hr.units (toP (iZ (pl:=_) lQ hr (by decide) (aA 0) (aD (aA 1) (aD (aA 2) aO)))) (toP aN)) nd
 exact bB (bY (iR (jT hr.units) jU (toP (oY (toP (bDe vY rfl (toP (oN [4] jW (.of rfl) (mC (aA 3)) (λ_ _ _ _ _=>cI 4 nd) (λ_ _ _ _ _=>cM hr.units (toP (mO c_Machine bA (toP (aA 0)))) (toP (aA 4))) rfl)))) (toP aN))) (toP aN) (cG _)))
variable(lR:MethOk P w K mg base "Machine" "lets" 5 3 [] bV)
variable(dY:MethOk P w K mg base "Machine" "lets" 5 3 [.int 0] bV)
include fK lR dY in
theorem aJ8(F:FunD K "_law_all_so" "_law_all_so" uW dV fa fd):FnOk P w K mg base CX0 6 fa fd ["_law_machines","_law_steps","_law_front","_law_words","_law_sort"] (spI K 5 pR):=by
 refine cQ (k:=5) F aA7 5 8 aB7 rfl rfl λcdv A outer s H E B hr=>?_
 have nd:=aA7.nd;refine aL ?_ ?_
 .exact cC 5 (aK fK hr (by decide) (aD (aA 1) (aD aN (aD (aA 2) aO)))) nd
 refine aL ?_ ?_
 .exact nW (mC (aA 0)) (cI 6 nd) (bB (nW (mC (aA 3)) (cI 7 nd) (bB (nH (PW.pt (aUe (eN (uT hr.units) uU (toP (iZ (pl:=_) lR hr (by decide) (aA 6) (aD (aA 7) (aD (aA 5) aO)))) (toP (aA 4)) (cG _)) (aKb (eN (uT hr.units) uU (toP (iZ (pl:=_) dY hr (by decide) (aA 6) (aD (aKc (aD (gP (toP (aA 2)) (toP (cM hr.units (toP (aA 7)) (toP aN)))) (aD (cM hr.units (toP (aA 7)) (toP aN)) aO))) aO))) (toP (aA 4)) (cG _))))) (bB (bY aAz)) gO)) PassesOwn.never rfl)) PassesOwn.never rfl
 exact bB (bY aAz)
variable(uD:DefOk P w K mg base "_law_lets" 2 3 tR)
variable(qD:DefOk P w K mg base "_law_all_so" 6 5 pR)
variable(tE:mg "sorted"=none)
include cW cO fK c_Machine bA dY uD qD tE in
theorem aP3(F:FunD K "_law_seen" "_law_seen" aA0 dV fa fd):FnOk P w K mg base CX0 7 fa fd ["_law_machines","_law_steps","_law_ranks","_law_word_here","_law_words","_law_turned"] (spI K 6 tU):=by
 refine cQ (k:=6) F aDu 6 11 aF4 rfl rfl λcdv A outer s H E B hr=>?_
 have nd:=aDu.nd;refine aL ?_ ?_
 .exact cC 6 (aK uD hr (by decide) (aD (aA 1) (aD (aA 2) (aD (aA 3) aO)))) nd
 refine aL ?_ ?_
 .exact nH (PW.pt (aUe (eN (uT hr.units) uU (toP (iZ (pl:=_) dY hr (by decide) (cM hr.units (toP (aA 0)) (toP aN)) (aD (aA 3) aO))) (toP (aA 6)) (cG _)) (aKb (eN (uT hr.units) uU (toP (iZ (pl:=_) dY hr (by decide) (cM hr.units (toP (aA 0)) (toP aN)) (aD (aA 3) aO))) (toP (aA 6)) (cG _))))) (bB (bY aAz)) gO
 refine aL ?_ ?_
 .exact cC 7 (gP (toP (cM hr.units (toP (aA 3)) (toP aN))) (toP (aY8 (toP (cM hr.units (toP (aA 3)) (toP aN))) (toP (lW cW (toP (aA 1))))))) nd
 refine aL ?_ ?_
 .exact wM 8 (aFh aO) nd
 refine aL ?_ ?_
 .exact nW (aBh cO (toP (gP (toP (lW cW (toP (aA 7)))) (toP aN)))) (cI 9 nd) (aL (by exact cC 10 (cM hr.units (toP (mO c_Machine bA (toP (cM hr.units (toP (aA 0)) (toP aN))))) (toP (aK fK hr (by decide) (aD (aA 1) (aD aN (aD (aUh (toP (aA 7)) aEm (zT (toP (aA 9)))) aO)))))) nd) (by exact bB (aIb 8 (oY (toP (gP (toP (aA 10)) (toP (aA 5)))) (toP aN))))) PassesOwn.never rfl
 refine aL ?_ ?_
 .exact aQ9 [8] (nH (PW.pt (aUe (eN (uT hr.units) uU (toP (bGh tE (iQ 8))) (iQ 8) (cG _)) (aKb (eN (uT hr.units) uU (toP (iR (jT hr.units) jU (toP (cM hr.units (iQ 8) (toP (xX (toP aN))))) (toP aN) (cG _))) (toP (iR (jT hr.units) jU (toP (aA 6)) (toP (iR (jT hr.units) jU (toP (aA 5)) (toP aN) (cG _))) (cG _))) (cG _))))) (bB (bY aAz)) gO)
 exact bB (bY (bIi (iR (jT hr.units) jU (toP (cM hr.units (iQ 8) (toP (xX (toP aN))))) (toP aN) (cG _)) (bD7 (aK qD hr (by decide) (aD (aA 0) (aD (aA 1) (aD (aA 7) (aD (aA 4) (aD (iR (jT hr.units) jU (toP (aA 5)) (toP aN) (cG _)) aO)))))))))
theorem aQp(F:FunD K "has_room" "has_room" aCa dV fa fd):FnOk P w K mg base CX0 1 fa fd ["bits","room"] (spI K 2 fU):=by
 refine cQ (k:=0) F aFk 2 2 aBv rfl rfl λcdv A outer s H E B hr=>?_
 have nd:=aFk.nd;exact bB (bY (iR (jT hr.units) jU (toP (aQh (toP (bIu (toP (aA 0)) (toP (aA 1)))) (toP aN))) (toP aN) (cG _)))
variable(cF:DefOk P w K mg base "has_room" 1 2 fU)
include cO cF in
theorem aQq(F:FunD K "rooms_of" "rooms_of" aCb dV fa fd):FnOk P w K mg base CX0 2 fa fd ["bits"] (spI K 1 cA):=by
 refine cQ (k:=1) F aFl 1 2 aBw rfl rfl λcdv A outer s H E B hr=>?_
 have nd:=aFl.nd;exact bB (bY (vP [1] jW (.of rfl) (aBh cO (toP (bG5 (toP (aA 0))))) (λ_ _ _ _ _=>cI 1 nd) (λ_ _ _ _ _=>iY (aK cF hr (by decide) (aD (aA 0) (aD (aA 1) aO)))) (λ_ _ _ _ _=>aA 1) rfl))
theorem aV4(F:FunD K "bits_of" "bits_of" aEt dV fa fd):FnOk P w K mg base CX0 1 fa fd ["rooms"] (spI K 1 jR):=by
 refine cQ (k:=0) F aIr 1 3 aEa rfl rfl λcdv A outer s H E B hr=>?_
 have nd:=aIr.nd;refine aL ?_ ?_
 .exact cC 1 aN nd
 refine aL ?_ ?_
 .exact nW (mC (aA 0)) (cI 2 nd) (bB (cC 1 (aSv (toP (aA 1)) (toP (bDf (toP aN) (toP (aA 2))))) nd)) PassesOwn.never rfl
 exact bB (bY (aA 1))
variable(bL:DefOk P w K mg base "rooms_of" 2 1 cA)
variable(eQ:DefOk P w K mg base "bits_of" 1 1 jR)
include cF bL eQ in
theorem aMi(F:FunD K "seen_among" "seen_among" wV dV fa fd):FnOk P w K mg base CX0 3 fa fd ["steps","allowed"] (spI K 2 jK):=by
 refine cQ (k:=2) F aBm 2 6 aCp rfl rfl λcdv A outer s H E B hr=>?_
 have nd:=aBm.nd;refine aL ?_ ?_
 .exact cC 2 (aK bL hr (by decide) (aD (aA 1) aO)) nd
 refine aL ?_ ?_
 .exact aSm 3 nd
 refine aL ?_ ?_
 .exact nW (mC (aA 2)) (cI 4 nd) (bB (aM6 hr.units 3 (aA 4) (aQh (toP (aSv (toP (aK eQ hr (by decide) (aD (cM hr.units (toP (aA 0)) (toP (aA 4))) aO))) (toP (bDf (toP aN) (toP (aA 4)))))) (toP (aA 1))))) PassesOwn.never rfl
 refine aL ?_ ?_
 .exact nW (mC (aA 2)) (cI 5 nd) (bB (nW (mC (aA 2)) (cI 4 nd) (bB (nH (iY (aK cF hr (by decide) (aD (cM hr.units (iQ 3) (toP (aA 4))) (aD (aA 5) aO)))) (bB (aM6 hr.units 3 (aA 4) (aSv (toP (cM hr.units (iQ 3) (toP (aA 4)))) (toP (cM hr.units (iQ 3) (toP (aA 5))))))) gO)) PassesOwn.never rfl)) PassesOwn.never rfl
 exact bB (aQ9 [3] (bY (aA 3)))
variable(jV:mg "list"=none)
include cO c_Machine bI eQ jV in
theorem aP4(F:FunD K "all_rooms" "all_rooms" aA1 dV fa fd):FnOk P w K mg base CX0 2 fa fd ["machine"] (spI K 1 kI):=by
 refine cQ (k:=1) F aDv 1 1 aF5 rfl rfl λcdv A outer s H E B hr=>?_
 have nd:=aDv.nd;exact bB (bY (aK eQ hr (by decide) (aD (aOo jV cO rfl (toP (mO c_Machine bI (toP (aA 0))))) aO)))
variable(fL:DefOk P w K mg base "seen_among" 3 2 jK)
variable(gB:DefOk P w K mg base "all_rooms" 2 1 kI)
include c_Machine aR fL gB in
theorem aP5(F:FunD K "seen_from" "seen_from" aA2 dV fa fd):FnOk P w K mg base CX0 4 fa fd ["machine","room"] (spI K 2 nU):=by
 refine cQ (k:=3) F aDw 2 2 aF6 rfl rfl λcdv A outer s H E B hr=>?_
 have nd:=aDw.nd;exact bB (bY (cM hr.units (toP (aK fL hr (by decide) (aD (mO c_Machine aR (toP (aA 0))) (aD (aK gB hr (by decide) (aD (aA 0) aO)) aO)))) (toP (aA 1))))
variable(aT2:mg "set"=none)
include c_Machine bA tE bL aT2 in
theorem aFx(F:FunD K "ranks_of_sort" "ranks_of_sort" qW dV fa fd):FnOk P w K mg base CX0 3 fa fd ["machine","allowed","wanted"] (spI K 3 mU):=by
 refine cQ (k:=2) F vU 3 6 xR rfl rfl λcdv A outer s H E B hr=>?_
 have nd:=vU.nd;refine aL ?_ ?_
 .exact cC 3 (aYy tE aT2 rfl (toP (oN [5] jW (.of rfl) (mC (aK bL hr (by decide) (aD (aA 1) aO))) (λ_ _ _ _ _=>cI 5 nd) (λ_ _ _ _ _=>cM hr.units (toP (mO c_Machine bA (toP (aA 0)))) (toP (aA 5))) rfl))) nd
 exact bB (bY (vP [4] jW (.of rfl) (mC (aA 3)) (λ_ _ _ _ _=>cI 4 nd) (λ_ _ _ _ _=>eN (jT hr.units) jU (toP (iR (jT hr.units) jU (toP (oY (toP (aA 4)) (toP aN))) (toP aN) (cG _))) (toP (aA 2)) (cG _)) (λ_ _ _ _ _=>aA 4) rfl))
include cW bL in
theorem aMj(F:FunD K "goes_round" "goes_round" wW dV fa fd):FnOk P w K mg base CX0 3 fa fd ["steps","part"] (spI K 2 rG):=by
 refine cQ (k:=2) F aBn 2 3 aCs rfl rfl λcdv A outer s H E B hr=>?_
 have nd:=aBn.nd;refine aL ?_ ?_
 .exact cC 2 (aK bL hr (by decide) (aD (aA 1) aO)) nd
 exact bB (bY (bIi (iR aVl aQ8 (toP (lW cW (toP (aA 2)))) (toP aN) (cG _)) (bD7 (iR (aYe hr.units) aYf (toP (cM hr.units (toP (aA 2)) (toP aN))) (toP (cM hr.units (toP (aA 0)) (toP (cM hr.units (toP (aA 2)) (toP aN))))) rfl))))
variable(rP:DefOk P w K mg base "goes_round" 3 2 rG)
include cF bL eQ fL rP in
theorem aJ9(F:FunD K "parts_among" "parts_among" uX dV fa fd):FnOk P w K mg base CX0 4 fa fd ["steps","allowed"] (spI K 2 pU):=by
 refine cQ (k:=3) F aA8 2 7 aB9 rfl rfl λcdv A outer s H E B hr=>?_
 have nd:=aA8.nd;refine aL ?_ ?_
 .exact cC 2 (aK fL hr (by decide) (aD (aA 0) (aD (aA 1) aO))) nd
 refine aL ?_ ?_
 .exact wM 3 (aFh aO) nd
 refine aL ?_ ?_
 .exact nW (mC (aK bL hr (by decide) (aD (aA 1) aO))) (cI 4 nd) (aL (by exact cC 5 (aK eQ hr (by decide) (aD (vP [6] jW (.of rfl) (mC (aK bL hr (by decide) (aD (cM hr.units (toP (aA 2)) (toP (aA 4))) aO))) (λ_ _ _ _ _=>cI 6 nd) (λ_ _ _ _ _=>iY (aK cF hr (by decide) (aD (cM hr.units (toP (aA 2)) (toP (aA 6))) (aD (aA 4) aO)))) (λ_ _ _ _ _=>aA 6) rfl) aO)) nd) (by exact bB (nH (PW.pt (bD9 (eN (aAo hr.units) aAp (toP (aA 5)) (iQ 3) rfl) (aXs (iY (aK rP hr (by decide) (aD (aA 0) (aD (aA 5) aO))))))) (bB (aIb 3 (aA 5))) gO))) PassesOwn.never rfl
 exact bB (aQ9 [3] (bY (aA 3)))
variable(qF:DefOk P w K mg base "parts_among" 4 2 pU)
include c_Machine aR qF in
theorem aMk(F:FunD K "loop_parts" "loop_parts" wX dV fa fd):FnOk P w K mg base CX0 5 fa fd ["machine","allowed"] (spI K 2 gZ):=by
 refine cQ (k:=4) F aBo 2 2 aCt rfl rfl λcdv A outer s H E B hr=>?_
 have nd:=aBo.nd;exact bB (bY (aK qF hr (by decide) (aD (mO c_Machine aR (toP (aA 0))) (aD (aA 1) aO))))
include vY c_Machine bA bL in
theorem aQr(F:FunD K "top_rank" "top_rank" aCc dV fa fd):FnOk P w K mg base CX0 3 fa fd ["machine","bits"] (spI K 2 wI):=by
 refine cQ (k:=2) F aFm 2 3 aBx rfl rfl λcdv A outer s H E B hr=>?_
 have nd:=aFm.nd;refine aL ?_ ?_
 .exact nH (eN (jT hr.units) jU (toP (aA 1)) (toP aN) (cG _)) (bB rN) gO
 exact bB (bY (bDe vY rfl (toP (oN [2] jW (.of rfl) (mC (aK bL hr (by decide) (aD (aA 1) aO))) (λ_ _ _ _ _=>cI 2 nd) (λ_ _ _ _ _=>cM hr.units (toP (mO c_Machine bA (toP (aA 0)))) (toP (aA 2))) rfl))))
variable(jO:DefOk P w K mg base "loop_parts" 5 2 gZ)
variable(xG:DefOk P w K mg base "top_rank" 3 2 wI)
include c_Machine bA bL eQ jO xG in
theorem aIy(F:FunD K "parts_topped" "parts_topped" sY dV fa fd):FnOk P w K mg base CX0 6 fa fd ["machine","allowed","rank"] (spF K 3 kJ):=by
 refine bIv (k:=5) F yD 3 6 mV (dF [4] (tgN 4) (itE (aW gZ (aC (aB 0) (aC (aB 3) aU)))) lM lL) rfl rfl λcdv A outer s H E B hr=>?_
 have nd:=yD.nd;exact aSw (by exact cC 3 (aK eQ hr (by decide) (aD (vP [5] jW (.of rfl) (mC (aK bL hr (by decide) (aD (aA 1) aO))) (λ_ _ _ _ _=>cI 5 nd) (λ_ _ _ _ _=>eN aQw aLx (toP (cM hr.units (toP (mO c_Machine bA (toP (aA 0)))) (toP (aA 5)))) (toP (aA 2)) (cG _)) (λ_ _ _ _ _=>aA 5) rfl) aO)) nd) (by exact aYt (aYz [4] jW (.of rfl) (mC (aK jO hr (by decide) (aD (aA 0) (aD (aA 3) aO)))) (λ_ _ _ _ _=>cI 4 nd) (λ_ _ _ _ _=>eN (jT hr.units) jU (toP (aK xG hr (by decide) (aD (aA 0) (aD (aA 4) aO)))) (toP (aA 2)) (cG _)) (λ_ _ _ _ _=>aA 4) rfl))
variable(mY:DefOk P w K mg base "ranks_of_sort" 3 3 mU)
variable(oV:DefOkF P w K mg base "parts_topped" 6 3 kJ)
include mY oV in
theorem aFy(F:FunD K "loops_of_sort" "loops_of_sort" qX dV fa fd):FnOk P w K mg base CX0 7 fa fd ["machine","allowed","wanted"] (spI K 3 eV):=by
 refine cQ (k:=6) F vV 3 5 xV rfl rfl λcdv A outer s H E B hr=>?_
 have nd:=vV.nd;refine aL ?_ ?_
 .exact wM 3 (aFh aO) nd
 refine aL ?_ ?_
 .exact nW (mC (aK mY hr (by decide) (aD (aA 0) (aD (aA 1) (aD (aA 2) aO))))) (cI 4 nd) (bB (bDd 3 (bC4 oV hr (by decide) (aD (aA 0) (aD (aA 1) (aD (aA 4) aO)))))) PassesOwn.never rfl
 exact bB (aQ9 [3] (bY (aA 3)))
variable(aT3:mg "zip"=none)
include cW g_LETTERS aT3 in
theorem aP6(F:FunD K "ways_from" "ways_from" aA3 dV fa fd):FnOk P w K mg base CX0 1 fa fd ["steps","start","allowed"] (spI K 3 kO):=by
 refine cQ (k:=0) F aDx 3 9 zB rfl rfl λcdv A outer s H E B hr=>?_
 have nd:=aDx.nd;refine aL ?_ ?_
 .exact bC0 3 (aA 1) (aBe []) nd
 refine aL ?_ ?_
 .exact wM 4 (aFh (aD (aA 1) aO)) nd
 refine aL ?_ ?_
 .exact cC 5 aN nd
 refine aL ?_ ?_
 .exact aSh 100000 (eN aVk aMb (toP (aA 5)) (toP (lW cW (iQ 4))) (cG _)) (aL (by exact cC 6 (cM hr.units (iQ 4) (toP (aA 5))) nd) (by exact aL (by exact nW (bG3 aT3 (aLv [97,98,99] g_LETTERS) (cM hr.units (toP (aA 0)) (toP (aA 6)))) (bDa rfl (aDk 7 (aDk 8 aXv nd) nd)) (bB (nH (PW.pt (bD9 (eN (aYe hr.units) aYf (toP (aA 8)) (toP (aA 2)) rfl) (aXs (eN (aAo hr.units) aAp (toP (aA 8)) (iQ 3) rfl)))) (aL (by exact aM6 hr.units 3 (aA 8) (gP (toP (cM hr.units (iQ 3) (toP (aA 6)))) (toP (aA 7)))) (by exact bB (aIb 4 (aA 8)))) gO)) PassesOwn.never rfl) (by exact bB (cC 5 (gP (toP (aA 5)) (toP aN)) nd)))) PassesOwn.never
 exact bB (aQ9 [3] (bY (aA 3)))
variable(lH:DefOk P w K mg base "ways_from" 1 3 kO)
include cO c_Machine bI aR jV lH in
theorem aFz(F:FunD K "rooms_reached" "rooms_reached" qY dV fa fd):FnOk P w K mg base CX0 2 fa fd ["machine"] (spF K 1 mW):=by
 refine bIv (k:=1) F vW 1 2 lN (e1 aGy (aB 1)) rfl rfl λcdv A outer s H E B hr=>?_
 have nd:=vW.nd;exact aSw (by exact cC 1 (aK lH hr (by decide) (aD (mO c_Machine aR (toP (aA 0))) (aD aN (aD (aOo jV cO rfl (toP (mO c_Machine bI (toP (aA 0))))) aO)))) nd) (by exact aYt (bC3 jV rfl (aA 1)))
include jO in
theorem aV5(F:FunD K "is_loop" "is_loop" aEu dV fa fd):FnOk P w K mg base CX0 6 fa fd ["machine","bits"] (spI K 2 vD):=by
 refine cQ (k:=5) F aIs 2 2 aEd rfl rfl λcdv A outer s H E B hr=>?_
 have nd:=aIs.nd;exact bB (bY (iR (jT hr.units) jU (toP (aK jO hr (by decide) (aD (aA 0) (aD (aA 1) aO)))) (toP (aBg (aD (aA 1) aO))) (cG _)))
include c_Machine aR cF bL lH in
theorem aZ5(F:FunD K "way_in" "way_in" aIn dV fa fd):FnOk P w K mg base CX0 3 fa fd ["machine","allowed","room","goal"] (spI K 4 oF):=by
 refine cQ (k:=2) F aKl 4 4 aNb rfl rfl λcdv A outer s H E B hr=>?_
 have nd:=aKl.nd;refine aL ?_ ?_
 .exact nH (sU (iY (aK cF hr (by decide) (aD (aA 1) (aD (aA 2) aO))))) (bB (bY aO2)) gO
 exact bB (bY (bGe hr.units (toP (aK lH hr (by decide) (aD (mO c_Machine aR (toP (aA 0))) (aD (aA 2) (aD (aK bL hr (by decide) (aD (aA 1) aO)) aO))))) (aA 3)))
variable(aAt:DefOk P w K mg base "is_loop" 6 2 vD)
variable(qO:DefOk P w K mg base "way_in" 3 4 oF)
include g_LETTERS c_Machine aR bJ cF bL aAt qO in
theorem aQs(F:FunD K "round_in" "round_in" aCd dV fa fd):FnOk P w K mg base CX0 7 fa fd ["machine","bits","room"] (spI K 3 sH):=by
 refine cQ (k:=6) F aFn 3 6 aH1 rfl rfl λcdv A outer s H E B hr=>?_
 have nd:=aFn.nd;refine aL ?_ ?_
 .exact nH (sU (iY (aK aAt hr (by decide) (aD (aA 0) (aD (aA 1) aO))))) (bB rN) gO
 refine aL ?_ ?_
 .exact nH (sU (iY (aK cF hr (by decide) (aD (aA 1) (aD (aA 2) aO))))) (bB rN) gO
 refine aL ?_ ?_
 .exact nH (eN (jT hr.units) jU (toP (aK bL hr (by decide) (aD (aA 1) aO))) (toP (aBg (aD (aA 2) aO))) (cG _)) (bB (bY (cM hr.units (toP (aLv [97,98,99] g_LETTERS)) (toP (aYp (toP (cM hr.units (toP (mO c_Machine aR (toP (aA 0)))) (toP (aA 2)))) (aD (aA 2) aO)))))) gO
 refine aL ?_ ?_
 .exact cC 3 (aBe []) nd
 refine aL ?_ ?_
 .exact cC 4 (aA 2) nd
 refine aL ?_ ?_
 .exact nW (mC (aK bL hr (by decide) (aD (aA 1) aO))) (cI 5 nd) (bB (nH (eN (aAo hr.units) aAp (toP (aA 5)) (toP (iZ (pl:=_) (MethOkF.plain bJ) hr (by decide) (aA 0) (aD (aA 2) (aD (aA 3) aO)))) rfl) (aL (by exact cC 3 (gP (toP (aA 3)) (toP (aK qO hr (by decide) (aD (aA 0) (aD (aA 1) (aD (aA 4) (aD (aA 5) aO))))))) nd) (by exact bB (cC 4 (aA 5) nd))) gO)) PassesOwn.never rfl
 exact bB (bY (gP (toP (aA 3)) (toP (aK qO hr (by decide) (aD (aA 0) (aD (aA 1) (aD (aA 4) (aD (aA 2) aO))))))))
variable(mZ:DefOkF P w K mg base "rooms_reached" 2 1 mW)
variable(nO:DefOk P w K mg base "round_in" 7 3 sH)
include cF mZ nO in
theorem aV6(F:FunD K "nest_of" "nest_of" aEv dV fa fd):FnOk P w K mg base CX0 8 fa fd ["machine","row"] (spI K 2 vG):=by
 refine cQ (k:=7) F aIt 2 7 aJm rfl rfl λcdv A outer s H E B hr=>?_
 have nd:=aIt.nd;refine aL ?_ ?_
 .exact aYj 2 [5] jW (.of rfl) (mC (aK (DefOkF.plain mZ) hr (by decide) (aD (aA 0) aO))) (λ_ _ _ _ _=>cI 5 nd) (λ_ _ _ _ _=>iY (aK cF hr (by decide) (aD (cM hr.units (toP (aA 1)) (toP aN)) (aD (cM hr.units (toP (aA 5)) (toP aN)) aO)))) (λ_ _ _ _ _=>aA 5) rfl nd
 refine aL ?_ ?_
 .exact cC 3 (cM hr.units (toP (cM hr.units (toP (aA 2)) (toP aN))) (toP aN)) nd
 refine aL ?_ ?_
 .exact cC 4 (cM hr.units (toP (cM hr.units (toP (aA 2)) (toP aN))) (toP aN)) nd
 exact bB (bY (aKc (aD (aA 4) (aD (oN [6] jW (.of rfl) (mC (aA 1)) (λ_ _ _ _ _=>cI 6 nd) (λ_ _ _ _ _=>aK nO hr (by decide) (aD (aA 0) (aD (aA 6) (aD (aA 3) aO)))) rfl) aO))))
include nY c_Machine cJ in
theorem aAc(F:FunD K "check_word" "Machine.check_word" lF dV fa fd):FnOk P w K mg base CX0 2 fa fd ["self","thing"] (spI K 2 dW):=by
 refine cQ (k:=1) F pA 2 2 qK rfl rfl λcdv A outer s H E B hr=>?_
 have nd:=pA.nd;exact bB (nH (sU (iY (aK nY hr (by decide) (aD (aA 1) (aD (mO c_Machine cJ (toP (aA 0))) aO))))) (bB rN) gO)
variable(fY:MethOk P w K mg base "Machine" "check_word" 2 2 [] dW)
include cP bJ fY in
theorem aG0(F:FunD K "after" "Machine.after" qZ dV fa fd):FnOk P w K mg base CX0 4 fa fd ["self","room","text"] (spI K 3 jQ):=by
 refine cQ (k:=3) F vX 3 3 xW rfl rfl λcdv A outer s H E B hr=>?_
 have nd:=vX.nd;refine aL ?_ ?_
 .exact aXu (iZ (pl:=_) cP hr (by decide) (aA 0) (aD (aA 1) aO))
 refine aL ?_ ?_
 .exact aXu (iZ (pl:=_) fY hr (by decide) (aA 0) (aD (aA 2) aO))
 exact bB (bY (cM hr.units (toP (iZ (pl:=_) (MethOkF.plain bJ) hr (by decide) (aA 0) (aD (aA 1) (aD (aA 2) aO)))) (toP (xX (toP aN)))))
variable(uE:DefOk P w K mg base "seen_from" 4 2 nU)
variable(eZ:DefOk P w K mg base "loops_of_sort" 7 3 eV)
variable(aAu:DefOk P w K mg base "nest_of" 8 2 vG)
variable(jX:MethOk P w K mg base "Machine" "after" 4 3 [] jQ)
include bL qO nO uE eZ aAu jX in
theorem aMl(F:FunD K "bar_behind" "bar_behind" wY dV fa fd):FnOk P w K mg base CX0 9 fa fd ["machine","good"] (spI K 2 jL):=by
 refine cQ (k:=8) F aBp 2 10 aCv rfl rfl λcdv A outer s H E B hr=>?_
 have nd:=aBp.nd;refine aL ?_ ?_
 .exact cC 2 (aK uE hr (by decide) (aD (aA 0) (aD aN aO))) nd
 refine aL ?_ ?_
 .exact cC 3 (aK eZ hr (by decide) (aD (aA 0) (aD (aA 2) (aD (aA 1) aO)))) nd
 refine aL ?_ ?_
 .exact nW (mC (aK eZ hr (by decide) (aD (aA 0) (aD (aA 2) (aD (bD8 (aA 1)) aO))))) (cI 4 nd) (aL (by exact cC 5 (aK aAu hr (by decide) (aD (aA 0) (aD (aBg (aD (aA 4) aO)) aO))) nd) (by exact aL (by exact cC 6 (iZ (pl:=_) jX hr (by decide) (aA 0) (aD aN (aD (cM hr.units (toP (aA 5)) (toP aN)) aO))) nd) (by exact bB (nW (mC (aA 3)) (cI 7 nd) (aL (by exact cC 8 (cM hr.units (toP (aK bL hr (by decide) (aD (aA 7) aO))) (toP aN)) nd) (by exact aL (by exact cC 9 (aK qO hr (by decide) (aD (aA 0) (aD (aA 2) (aD (aA 6) (aD (aA 8) aO))))) nd) (by exact bB (nH (eN aEp aEq (toP (aA 9)) (toP aO2) (cG _)) (bB (bY (aKc (aD (cM hr.units (toP (aA 5)) (toP aN)) (aD (cM hr.units (toP (cM hr.units (toP (aA 5)) (toP aN))) (toP aN)) (aD (aA 9) (aD (aK nO hr (by decide) (aD (aA 0) (aD (aA 7) (aD (aA 8) aO)))) aO))))))) gO)))) PassesOwn.never rfl)))) PassesOwn.never rfl
 exact bB (bY aO2)
variable(jP:DefOk P w K mg base "bar_behind" 9 2 jL)
include jP in
theorem aJa(F:FunD K "bar" "EarlyNo.bar" uY dV fa fd):FnOk P w K mg base CX0 10 fa fd ["self","machine"] (spI K 2 mJ):=by
 refine cQ (k:=9) F aA9 2 2 aBb rfl rfl λcdv A outer s H E B hr=>?_
 have nd:=aA9.nd;exact bB (bY (aK jP hr (by decide) (aD (aA 1) (aD aAz aO))))
include jP in
theorem aIz(F:FunD K "bar" "EarlyYes.bar" sZ dV fa fd):FnOk P w K mg base CX0 10 fa fd ["self","machine"] (spI K 2 kW):=by
 refine cQ (k:=9) F yE 2 2 zE rfl rfl λcdv A outer s H E B hr=>?_
 have nd:=yE.nd;exact bB (bY (aK jP hr (by decide) (aD (aA 1) (aD aAz aO))))
include cO c_Machine bI cF in
theorem aQt(F:FunD K "ranks_by" "ranks_by" aCe dV fa fd):FnOk P w K mg base CX0 2 fa fd ["machine","bits","inside","outside"] (spI K 4 sI):=by
 refine cQ (k:=1) F aFo 4 5 aH2 rfl rfl λcdv A outer s H E B hr=>?_
 have nd:=aFo.nd;exact bB (bY (oN [4] jW (.of rfl) (aBh cO (toP (mO c_Machine bI (toP (aA 0))))) (λ_ _ _ _ _=>cI 4 nd) (λ_ _ _ _ _=>bIj (iY (aK cF hr (by decide) (aD (aA 1) (aD (aA 4) aO)))) (aA 2) (aA 3)) rfl))
theorem aZ6(F:FunD K "joined" "joined" aIo dV fa fd):FnOk P w K mg base CX0 1 fa fd ["sets"] (spI K 1 aCx):=by
 refine cQ (k:=0) F aKm 1 3 aNc rfl rfl λcdv A outer s H E B hr=>?_
 have nd:=aKm.nd;refine aL ?_ ?_
 .exact cC 1 aN nd
 refine aL ?_ ?_
 .exact nW (mC (aA 0)) (cI 2 nd) (bB (cC 1 (aSv (toP (aA 1)) (toP (aA 2))) nd)) PassesOwn.never rfl
 exact bB (bY (aA 1))
include cO c_Machine bI aR eQ fL gB in
theorem aQu(F:FunD K "reaching" "reaching" aCf dV fa fd):FnOk P w K mg base CX0 4 fa fd ["machine","goals"] (spI K 2 wJ):=by
 refine cQ (k:=3) F aFp 2 4 aH4 rfl rfl λcdv A outer s H E B hr=>?_
 have nd:=aFp.nd;refine aL ?_ ?_
 .exact cC 2 (aK fL hr (by decide) (aD (mO c_Machine aR (toP (aA 0))) (aD (aK gB hr (by decide) (aD (aA 0) aO)) aO))) nd
 exact bB (bY (aK eQ hr (by decide) (aD (vP [3] jW (.of rfl) (aBh cO (toP (mO c_Machine bI (toP (aA 0))))) (λ_ _ _ _ _=>cI 3 nd) (λ_ _ _ _ _=>eN (uT hr.units) uU (toP (aQh (toP (cM hr.units (toP (aA 2)) (toP (aA 3)))) (toP (aA 1)))) (toP aN) (cG _)) (λ_ _ _ _ _=>aA 3) rfl) aO)))
variable(aE0:DefOk P w K mg base "joined" 1 1 aCx)
variable(xH:DefOk P w K mg base "reaching" 4 2 wJ)
include gB eZ aE0 xH in
theorem aE1(F:FunD K "never_coming_to" "never_coming_to" oR dV fa fd):FnOk P w K mg base CX0 8 fa fd ["machine","wanted"] (spI K 2 fP):=by
 refine cQ (k:=7) F tD 2 4 tW rfl rfl λcdv A outer s H E B hr=>?_
 have nd:=tD.nd;refine aL ?_ ?_
 .exact cC 2 (aK gB hr (by decide) (aD (aA 0) aO)) nd
 refine aL ?_ ?_
 .exact cC 3 (aK aE0 hr (by decide) (aD (aK eZ hr (by decide) (aD (aA 0) (aD (aA 2) (aD (aA 1) aO)))) aO)) nd
 exact bB (bY (bGg (toP (aA 2)) (toP (aK xH hr (by decide) (aD (aA 0) (aD (aA 3) aO))))))
variable(eO:DefOk P w K mg base "never_coming_to" 8 2 fP)
include eO in
theorem aMm(F:FunD K "dead_rooms" "dead_rooms" wZ dV fa fd):FnOk P w K mg base CX0 9 fa fd ["machine"] (spI K 1 rJ):=by
 refine cQ (k:=8) F aBq 1 1 aCy rfl rfl λcdv A outer s H E B hr=>?_
 have nd:=aBq.nd;exact bB (bY (aK eO hr (by decide) (aD (aA 0) (aD aAz aO))))
variable(nP:DefOk P w K mg base "ranks_by" 2 4 sI)
variable(rQ:DefOk P w K mg base "dead_rooms" 9 1 rJ)
include nP rQ in
theorem aB1(F:FunD K "ranks_for" "EarlyNo.ranks_for" mF dV fa fd):FnOk P w K mg base CX0 10 fa fd ["self","machine"] (spI K 2 iT):=by
 refine cQ (k:=9) F qN 2 2 rB rfl rfl λcdv A outer s H E B hr=>?_
 have nd:=qN.nd;exact bB (bY (aK nP hr (by decide) (aD (aA 1) (aD (aK rQ hr (by decide) (aD (aA 1) aO)) (aD aN (aD aN aO))))))
include eO in
theorem aMn(F:FunD K "sure_rooms" "sure_rooms" xF dV fa fd):FnOk P w K mg base CX0 9 fa fd ["machine"] (spI K 1 rK):=by
 refine cQ (k:=8) F aBr 1 1 aCz rfl rfl λcdv A outer s H E B hr=>?_
 have nd:=aBr.nd;exact bB (bY (aK eO hr (by decide) (aD (aA 0) (aD aAz aO))))
variable(rR:DefOk P w K mg base "sure_rooms" 9 1 rK)
include nP rR in
theorem aAd(F:FunD K "ranks_for" "EarlyYes.ranks_for" lG dV fa fd):FnOk P w K mg base CX0 10 fa fd ["self","machine"] (spI K 2 iB):=by
 refine cQ (k:=9) F pB 2 2 qL rfl rfl λcdv A outer s H E B hr=>?_
 have nd:=pB.nd;exact bB (bY (aK nP hr (by decide) (aD (aA 1) (aD (aK rR hr (by decide) (aD (aA 1) aO)) (aD aN (aD aN aO))))))
include cW bR jV in
theorem aEw(F:FunD K "is_filled_list" "is_filled_list" pQ dV fa fd):FnOk P w K mg base CX0 1 fa fd ["thing","most"] (spI K 2 fG):=by
 refine cQ (k:=0) F uC 2 2 pM rfl rfl λcdv A outer s H E B hr=>?_
 have nd:=uC.nd;exact bB (bY (aBf (vQ ty_list bR jV (toP (aA 0))) (aBf (iR aMs aHy (toP (lW cW (toP (aA 0)))) (toP aN) (cG _)) (aC4 (iR aQw aLx (toP (lW cW (toP (aA 0)))) (toP (aA 1)) (cG _))))))
variable(aAe:mg "all"=none)
include cW nM aAe in
theorem aZ7(F:FunD K "is_row" "is_row" aIp dV fa fd):FnOk P w K mg base CX0 3 fa fd ["thing","letters","rooms"] (spI K 3 aD0):=by
 refine cQ (k:=2) F aKn 3 4 aH5 rfl rfl λcdv A outer s H E B hr=>?_
 have nd:=aKn.nd;exact bB (bY (aBf (iR (jT hr.units) jU (toP (lW cW (toP (aA 0)))) (toP (aA 1)) (cG _)) (aC4 (aSp aAe rfl (toP (oN [3] jW (.of rfl) (mC (aA 0)) (λ_ _ _ _ _=>cI 3 nd) (λ_ _ _ _ _=>aK nM hr (by decide) (aD (aA 3) (aD (aA 2) aO))) rfl))))))
variable(jD:DefOk P w K mg base "is_filled_list" 1 2 fG)
variable(aE2:DefOk P w K mg base "is_row" 3 3 aD0)
variable{t_MOST_ROOMS:Tok}(g_MOST_ROOMS:mg "MOST_ROOMS"=some (.int 8 t_MOST_ROOMS))
variable{t_MOST_LETTERS:Tok}(g_MOST_LETTERS:mg "MOST_LETTERS"=some (.int 3 t_MOST_LETTERS))
include cW aAe jD aE2 g_MOST_ROOMS g_MOST_LETTERS in
theorem aP7(F:FunD K "are_steps" "are_steps" aA4 dV fa fd):FnOk P w K mg base CX0 4 fa fd ["thing"] (spI K 1 tX):=by
 refine cQ (k:=3) F aDy 1 2 zF rfl rfl λcdv A outer s H E B hr=>?_
 have nd:=aDy.nd;refine aL ?_ ?_
 .exact nH (sU (iY (aK jD hr (by decide) (aD (aA 0) (aD (aXq g_MOST_ROOMS) aO))))) (bB (bY aAz)) gO
 refine aL ?_ ?_
 .exact nH (sU (iY (aSp aAe rfl (toP (oN [1] jW (.of rfl) (mC (aA 0)) (λ_ _ _ _ _=>cI 1 nd) (λ_ _ _ _ _=>aK jD hr (by decide) (aD (aA 1) (aD (aXq g_MOST_LETTERS) aO))) rfl))))) (bB (bY aAz)) gO
 exact bB (bY (aSp aAe rfl (toP (oN [1] jW (.of rfl) (mC (aA 0)) (λ_ _ _ _ _=>cI 1 nd) (λ_ _ _ _ _=>aK aE2 hr (by decide) (aD (aA 1) (aD (lW cW (toP (cM hr.units (toP (aA 0)) (toP aN)))) (aD (lW cW (toP (aA 0))) aO)))) rfl))))
include cW bR nJ jV aAe in
theorem aP8(F:FunD K "are_ranks" "are_ranks" aA5 dV fa fd):FnOk P w K mg base CX0 2 fa fd ["thing","rooms"] (spI K 2 tY):=by
 refine cQ (k:=1) F aDz 2 3 zG rfl rfl λcdv A outer s H E B hr=>?_
 have nd:=aDz.nd;refine aL ?_ ?_
 .exact nH (PW.pt (aUe (sU (iY (vQ ty_list bR jV (toP (aA 0))))) (aKb (eN (uT hr.units) uU (toP (lW cW (toP (aA 0)))) (toP (aA 1)) (cG _))))) (bB (bY aAz)) gO
 exact bB (bY (aSp aAe rfl (toP (oN [2] jW (.of rfl) (mC (aA 0)) (λ_ _ _ _ _=>cI 2 nd) (λ_ _ _ _ _=>aBf (aK nJ hr (by decide) (aD (aA 2) aO)) (aC4 (iR aMs aHy (toP (aA 2)) (toP aN) (cG _)))) rfl))))
variable(uF:DefOk P w K mg base "are_steps" 4 1 tX)
variable(uG:DefOk P w K mg base "are_ranks" 2 2 tY)
include cW c_Machine bI aR cJ bA jV uF uG in
theorem aCg(F:Fun K "__init__" "Machine.__init__" fH fa fd):FnOk P w K mg base CX0 5 fa fd ["self","steps","ranks"] (spM K "Machine" 2 gM):=by
 refine bBu (k:=4) F rD "Machine" 2 4 gK rfl rfl λcdv A outer s H E B hr=>?_
 have nd:=rD.nd;refine aL ?_ ?_
 .exact nH (sU (iY (aK uF hr (by decide) (aD (aA 1) aO)))) (bB rN) gO
 refine aL ?_ ?_
 .exact nH (sU (iY (aK uG hr (by decide) (aD (aA 2) (aD (lW cW (toP (aA 1))) aO))))) (bB rN) gO
 refine aL ?_ ?_
 .exact aM7 0 c_Machine aR (oN [3] jW (.of rfl) (mC (aA 1)) (λ_ _ _ _ _=>cI 3 nd) (λ_ _ _ _ _=>aYk jV (toP (aA 3))) rfl)
 refine aL ?_ ?_
 .exact aM7 0 c_Machine bA (aYk jV (toP (aA 2)))
 refine aL ?_ ?_
 .exact aM7 0 c_Machine bI (lW cW (toP (aA 1)))
 exact bB (aM7 0 c_Machine cJ (lW cW (toP (cM hr.units (toP (aA 1)) (toP aN)))))
variable(dR:MethOk P w K mg base "EarlyNo" "bar" 10 2 [] mJ)
variable(cZ:MethOk P w K mg base "EarlyYes" "bar" 10 2 [] kW)
variable(dJ:MethOk P w K mg base "EarlyNo" "ranks_for" 10 2 [] iT)
variable(dB:MethOk P w K mg base "EarlyYes" "ranks_for" 10 2 [] iB)
variable(lU:MakeOk P w K mg base "Machine" 5 2 gM)
include c_Machine aR dR cZ dJ dB lU in
theorem uZ(F:FunD K "marked" "Kind.marked" mQ dV fa fd):FnOk P w K mg base CX0 11 fa fd ["self","machine"] (spI K 2 fJ):=by
 refine cQ (k:=10) F aAa 2 2 aBc rfl rfl λcdv A outer s H E B hr=>?_
 have nd:=aAa.nd;refine aL ?_ ?_
 .exact nH (eN aEp aEq (toP (aOy (iZ (pl:=_) dR hr (by decide) (aA 0) (aD (aA 1) aO)) (iZ (pl:=_) cZ hr (by decide) (aA 0) (aD (aA 1) aO)))) (toP aO2) (cG _)) (bB rN) gO
 exact bB (bY (aYg lU hr (by decide) (aD (mO c_Machine aR (toP (aA 1))) (aD (aOy (iZ (pl:=_) dJ hr (by decide) (aA 0) (aD (aA 1) aO)) (iZ (pl:=_) dB hr (by decide) (aA 0) (aD (aA 1) aO))) aO))))
variable(oW:DefOk P w K mg base "_law_machine" 2 1 jZ)
variable(uH:DefOk P w K mg base "_law_word" 2 2 nQ)
variable(uI:DefOk P w K mg base "_law_seen" 7 6 tU)
variable(rA:MethOk P w K mg base "Kind" "marked" 11 2 [] fJ)
variable(fM:MethOk P w K mg base "EarlyNo" "marked" 11 2 [] fJ)
variable(fC:MethOk P w K mg base "EarlyYes" "marked" 11 2 [] fJ)
variable{A_EarlyNo:Addr}(c_EarlyNo:ClsAt K "EarlyNo" A_EarlyNo)
variable{A_EarlyYes:Addr}(c_EarlyYes:ClsAt K "EarlyYes" A_EarlyYes)
variable{A_Kind:Addr}(c_Kind:ClsAt K "Kind" A_Kind)
variable(xJ:mg (Str.ofString "EarlyNo")=some (.ref A_EarlyNo))
variable(uJ:mg (Str.ofString "EarlyYes")=some (.ref A_EarlyYes))
variable(aE3:mg (Str.ofString "Kind")=some (.ref A_Kind))
variable(xK:Mk0 K A_EarlyYes)
variable(aAv:Mk0 K A_EarlyNo)
variable(gC:kitOne K (.ref A_EarlyYes) (.ref A_Kind)=some true)
variable(gW:kitOne K (.ref A_EarlyNo) (.ref A_Kind)=some true)
variable(aMo:IsC K A_Kind)
variable(uK:IsC K A_EarlyYes)
variable(xM:IsC K A_EarlyNo)
include cW jF cO bR c_Machine bA dR cZ lU oW uH uI rA fM fC c_EarlyNo c_EarlyYes c_Kind xJ uJ aE3 xK aAv gC gW aMo uK xM in
theorem bIw(F:FunD K "law" "law" aDp dV fa fd):FnOk P w K mg base CX0 12 fa fd ["_law_script"] (spI K 1 aJn):=by
 refine cQ (k:=11) F aZ4 1 11 bCx rfl rfl λcdv A outer s H E B hr=>?_
 have nd:=aZ4.nd;refine aL ?_ ?_
 .exact bIl (aK oW hr (by decide) (aD (aA 0) aO)) (bDa rfl (aDk 6 (aDk 7 (aDk 8 aXv nd) nd) nd))
 refine aL ?_ ?_
 .exact cC 1 (aYg lU hr (by decide) (aD (aA 6) (aD (aA 7) aO))) nd
 refine aL ?_ ?_
 .exact cC 2 (cM hr.units (toP (aBg (aD (aZ1 aAv c_EarlyNo xJ) (aD (aZ1 xK c_EarlyYes uJ) aO)))) (toP (aA 8))) nd
 refine aL ?_ ?_
 .exact nH (PW.pt (aUe (sU (iY (aOy (aZ2 bR c_EarlyNo aE3 xM gW (toP (aA 2))) (aZ2 bR c_EarlyYes aE3 uK gC (toP (aA 2)))))) (aKb (eN aEp aEq (toP (aOy (iZ (pl:=_) dR hr (by decide) (aA 2) (aD (aA 1) aO)) (iZ (pl:=_) cZ hr (by decide) (aA 2) (aD (aA 1) aO)))) (toP aO2) (cG _))))) (bB (bY aAz)) gO
 refine aL ?_ ?_
 .exact cC 3 (aBg (aD (aA 1) (aD (aOy (iZ (pl:=_) fM hr (by decide) (aA 2) (aD (aA 1) aO)) (iZ (pl:=_) fC hr (by decide) (aA 2) (aD (aA 1) aO))) aO))) nd
 refine aL ?_ ?_
 .exact nH (eN aVl aQ8 (toP (lW cW (toP (vP [10] jW (.of rfl) (mC (mO c_Machine bA (toP (cM hr.units (toP (aA 3)) (toP aN))))) (λ_ _ _ _ _=>cI 10 nd) (λ_ _ _ _ _=>sU (bCl aQw aLx aQw aLx (toP aN) (toP (aA 10)) (toP aN))) (λ_ _ _ _ _=>aA 10) rfl)))) (toP aN) (cG _)) (bB (bY aAz)) gO
 refine aL ?_ ?_
 .exact aYi 4 [9] jW (.of rfl) (aBh cO (toP aN)) (λ_ _ _ _ _=>cI 9 nd) (λ_ _ _ _ _=>aK uH hr (by decide) (aD (aK jF hr (by decide) (aD (aA 0) (aD (gP (toP aN) (toP (aA 9))) aO))) (aD (lW cW (toP (cM hr.units (toP (aA 6)) (toP aN)))) aO))) rfl nd
 refine aL ?_ ?_
 .exact nW (mC (aA 4)) (cI 5 nd) (bB (nH (sU (iY (aK uI hr (by decide) (aD (aA 3) (aD (aA 6) (aD (aA 7) (aD (aA 5) (aD (aA 4) (aD (aA 8) aO))))))))) (bB (bY aAz)) gO)) PassesOwn.never rfl
 exact bB (bY aAz)
end
theorem all_mk {l : OpenLaw}  {K : Frag}    (X : K.In h) (G : h.Ns mainGlobals mg) (hfa : mg "law" = some (.ref fa))
        {f13:Addr} {od13 an13:Option Addr} {sl13:Array (Option Value)} {oc13 kV13 dc13 pm13 cd13 ct13:Value} {f14:Addr} {od14 an14:Option Addr} {sl14:Array (Option Value)} {oc14 kV14 dc14 pm14 cd14 ct14:Value} {T14:Addr} {toc14:Value} {tod14:Option Addr} {tsl14:Array (Option Value)} {tn14:Nat} {tk14_0:Tok} {f15:Addr} {od15 an15:Option Addr} {sl15:Array (Option Value)} {oc15 kV15 dc15 pm15 cd15 ct15:Value} {T15:Addr} {toc15:Value} {tod15:Option Addr} {tsl15:Array (Option Value)} {tn15:Nat} {tk15_0:Tok} {f54:Addr} {od54 an54:Option Addr} {sl54:Array (Option Value)} {oc54 kV54 dc54 pm54 cd54 ct54:Value} {f56:Addr} {od56 an56:Option Addr} {sl56:Array (Option Value)} {oc56 kV56 dc56 pm56 cd56 ct56:Value}
  (c_EarlyNo:ClsAt K "EarlyNo" A_EarlyNo)
  (xM:IsC K A_EarlyNo)
  (aAv:Mk0 K A_EarlyNo)
  (c_EarlyYes:ClsAt K "EarlyYes" A_EarlyYes)
  (uK:IsC K A_EarlyYes)
  (xK:Mk0 K A_EarlyYes)
  (c_Kind:ClsAt K "Kind" A_Kind)
  (aMo:IsC K A_Kind)
  (c_Machine:ClsAt K "Machine" A_Machine)
  (x5_Machine:makesIn K A_Machine=true)
  (x6_Machine:keepIn K (.ref A_Machine)=true)
  (gW:kitOne K (.ref A_EarlyNo) (.ref A_Kind)=some true)
  (gC:kitOne K (.ref A_EarlyYes) (.ref A_Kind)=some true)
  (w_Machine_letters:findIn K (.ref A_Machine) (Str.ofString "letters")=some none)
  (w_Machine_many:findIn K (.ref A_Machine) (Str.ofString "many")=some none)
  (w_Machine_ranks:findIn K (.ref A_Machine) (Str.ofString "ranks")=some none)
  (w_Machine_steps:findIn K (.ref A_Machine) (Str.ofString "steps")=some none)
  (D1:DA K "_law_cell" zW)
  (D2:DA K "_law_pick" zX)
  (D3:DA K "_law_digits" uV)
  (D4:DA K "_law_machine" sX)
  (D5:DA K "_law_word" zY)
  (D6:DA K "_law_after" wR)
  (D7:DA K "_law_lets" zZ)
  (D8:DA K "is_word" aEs)
  (D9:DA K "is_endless" wU)
  (D10:DA K "is_whole" aC8)
  (D11:DA K "is_below" aC9)
  (M12:MA K A_Machine "check_room" "check_room" "Machine.check_room" lE)
  (a13:findIn K (.ref A_Machine) (Str.ofString "rooms_along")=some (some (.ref f13)))
  (e13:isFn K (.ref f13)=true)
  (l13:K.lookup f13=some ⟨oc13,od13,.func (fnOf "rooms_along" "Machine.rooms_along" (fX dI) (dO dI) (aG dI) .none kV13 dc13 pm13 an13 cd13 ct13),sl13⟩)
  (c13:codeIn K cd13 "Machine.rooms_along"=true)
  (k13:keepIn K (.ref f13)=true)
  (a14:findIn K (.ref A_Machine) (Str.ofString "walk")=some (some (.ref f14)))
  (e14:isFn K (.ref f14)=true)
  (l14:K.lookup f14=some ⟨oc14,od14,.func (fnOf "walk" "Machine.walk" (fX jB) (dO jB) (aG jB) (.ref T14) kV14 dc14 pm14 an14 cd14 ct14),sl14⟩)
  (t14:K.lookup T14=some ⟨toc14,tod14,.seq #[.int 0 tk14_0] tn14,tsl14⟩)
  (c14:codeIn K cd14 "Machine.walk"=true)
  (k14:keepIn K (.ref f14)=true)
  (a15:findIn K (.ref A_Machine) (Str.ofString "lets")=some (some (.ref f15)))
  (e15:isFn K (.ref f15)=true)
  (l15:K.lookup f15=some ⟨oc15,od15,.func (fnOf "lets" "Machine.lets" (fX jC) (dO jC) (aG jC) (.ref T15) kV15 dc15 pm15 an15 cd15 ct15),sl15⟩)
  (t15:K.lookup T15=some ⟨toc15,tod15,.seq #[.int 0 tk15_0] tn15,tsl15⟩)
  (c15:codeIn K cd15 "Machine.lets"=true)
  (k15:keepIn K (.ref f15)=true)
  (D16:DA K "_law_all_so" uW)
  (D17:DA K "_law_seen" aA0)
  (D18:DA K "has_room" aCa)
  (D19:DA K "rooms_of" aCb)
  (D20:DA K "bits_of" aEt)
  (D21:DA K "seen_among" wV)
  (D22:DA K "all_rooms" aA1)
  (D23:DA K "seen_from" aA2)
  (D24:DA K "ranks_of_sort" qW)
  (D25:DA K "goes_round" wW)
  (D26:DA K "parts_among" uX)
  (D27:DA K "loop_parts" wX)
  (D28:DA K "top_rank" aCc)
  (D29:DA K "parts_topped" sY)
  (D30:DA K "loops_of_sort" qX)
  (D31:DA K "ways_from" aA3)
  (D32:DA K "rooms_reached" qY)
  (D33:DA K "is_loop" aEu)
  (D34:DA K "way_in" aIn)
  (D35:DA K "round_in" aCd)
  (D36:DA K "nest_of" aEv)
  (M37:MA K A_Machine "check_word" "check_word" "Machine.check_word" lF)
  (M38:MA K A_Machine "after" "after" "Machine.after" qZ)
  (D39:DA K "bar_behind" wY)
  (M40:MA K A_EarlyNo "bar" "bar" "EarlyNo.bar" uY)
  (M41:MA K A_EarlyYes "bar" "bar" "EarlyYes.bar" sZ)
  (D42:DA K "ranks_by" aCe)
  (D43:DA K "joined" aIo)
  (D44:DA K "reaching" aCf)
  (D45:DA K "never_coming_to" oR)
  (D46:DA K "dead_rooms" wZ)
  (M47:MA K A_EarlyNo "ranks_for" "ranks_for" "EarlyNo.ranks_for" mF)
  (D48:DA K "sure_rooms" xF)
  (M49:MA K A_EarlyYes "ranks_for" "ranks_for" "EarlyYes.ranks_for" lG)
  (D50:DA K "is_filled_list" pQ)
  (D51:DA K "is_row" aIp)
  (D52:DA K "are_steps" aA4)
  (D53:DA K "are_ranks" aA5)
  (a54:findIn K (.ref A_Machine) (Str.ofString "__init__")=some (some (.ref f54)))
  (e54:isFn K (.ref f54)=true)
  (l54:K.lookup f54=some ⟨oc54,od54,.func (fnOf "__init__" "Machine.__init__" (fX fH) (dO fH) (aG fH) .none kV54 dc54 pm54 an54 cd54 ct54),sl54⟩)
  (c54:codeIn K cd54 "Machine.__init__"=true)
  (k54:keepIn K (.ref f54)=true)
  (M55:MA K A_Kind "marked" "marked" "Kind.marked" mQ)
  (a56:nsIn K mainGlobals "law"=some (some (.ref f56)))
  (l56:K.lookup f56=some ⟨oc56,od56,.func (fnOf "law" "law" (fX aDp) (dO aDp) (aG aDp) .none kV56 dc56 pm56 an56 cd56 ct56),sl56⟩)
  (c56:codeIn K cd56 "law"=true)
  (k56:keepIn K (.ref f56)=true)
  (MI0:MA K A_EarlyNo "marked" "marked" "Kind.marked" mQ)
  (MI1:MA K A_EarlyYes "marked" "marked" "Kind.marked" mQ)
  (v_LETTERS:nsIn K mainGlobals "LETTERS"=some (some (.str "abc" t_LETTERS)))
  (v_MOST_LETTERS:nsIn K mainGlobals "MOST_LETTERS"=some (some (.int 3 t_MOST_LETTERS)))
  (v_MOST_ROOMS:nsIn K mainGlobals "MOST_ROOMS"=some (some (.int 8 t_MOST_ROOMS)))
  (z_all:nsIn K mainGlobals "all"=some none)
  (z_bool:nsIn K mainGlobals "bool"=some none)
  (z_int:nsIn K mainGlobals "int"=some none)
  (z_isinstance:nsIn K mainGlobals "isinstance"=some none)
  (z_len:nsIn K mainGlobals "len"=some none)
  (z_list:nsIn K mainGlobals "list"=some none)
  (z_max:nsIn K mainGlobals "max"=some none)
  (z_range:nsIn K mainGlobals "range"=some none)
  (z_set:nsIn K mainGlobals "set"=some none)
  (z_sorted:nsIn K mainGlobals "sorted"=some none)
  (z_str:nsIn K mainGlobals "str"=some none)
  (z_tuple:nsIn K mainGlobals "tuple"=some none)
  (z_zip:nsIn K mainGlobals "zip"=some none) :
  ∃fd:FuncData,(∀(s:Shared)(v:Value),BindsTo s fd ⟨[v],[]⟩ [("_law_script",v)])/\∀base:Heap,K.In base->base.Ns mainGlobals mg->FnOk l.prog w K mg base CX0 12 fa fd ["_law_script"] (spI K 1 aJn):=by
 have e:=hfa.symm.trans (mg_of X G a56);cases e;have xJ:=mg_of X G c_EarlyNo.ns;have uJ:=mg_of X G c_EarlyYes.ns;have aE3:=mg_of X G c_Kind.ns;have cJ:lX K A_Machine (Str.ofString "letters"):=w_Machine_letters;have bI:lX K A_Machine (Str.ofString "many"):=w_Machine_many;have bA:lX K A_Machine (Str.ofString "ranks"):=w_Machine_ranks;have aR:lX K A_Machine (Str.ofString "steps"):=w_Machine_steps;have F13:=aAq (st:=dI) l13 c13 k13;have b13:=F13.binds0 (ps:=["self","room","text"]) λ_ _ _ _ _ _=>aAs (λ_ _ _=>rfl)
 have F14:=aAq (st:=jB) l14 c14 k14;have b14_0:Binds K _ ["self","word","room"] []:=F14.binds (m:=3) t14 rfl rfl λ_ _ _ _ _ _=>aAs (λ_ _ _=>⟨_,rfl,rfl⟩)
 have F15:=aAq (st:=jC) l15 c15 k15;have b15_0:Binds K _ ["self","word","room"] []:=F15.binds (m:=3) t15 rfl rfl λ_ _ _ _ _ _=>aAs (λ_ _ _=>⟨_,rfl,rfl⟩)
 have b15_1:Binds K _ ["self","word","room"] [.int 0 tk15_0]:=F15.binds (m:=2) t15 rfl rfl λ_ _ _ _ _ _=>aM9 (λ_ _=>⟨_,rfl,rfl⟩)
 have F54:=bEb (st:=fH) l54 c54 k54;have b54:=F54.binds (ps:=["self","steps","ranks"]) λ_ _ _ _ _ _=>aAs (λ_ _ _=>rfl)
 have F56:=aAq (st:=aDp) l56 c56 k56;have b56:=F56.binds0 (ps:=["_law_script"]) λ_ _ _ _ _ _=>aM8 (λ_=>rfl)
 have aAe:=mg_none_of X G z_all;have aMh:=mg_none_of X G z_bool;have aIu:=mg_none_of X G z_int;have bR:=mg_none_of X G z_isinstance;have cW:=mg_none_of X G z_len;have jV:=mg_none_of X G z_list;have vY:=mg_none_of X G z_max;have cO:=mg_none_of X G z_range;have aT2:=mg_none_of X G z_set;have tE:=mg_none_of X G z_sorted;have aT1:=mg_none_of X G z_str;have aGi:=mg_none_of X G z_tuple;have aT3:=mg_none_of X G z_zip;have g_LETTERS:=mg_of X G v_LETTERS;have g_MOST_LETTERS:=mg_of X G v_MOST_LETTERS;have g_MOST_ROOMS:=mg_of X G v_MOST_ROOMS;refine⟨fnOf "law" "law" (fX aDp) (dO aDp) (aG aDp) .none kV56 dc56 pm56 an56 cd56 ct56,λs v=>.of_eq rfl,λbase _ _=>?_⟩
 have C:Ct l.prog w K mg base h:=⟨X,G⟩;have jF:=D1.ok C (aOz cW);have eY:=D2.ok C aP0;have mR:=D3.ok C aJ7;have oW:=D4.ok C (aIv jF eY mR cO vY aIu);have uH:=D5.ok C (aP1 eY cO);have fK:=D6.ok C aMf;have uD:=D7.ok C (aP2 cW vY fK);have nY:=D8.ok C (aV3 bR aT1 g_LETTERS);have rO:=D9.ok C (aMg cW bR nY aGi);have nJ:=D10.ok C (aQn aIu bR aMh);have nM:=D11.ok C (aQo nJ);have cP:=M12.ok C c_Machine (aAb nM c_Machine bI);have f_Machine_rooms_along:=yK (P:=l.prog) (w:=w) (mg:=mg) (base:=base) g_LETTERS c_Machine aR F13;have bJ:MethOkF l.prog w K mg base "Machine" "rooms_along" 1 3 [] bD:=MethOkF.of (dvs:=[]) c_Machine ⟨a13,e13,k13⟩ f_Machine_rooms_along b13 (.nil) λ_=>.nil
 have f_Machine_walk:=aIw (P:=l.prog) (w:=w) (mg:=mg) (base:=base) cW c_Machine rO cP bJ cJ F14;have lQ:MethOk l.prog w K mg base "Machine" "walk" 4 3 [] kE:=MethOk.of (dvs:=[]) c_Machine ⟨a14,e14,k14⟩ f_Machine_walk b14_0 (.nil) λ_=>.nil
 have f_Machine_lets:=aIx (P:=l.prog) (w:=w) (mg:=mg) (base:=base) vY c_Machine lQ bA F15;have lR:MethOk l.prog w K mg base "Machine" "lets" 5 3 [] bV:=MethOk.of (dvs:=[]) c_Machine ⟨a15,e15,k15⟩ f_Machine_lets b15_0 (.nil) λ_=>.nil
 have dY:MethOk l.prog w K mg base "Machine" "lets" 5 3 [.int 0] bV:=MethOk.of (dvs:=[.int (0)]) c_Machine ⟨a15,e15,k15⟩ f_Machine_lets b15_1 (.cons ⟨_,rfl⟩ (.nil)) λ_=>.cons (bO.mpr rfl) (.nil)
 have qD:=D16.ok C (aJ8 fK lR dY);have uI:=D17.ok C (aP3 cW cO fK c_Machine bA dY uD qD tE);have cF:=D18.ok C aQp;have bL:=D19.ok C (aQq cO cF);have eQ:=D20.ok C aV4;have fL:=D21.ok C (aMi cF bL eQ);have gB:=D22.ok C (aP4 cO c_Machine bI eQ jV);have uE:=D23.ok C (aP5 c_Machine aR fL gB);have mY:=D24.ok C (aFx c_Machine bA tE bL aT2);have rP:=D25.ok C (aMj cW bL);have qF:=D26.ok C (aJ9 cF bL eQ fL rP);have jO:=D27.ok C (aMk c_Machine aR qF);have xG:=D28.ok C (aQr vY c_Machine bA bL);have oV:=D29.okF C (aIy c_Machine bA bL eQ jO xG);have eZ:=D30.ok C (aFy mY oV);have lH:=D31.ok C (aP6 cW g_LETTERS aT3);have mZ:=D32.okF C (aFz cO c_Machine bI aR jV lH);have aAt:=D33.ok C (aV5 jO);have qO:=D34.ok C (aZ5 c_Machine aR cF bL lH);have nO:=D35.ok C (aQs g_LETTERS c_Machine aR bJ cF bL aAt qO);have aAu:=D36.ok C (aV6 cF mZ nO);have fY:=M37.ok C c_Machine (aAc nY c_Machine cJ);have jX:=M38.ok C c_Machine (aG0 cP bJ fY);have jP:=D39.ok C (aMl bL qO nO uE eZ aAu jX);have dR:=M40.ok C c_EarlyNo (aJa jP);have cZ:=M41.ok C c_EarlyYes (aIz jP);have nP:=D42.ok C (aQt cO c_Machine bI cF);have aE0:=D43.ok C aZ6;have xH:=D44.ok C (aQu cO c_Machine bI aR eQ fL gB);have eO:=D45.ok C (aE1 gB eZ aE0 xH);have rQ:=D46.ok C (aMm eO);have dJ:=M47.ok C c_EarlyNo (aB1 nP rQ);have rR:=D48.ok C (aMn eO);have dB:=M49.ok C c_EarlyYes (aAd nP rR);have jD:=D50.ok C (aEw cW bR jV);have aE2:=D51.ok C (aZ7 cW nM aAe);have uF:=D52.ok C (aP7 cW aAe jD aE2 g_MOST_ROOMS g_MOST_LETTERS);have uG:=D53.ok C (aP8 cW bR nJ jV aAe);have f_Machine___init__:=aCg (P:=l.prog) (w:=w) (mg:=mg) (base:=base) cW c_Machine bI aR cJ bA jV uF uG F54;have lU:=MakeOk.of c_Machine ⟨x5_Machine,a54,e54,x6_Machine⟩ f_Machine___init__ b54 (mg_of X G c_Machine.ns);have rA:=M55.ok C c_Kind (uZ c_Machine aR dR cZ dJ dB lU);have fM:=MI0.ok C c_EarlyNo (uZ c_Machine aR dR cZ dJ dB lU);have fC:=MI1.ok C c_EarlyYes (uZ c_Machine aR dR cZ dJ dB lU);have f_law:=bIw (P:=l.prog) (w:=w) (mg:=mg) (base:=base) cW jF cO bR c_Machine bA dR cZ lU oW uH uI rA fM fC c_EarlyNo c_EarlyYes c_Kind xJ uJ aE3 xK aAv gC gW aMo uK xM F56;exact f_law
theorem bCm{q:Program} {K:Params->Frag} {as:List Addr} {t:Nat} {r:PySem.W.RowW} {d:DefRec} {kwd:List (Str×Expr)} {run:Value->List Value->Sem Value} (e:∀P,as=(K P).map (·.1)) (h:WalkO q loose XP (InK K) r d kwd run):PySem.W.WalkX q loose XP (PySem.W.X.obsZ as) (PySem.W.X.valZ K n t) r d kwd run:=
 λw s₀ s₁ mg mb G y a o pm cd doc dV kV h1 h2 h3 h4 h5 h6 args vals as' L h7 h8 h9 h10 h11=>h w s₀ s₁ mg mb G (PySem.W.InK.keeps w _ _ (PySem.W.X.z_facts e y).2.1 L.keeps) a o pm cd doc dV kV h1 h2 h3 h4 h5 h6 args vals as' h7 h8 h9 h10 h11
theorem walk{l:OpenLaw}{q:Program} {YP:World->Heap->Prop} {d:DefRec} {K:Params->Frag} (hn:l.most=some 63) (hdf:d.params.defaults=[])
  (hY:∀(w:World)(h:Heap),YP w h->(K w.params).In h)
  (hlaw:∀ns:List Int,ns.length<=63->aJn [.lst (ns.map D.int)]=.ok (.bl true))
  (F:∀(w:World)(mg:Str->Option Value)(fa:Addr)(h:Heap),(K w.params).In h->h.Ns mainGlobals mg->mg d.name=some (.ref fa)->
   ∃fd:FuncData,(∀(s:Shared)(u:Value),BindsTo s fd ⟨[u],[]⟩ [("_law_script",u)])/\∀base:Heap,(K w.params).In base->base.Ns mainGlobals mg->FnOk l.prog w (K w.params) mg base CX0 12 fa fd ["_law_script"] (spI (K w.params) 1 aJn)) :
  WalkO q loose XP YP l.row.toRowW d [] (λf vs=>PySem.call f vs):=
 L2.walk_of (n:=63) (k:=12) (x:="_law_script") (CX:=λ_=>CX0) (sp:=λw=>spI (K w.params) 1 aJn) hn (by decide) hdf ⟨rfl,by decide,by decide⟩ hY F (λ_ _ a ns hl _ hS=>bFv hS (hlaw ns hl)) λ_ _ _ _ _ z=>z
end Pu
namespace PySem.W.Fast
def tw2870931875869114496:=0
def tw1378529374543705126:=0
def tw11940920154329896360:=0
def tw11782273919236387035:=0
def tw9858845113974347728:=0
def tw1453596317349751274:=0
def tw12012303509954348824:=0
def tw8121153941857388747:=0
def tw700703445700825146:=0
def tw6130467207511205062:=0
def tw11301095681442710747:=0
def tw6387906037670697878:=0
def tw8739408566966889296:=0
def tw7258468222612372775:=0
def tw17039943022616499121:=0
def tw846444819320415972:=0
def tw7690492998101746752:=0
def tw15346348568147638251:=0
def tw5778723443683873112:=0
def tw18443914511497559111:=0
def tw1069486276036521027:=0
def tw109178466313847649:=0
def tw4518165947216738837:=0
def tw3330507970160923406:=0
def tw12695612347168072969:=0
def tw10970211870979975048:=0
def tw12293723641687973439:=0
def tw6439818803554304894:=0
def tw11675002718276019925:=0
def tw14516931742834501231:=0
def tw15464479665764780450:=0
def tw9400022491137011766:=0
def tw12687456825216669728:=0
def tw7570566193235978899:=0
def tw10065233076550393088:=0
def tw1729908507480650685:=0
def tw11920959510012683374:=0
def tw8882842117237943978:=0
def tw557153866602905971:=0
def tw14537143637844959753:=0
def tw911544631540898360:=0
def tw3534248028824464311:=0
def tw13248594605089491306:=0
def tw1625231023287486254:=0
def tw5324193054532199562:=0
def tw2831229246077455490:=0
def tw13466323995969592667:=0
def tw6471926186853130811:=0
def tw17245202278167200607:=0
def tw8194304105670049454:=0
def tw8943919460355017825:=0
def tw3727471892826147464:=0
def tw5364067433408323379:=0
def tw11100779549507627447:=0
def tw2925892049322500525:=0
def tw17742270438970039943:=0
def tw17634901358322185689:=0
def tw187825083234110065:=0
def tw16344355546394383055:=0
def tw1331926316392076271:=0
def tw13091392287720926811:=0
def tw15816806244107194296:=0
def tw4784709884151811199:=0
def tw1382731524677126781:=0
def tw10520620752171442056:=0
def tw5687634518344023483:=0
def tw17950506671141217043:=0
def tw7420536972398434344:=0
def tw4433348412712148664:=0
def tw17200403335994653828:=0
def tw2496676417307422690:=0
def tw5494160350038518747:=0
def tw8262868245765390571:=0
def tw3576058218115587423:=0
def tw15474058347811937398:=0
def tw16729848834115303922:=0
def tw8312052668329218771:=0
def tw7036576671416812155:=0
def tw9086941364120788574:=0
def tw7211709750006788824:=0
def tw15144515917398599212:=0
def tw519247521462873207:=0
def tw4337192046186944074:=0
def tw6645084394020667877:=0
def tw8636548647590449569:=0
def tw3454414627815573831:=0
def tw16586622704279883301:=0
def tw8921300922954651010:=0
def tw3743694809668611384:=0
def tw9281311593233087693:=0
def tw13068522694604626193:=0
def tw5667240396663675082:=0
def tw15447881893153524971:=0
def tw16478530280561344867:=0
def tw5835732069612974529:=0
def tw17240049776346391055:=0
def tw5530430004982952003:=0
def tw6321951568905437598:=0
def tw7932102659220176172:=0
def tw10405934568752329337:=0
def tw779570587414057911:=0
def tw1643430498387234426:=0
def tw531260604573312088:=0
def tw18390488312758229960:=0
def tw16324751553740774660:=0
def tw17262309084901396534:=0
def tw2618650906694749457:=0
def tw7583393232407496372:=0
def tw15555516215206614411:=0
end PySem.W.Fast
open PySem PySem.W PyProof.Rows
set_option maxRecDepth 100000 in
set_option maxHeartbeats 0 in
theorem PySem.Challenge.cw_looprank_k44_early_ones_holds : PySem.Challenge.rw_looprank_k44_early_ones.Holds := by
 w_on;o_law;z_head;(case hw=>w_witness2)
 k_fill
 refine Pu.bCm (λP=>by kernel_rfl) (Pu.walk (l:=PySem.Challenge.rw_looprank_k44_early_ones) rfl rfl (λw h Y=>Y) Pu.law_true ?F)
 case F=>
  intro w mg fa h KX G hmg;refine' Pu.all_mk KX G hmg ⟨?x_EarlyNo,?x1_EarlyNo,?x2_EarlyNo,?x3_EarlyNo,?x4_EarlyNo⟩ ⟨?x8_EarlyNo,?x9_EarlyNo,?y3,?y4,?xo_EarlyNo⟩ ⟨?x5_EarlyNo,?x7_EarlyNo,?x6_EarlyNo⟩ ⟨?x_EarlyYes,?x1_EarlyYes,?x2_EarlyYes,?x3_EarlyYes,?x4_EarlyYes⟩ ⟨?x8_EarlyYes,?x9_EarlyYes,?y3,?y4,?xo_EarlyYes⟩ ⟨?x5_EarlyYes,?x7_EarlyYes,?x6_EarlyYes⟩ ⟨?x_Kind,?x1_Kind,?x2_Kind,?x3_Kind,?x4_Kind⟩ ⟨?x8_Kind,?x9_Kind,?y3,?y4,?xo_Kind⟩ ⟨?x_Machine,?x1_Machine,?x2_Machine,?x3_Machine,?x4_Machine⟩ ?x5_Machine ?x6_Machine ?gW ?gC ?w_Machine_letters ?w_Machine_many ?w_Machine_ranks ?w_Machine_steps (Pu.dN ?a1 ?l1 ?c1 ?k1) (Pu.dN ?a2 ?l2 ?c2 ?k2) (Pu.dN ?a3 ?l3 ?c3 ?k3) (Pu.dN ?a4 ?l4 ?c4 ?k4) (Pu.dN ?a5 ?l5 ?c5 ?k5) (Pu.dN ?a6 ?l6 ?c6 ?k6) (Pu.dN ?a7 ?l7 ?c7 ?k7) (Pu.dN ?a8 ?l8 ?c8 ?k8) (Pu.dN ?a9 ?l9 ?c9 ?k9) (Pu.dN ?a10 ?l10 ?c10 ?k10) (Pu.dN ?a11 ?l11 ?c11 ?k11) (Pu.aBj ?a12 ?e12 ?l12 ?c12 ?k12) ?a13 ?e13 ?l13 ?c13 ?k13 ?a14 ?e14 ?l14 ?t14 ?c14 ?k14 ?a15 ?e15 ?l15 ?t15 ?c15 ?k15 (Pu.dN ?a16 ?l16 ?c16 ?k16) (Pu.dN ?a17 ?l17 ?c17 ?k17) (Pu.dN ?a18 ?l18 ?c18 ?k18) (Pu.dN ?a19 ?l19 ?c19 ?k19) (Pu.dN ?a20 ?l20 ?c20 ?k20) (Pu.dN ?a21 ?l21 ?c21 ?k21) (Pu.dN ?a22 ?l22 ?c22 ?k22) (Pu.dN ?a23 ?l23 ?c23 ?k23) (Pu.dN ?a24 ?l24 ?c24 ?k24) (Pu.dN ?a25 ?l25 ?c25 ?k25) (Pu.dN ?a26 ?l26 ?c26 ?k26) (Pu.dN ?a27 ?l27 ?c27 ?k27) (Pu.dN ?a28 ?l28 ?c28 ?k28) (Pu.dN ?a29 ?l29 ?c29 ?k29) (Pu.dN ?a30 ?l30 ?c30 ?k30) (Pu.dN ?a31 ?l31 ?c31 ?k31) (Pu.dN ?a32 ?l32 ?c32 ?k32) (Pu.dN ?a33 ?l33 ?c33 ?k33) (Pu.dN ?a34 ?l34 ?c34 ?k34) (Pu.dN ?a35 ?l35 ?c35 ?k35) (Pu.dN ?a36 ?l36 ?c36 ?k36) (Pu.aBj ?a37 ?e37 ?l37 ?c37 ?k37) (Pu.aBj ?a38 ?e38 ?l38 ?c38 ?k38) (Pu.dN ?a39 ?l39 ?c39 ?k39) (Pu.aBj ?a40 ?e40 ?l40 ?c40 ?k40) (Pu.aBj ?a41 ?e41 ?l41 ?c41 ?k41) (Pu.dN ?a42 ?l42 ?c42 ?k42) (Pu.dN ?a43 ?l43 ?c43 ?k43) (Pu.dN ?a44 ?l44 ?c44 ?k44) (Pu.dN ?a45 ?l45 ?c45 ?k45) (Pu.dN ?a46 ?l46 ?c46 ?k46) (Pu.aBj ?a47 ?e47 ?l47 ?c47 ?k47) (Pu.dN ?a48 ?l48 ?c48 ?k48) (Pu.aBj ?a49 ?e49 ?l49 ?c49 ?k49) (Pu.dN ?a50 ?l50 ?c50 ?k50) (Pu.dN ?a51 ?l51 ?c51 ?k51) (Pu.dN ?a52 ?l52 ?c52 ?k52) (Pu.dN ?a53 ?l53 ?c53 ?k53) ?a54 ?e54 ?l54 ?c54 ?k54 (Pu.aBj ?a55 ?e55 ?l55 ?c55 ?k55) ?a56 ?l56 ?c56 ?k56 (Pu.aBj ?aI0 ?eI0 ?lI0 ?cI0 ?kI0) (Pu.aBj ?aI1 ?eI1 ?lI1 ?cI1 ?kI1) ?v_LETTERS ?v_MOST_LETTERS ?v_MOST_ROOMS ?z_all ?z_bool ?z_int ?z_isinstance ?z_len ?z_list ?z_max ?z_range ?z_set ?z_sorted ?z_str ?z_tuple ?z_zip
  (case x_EarlyNo|x1_EarlyNo|x2_EarlyNo|x3_EarlyNo|x4_EarlyNo=>k_is)
  (case x8_EarlyNo=>kit_is)
  (case x9_EarlyNo|y3|y4|xo_EarlyNo|x5_EarlyNo|x7_EarlyNo|x6_EarlyNo|x_EarlyYes|x1_EarlyYes|x2_EarlyYes|x3_EarlyYes|x4_EarlyYes=>k_is)
  (case x8_EarlyYes=>kit_is)
  (case x9_EarlyYes|xo_EarlyYes|x5_EarlyYes|x7_EarlyYes|x6_EarlyYes|x_Kind|x1_Kind|x2_Kind|x3_Kind|x4_Kind=>k_is)
  (case x8_Kind=>kit_is)
  (case x9_Kind|xo_Kind|x_Machine|x1_Machine|x2_Machine|x3_Machine|x4_Machine|x5_Machine|x6_Machine=>k_is)
  (case gW|gC=>kit_is)
  (case w_Machine_letters|w_Machine_many|w_Machine_ranks|w_Machine_steps|a1|l1|c1|k1|a2|l2|c2|k2|a3|l3|c3|k3|a4|l4|c4|k4|a5|l5|c5|k5=>k_is)
  (case a6|l6|c6|k6|a7|l7|c7|k7|a8|l8|c8|k8|a9|l9|c9|k9|a10|l10|c10|k10|a11|l11|c11|k11=>k_is)
  (case a12|e12|l12|c12|k12|a13|e13|l13|c13|k13|a14|e14|l14|t14|c14|k14|a15|e15|l15|t15|c15|k15|a16|l16=>k_is)
  (case c16|k16|a17|l17|c17|k17|a18|l18|c18|k18|a19|l19|c19|k19|a20|l20|c20|k20|a21|l21|c21|k21|a22|l22=>k_is)
  (case c22|k22|a23|l23|c23|k23|a24|l24|c24|k24|a25|l25|c25|k25|a26|l26|c26|k26|a27|l27|c27|k27|a28|l28=>k_is)
  (case c28|k28|a29|l29|c29|k29|a30|l30|c30|k30|a31|l31|c31|k31|a32|l32|c32|k32|a33|l33|c33|k33|a34|l34=>k_is)
  (case c34|k34|a35|l35|c35|k35|a36|l36|c36|k36|a37|e37|l37|c37|k37|a38|e38|l38|c38|k38|a39|l39|c39|k39=>k_is)
  (case a40|e40|l40|c40|k40|a41|e41|l41|c41|k41|a42|l42|c42|k42|a43|l43|c43|k43|a44|l44|c44|k44|a45|l45=>k_is)
  (case c45|k45|a46|l46|c46|k46|a47|e47|l47|c47|k47|a48|l48|c48|k48|a49|e49|l49|c49|k49|a50|l50|c50|k50=>k_is)
  (case a51|l51|c51|k51|a52|l52|c52|k52|a53|l53|c53|k53|a54|e54|l54|c54|k54|a55|e55|l55|c55|k55|a56|l56=>k_is)
  (case c56|k56|aI0|eI0|lI0|cI0|kI0|aI1|eI1|lI1|cI1|kI1|v_LETTERS|v_MOST_LETTERS|v_MOST_ROOMS|z_all|z_bool|z_int|z_isinstance|z_len|z_list|z_max|z_range|z_set=>k_is)
  (case z_sorted|z_str|z_tuple|z_zip=>k_is)
